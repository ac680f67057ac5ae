import PyProof.Rows.All
import Wide.All
import OpenK.AllK
import Wide.FinOn
import HandS.ForMost
import HandS.IsInst
import HandS.Conv
import HandS.SetFor
import HandS.SortInts
import HandS.TupAny
import HandS.Wide
import HandS.Style
import HandS.RaiseMore
import HandS.ExcValue
import KE.SortKeyHeap
import HandS.Lambda
import HandS.EndTab
import HandS.TupMul
import HandS.Flow
import HandS.Strs
import PyProof.ReprLen
import HandS.TryOnly
import HandS.Zip
import KE.GoesMore
import KE.DataMinMax
import HandS.SortKw
import HandS.Deep
import HandS.More
import HandS.DeepEq
import PyProof.SumAny
import PyProof.ListOps
import KE.KDictZip
import PyProof.CollectIter
import HandS.ExcInit
import HandS.ExcField
import HandS.ExcIs
import HandS.Small
import HandS.WordsExc
import KE.KExcIs
import HandS.Text
import PySem.Challenge.RW_samelayout_k33_too_many_keys_and_full_ta
set_option Elab.async false
set_option linter.all false
set_option maxRecDepth 100000
namespace SL
open PySem PySem.Spec PyProof.Rows L2
structure FnG (P : Program) (w : World) (K : PySem.W.Frag) (mg : Str → Option Value) (base : Heap) (k : Nat) (f : Addr)
    (fd : FuncData) (ps : List Str) (sp : Sp) : Prop where
  size : ∀ vs H Q E, sp vs H Q E → vs.length = ps.length
  go : ∀ (A : Around) (outer : List Env) (s : Shared) (H : Hp) (args : Args) (us : List Value) (vs : List V) (Q : VK) (E : XK),
    A.guards = some [] → Room k A → Env0 P w K mg base A outer s H → BindsTo s fd args (ps.zip us) → Vals vs us →
    sp vs H Q E → codeAny (model P w) A (.call (.ref f) args) (CR CX0 outer P w H s Q E) s

section
variable {P : Program} {w : World} {K : PySem.W.Frag} {mg : Str → Option Value} {base : Heap}
theorem fnG_mk {x qual : Str} {st : Stmt} {f : Addr} {fd : FuncData} {N ps : List Str} {k : Nat} {sp : Sp}
    (F : Fun K x qual st f fd) (sc : FnScope N ps (defScope st)) (size : ∀ vs H Q E, sp vs H Q E → vs.length = ps.length)
    (body : ∀ (cdv : Value) (A : Around) (outer : List Env) (s : Shared) (H : Hp) (vs : List V) (Q : VK) (E : XK),
      A.guards = some [] → Room k (A.deeper (envOfC qual (defScope st) s.heap.objs.size f cdv)) → sp vs H Q E →
      ∃ t, PSs (cxOf CX0 P w K mg base N qual (defScope st) f cdv A outer s H E).nox (defBody st) t ∧
        t { nx := fun _ H' => Q .non H', rt := Q } (start N vs) H) : FnG P w K mg base (k + 1) f fd ps sp := by
  obtain ⟨oc, od, kV, doc, pm, an, cdv, ct, osl, rfl, look, code⟩ := F.ex
  constructor
  · exact size
  · intro A outer s H args us vs Q E hgd room env bound rel prom
    have many := size _ _ _ _ prom
    have inK : K.In s.heap := env.mod.kin.keeps fun b o q => (env.bs b o q).1
    have free : s.heap.NoLimit := env.mod.nolimit.keeps fun b o q => (env.bs b o q).1
    refine codeAny_call_function room.depth (inK _ _ look) rfl sc.co sc.gen rfl (PySem.W.codeRec_of inK code)
      (bound _ _ _ _ ?_)
    refine wpAny_newFunctionEnv_cells sc.kind ?kinds fun env' same s1 fresh => ?_
    case kinds =>
      rintro ⟨n, v⟩ here
      rcases sc.par n (List.of_mem_zip here).1 with q | q
      · exact Or.inl q
      · exact Or.inr ⟨q, PySem.W.cellsFrom_some _ _ _ (Or.inl q)⟩
    subst same
    refine ⟨free.keeps fresh.toInCall.keep, codeAny_func ?_⟩
    obtain ⟨t, der, reading⟩ := body cdv A outer s H vs Q E hgd (room.deeper _) prom
    have I := inv_start (CX := CX0) (E := E) sc room.hd env many rel fresh
    refine wpAny_mono (der.nox.run [] s1 (start N vs) H _ I reading) (fun fl s' e => ?_) fun _ _ e => e
    cases fl with
    | ret u => obtain ⟨v, σ', H', J, r', q⟩ := e; exact ⟨v, H', J.os, J.bare, J.base, J.hok, r', q⟩
    | next => obtain ⟨σ', H', J, q⟩ := e; exact ⟨.non, H', J.os, J.bare, J.base, J.hok, rfl, q⟩
    | brk => obtain ⟨_, _, _, q⟩ := e; exact False.elim q
    | cont => obtain ⟨_, _, _, q⟩ := e; exact False.elim q

theorem pe_callG {X : Cx} {k : Nat} {f : Addr} {fd : FuncData} {ps : List Str} {sp : Sp} {x : Str} {p pos : Pos} {e : Expr} {es : List Expr} {t : TA}
    (F : FnG X.prog X.w X.K X.mg X.base k f fd ps sp) (gd : X.A.guards = some []) (room : Room k X.A) (gl : Gl X x)
    (at_ : X.mg x = some (.ref f)) (keep : PySem.W.keepIn X.K (.ref f) = true) (bd : Binds X.K fd ps []) (args : PA X (e :: es) t)
    (h1 : (x == ("__debug__" : Str)) = false := by decide)
    (h2 : starEach (e :: es) X.env = (false, eval e X.env) :: starEach es X.env := by rfl)
    (h3 : (backTo pos (starEach es X.env)).any (·.1) = false := by rfl) :
    PE X (.Call (.Name x p) (e :: es) [] pos) (tCall sp [] E0 t) := by
  constructor
  intro pins s σ H Q I h
  refine wpAny_Call_Name_kw (ld_glob I gl at_ ?_ h1)
  refine PySem.W.callWith_K (h₀ := X.base) I.ok.mod.kin keep (thn (args.run pos pins s σ H _ I h) ?_) h2 h3
  rintro us s1 ⟨vs, H1, I1, rel, q⟩
  refine ⟨I1.kIn, ?_⟩
  have q' : sp vs H1 Q E0 := by have z := q; rw [List.append_nil] at z; exact z
  have long : us.length = ps.length := by rw [← rel.length]; exact F.size _ _ _ _ q'
  have bd' := bd s1 us I1.kIn (by rw [List.append_nil]; exact long)
  rw [List.append_nil] at bd'
  refine wpAny_call (codeAny_mono (F.go X.A X.stack s1 H1 ⟨us, []⟩ us vs Q E0 gd room I1.env0 bd' rel q') fun r s' here => ?_)
  cases r with
  | error _ => exact False.elim here
  | ok fl => cases fl with
    | ret _ => exact I1.after here
    | next => exact False.elim here
    | brk => exact False.elim here
    | cont => exact False.elim here
end
end SL
namespace SL
open PySem PySem.Spec PyProof.Rows L2
theorem op_powB {X : Cx} : OpR X (binaryOp .Pow) (rI (fun i j => 0 ≤ j ∧ (Builtin.Int.intBits i : Int) * j ≤ 2 ^ 27) fun i j => .int (i ^ j.toNat)) :=
  opI fun _ _ _ _ _ _ _ c q => pow_int c.1 c.2 q

def Da (K : PySem.W.Frag) (H : Hp) (v : V) (d : PyData) : Prop :=
  (Dp K H v d ∧ d.hasDict = false) ∨ ∃ a, v = .ref a ∧ H a = some (.dK []) ∧ d = .dict []
def rRepr (K : PySem.W.Frag) : List V → Hp → VK → Prop := fun xs H Q => ∃ v d, xs = [v] ∧ Da K H v d ∧ d.showable = true ∧ d.depth ≤ 50 ∧
  d.shown.length ≤ sizeLine ∧ Q (.str d.shown) H
theorem call_reprD {X : Cx} (gd : X.A.guards = some []) (hu : X.A.units + 64 < cLine) : CallR X (.builtin "repr") (rRepr X.K) := by
  intro pins s σ H xs us Q I r h
  obtain ⟨v, d, rfl, da, sh, dep, siz, q⟩ := h
  cases r with
  | cons r0 rt =>
    cases rt
    rename_i u
    have big : ∀ (a : Addr) (as : List Addr), Reads s.heap (.ref a) d as → (d.hasDict = true → sysModules ∉ as) → u = .ref a →
        wpAny (model X.prog X.w) X.A (call (.builtin "repr") [u]) (EP X pins σ Q) X.xe s := by
      intro a as rd nd e
      subst e
      refine repr_of_reads' rd sh nd gd (by omega) (fun _ _ e => e) (fun h' u tk kept => ?_) siz
      exact ⟨.str d.shown, H, I.kept kept, ⟨_, rfl⟩, q⟩
    rcases da with ⟨dp, nd⟩ | ⟨a, rfl, ha, rfl⟩
    · obtain ⟨as, rd⟩ := Dp.reads I d v u dp r0
      cases dp with
      | non => cases r0; exact PySem.P.repr_of_none ⟨.str _, H, I.tok _, ⟨_, rfl⟩, q⟩
      | bl b => cases r0; exact PySem.P.repr_of_bool ⟨.str _, H, I.tok _, ⟨_, rfl⟩, q⟩
      | int i =>
        obtain ⟨t, rfl⟩ := r0
        exact PySem.P.repr_of_int (of_decide_eq_true sh) ⟨.str _, H, I.tok _, ⟨_, rfl⟩, q⟩
      | str x =>
        obtain ⟨t, rfl⟩ := r0
        exact PySem.P.repr_of_str (h := ⟨.str _, H, I.tok _, ⟨_, rfl⟩, q⟩) siz
      | lst _ _ => cases r0; exact big _ as rd (fun z => by rw [nd] at z; cases z) rfl
      | tup _ _ => cases r0; exact big _ as rd (fun z => by rw [nd] at z; cases z) rfl
    · cases r0
      obtain ⟨_, ns, vs, kv, o, es, ep, e, ex, dt, rest⟩ := I.hok a _ ha
      cases kv
      have e0 : es.toList = [] := by
        have z := rest.2.1.length
        cases q : es.toList with
        | nil => rfl
        | cons x y => rw [q] at z; cases z
      refine big a ([a]) ?_ (fun _ m => ?_) rfl
      · exact Reads.dict (as := []) (bs := []) e ex.1 dt (by rw [e0]; exact .nil) (by rw [e0]; exact .nil)
      · rw [List.mem_singleton] at m
        rw [← m] at ns
        simp at ns

end SL
namespace SL
open PySem PySem.Spec PyProof.Rows L2 PySem.W PySem.Calls
section
variable {P : Program} {w : World} {A : Around} {E : Value → Shared → Prop} {s : Shared} {a : Addr} {f : Value} {n : Nat} {vs : List Value} {kz : List PyData} {Q : PySem.Fin → Shared → Prop}
end
section
variable {P : Program} {w : World} {A : Around} {E : Value → Shared → Prop} {s : Shared} {r fa : Addr} {hi : Int} {t u v : Tok} {m : Nat} {Q : Value → Shared → Prop} {kz : List PyData}
end
end SL
namespace SL
open PySem PySem.Spec PyProof.Rows L2 LamX
structure LamP (sc scope : Scope) (x : Str) : Prop where
  kind : scope.kind = .function
  co : scope.isCoroutine = false
  gen : scope.isGenerator = false
  mine : scope.names.lookup x = some .local
  only : ∀ y ∈ scope.names, y.2 ≠ .cell ∧ (y.2 = .local → y.1 = x)
  from_ : ∀ y ∈ scope.names, y.2 = .free → sc.names.lookup y.1 = some .cell ∨ sc.names.lookup y.1 = some .free
section
variable {X : Cx} {pins : List (Addr × Obj)} {σ : L2.St} {H : Hp} {s : Shared}
theorem LamP.has {scope : Scope} {x : Str} (L : LamP X.env.scope scope x) (ok : X.Ok) : ∀ y ∈ scope.names, y.2 = .free → ∃ c, X.env.cells.lookup y.1 = some c := fun y hy e => ok.has _ (L.from_ y hy e)
end
end SL
namespace SL
open PySem PySem.Spec PyProof.Rows L2 LamX PySem.W
def KeyV (H : Hp) (z : V) (d : PyData) : Prop := (∃ i : Int, z = .int i ∧ d = .int i) ∨ ∃ (t : Addr) (i j : Int), z = .ref t ∧ H t = some (.tup [.int i, .int j]) ∧ d = .tuple [.int i, .int j]
theorem KeyV.same {H H' : Hp} {z : V} {d : PyData} (k : KeyV H z d) (s : Same H H') : KeyV H' z d := by
  rcases k with h | ⟨t, i, j, a, b, c⟩
  · exact Or.inl h
  · exact Or.inr ⟨t, i, j, a, s _ _ b, c⟩
theorem KeyV.reads {P : Program} {w : World} {H : Hp} {h : Heap} {z : V} {u : Value} {d : PyData} (k : KeyV H z d) (ok : HOk P w H h) (r : RelV z u) : ∃ as, Reads h u d as := by
  rcases k with ⟨i, rfl, rfl⟩ | ⟨t, i, j, rfl, ht, rfl⟩
  · obtain ⟨t, rfl⟩ := r
    exact ⟨_, .int i t⟩
  · obtain rfl : u = Value.ref t := r
    obtain ⟨_, its, rv, ob, e, cl, n, dat⟩ := ok t _ ht
    cases rv with
    | cons r1 t1 =>
      cases t1 with
      | cons r2 t2 =>
        cases t2
        obtain ⟨t1, rfl⟩ := r1
        obtain ⟨t2, rfl⟩ := r2
        exact ⟨_, .tuple e cl dat (.cons (.int i t1) (.cons (.int j t2) .nil))⟩
section
variable {X : Cx} {pins : List (Addr × Obj)} {σ : L2.St} {H H0 : Hp} {s s0 : Shared}
end
end SL
namespace SL
open PySem PySem.Spec PyProof.Rows L2 LamX PySem.W
theorem lawGT {P : Program} {w : World} {K : PySem.W.Frag} {mg mb : Str → Option Value} {k : Nat} {fa a : Addr} {fd : FuncData} {x : Str} {sp : Sp} {cs : List (Addr × Addr)}
    {s₁ : Shared} {vs : List Value} {ns : List Int} (inK : K.In s₁.heap) (gl : s₁.heap.Ns mainGlobals mg) (bl : s₁.heap.Ns builtinsNs mb)
    (bb : ∀ x : Str, x ≠ "__name__" → mb x = bootBuiltins x) (lim : s₁.heap.NoLimit) (gens : s₁.gens = #[])
    (emp : ∀ p ∈ cs, s₁.heap.get? p.2 = some (tabObj #[])) (outT : ∀ p ∈ cs, K.lookup p.2 = none) (codes : ∀ p ∈ cs, CodeHd s₁.heap p.1 p.2)
    (main : ∃ (bm : Addr) (ob : Obj), mg "__builtins__" = some (.ref bm) ∧ bm ≠ builtinsNs ∧ s₁.heap.get? bm = some ob ∧ ob.cls = .type "module" ∧ ob.dict = some builtinsNs ∧ ob.data = .plain)
    (obj : s₁.heap.get? a = some { cls := .type "list", data := .seq vs.toArray }) (nums : IntsAre vs ns) (few : ns.length ≤ sizeLine) (room : Room k callerA)
    (F : ∀ base : Heap, K.In base → base.Ns mainGlobals mg → (∀ p ∈ cs, TabB base mg p.1 p.2) → FnG P w K mg base k fa fd [x] sp)
    (bound : ∀ (s : Shared) (u : Value), BindsTo s fd ⟨[u], []⟩ [(x, u)])
    (prom : ∀ H : Hp, (∀ p ∈ cs, H p.2 = some (.tbl #[])) → SqL K H a (ns.map V.int) → sp [.ref a] H (fun v _ => v = .bl true) E0) :
    codeAny (model P w) callerA (.call (.ref fa) ⟨[.ref a], []⟩)
      (fun r s' => r = .ok (.ret (.bool true)) ∧ OldK s₁.heap s'.heap ∧ s'.os = s₁.os ∧ AllBare s'.gens) s₁ := by
  have rel := vals_ints nums
  have empty : ∀ b : Addr, (∃ p ∈ cs, p.2 = b) → s₁.heap.get? b = some (tabObj #[]) := by
    rintro b ⟨p, hp, rfl⟩
    exact emp p hp
  have apart : ¬ ∃ p ∈ cs, p.2 = a := fun z => by
    have e := empty a z
    rw [obj] at e
    cases (show Data.seq vs.toArray _ = Data.fields #[] from congrArg Obj.data (Option.some.inj e))
  have inner : ∀ H : Hp, (∀ b, H b = none ∨ ((∃ p ∈ cs, p.2 = b) ∧ H b = some (.tbl #[])) ∨ (b = a ∧ ∃ ob xs, H b = some (.frz ob (.lst xs)))) → (∀ p ∈ cs, H p.2 = some (.tbl #[])) → SqL K H a (ns.map V.int) → HOk P w H s₁.heap → (H a ≠ none → K.lookup a = none) →
      codeAny (model P w) callerA (.call (.ref fa) ⟨[.ref a], []⟩) (fun r s' => r = .ok (.ret (.bool true)) ∧ OldK s₁.heap s'.heap ∧ s'.os = s₁.os ∧ AllBare s'.gens) s₁ := by
    intro H kinds tabs seq hok outA
    have other : ∀ {b : Addr} {o : Obj}, s₁.heap.get? b = some o → (∀ us n, o.data ≠ .seq us n) → o.data ≠ .fields #[] → H b = none := by
      intro b o e n1 n2
      rcases kinds b with z | ⟨z, _⟩ | ⟨rfl, _⟩
      · exact z
      · rw [empty b z] at e
        cases e
        exact absurd rfl n2
      · rw [obj] at e
        cases e
        exact absurd rfl (n1 _ _)
    have nsH : ∀ {b : Addr} {m : Str → Option Value}, s₁.heap.Ns b m → (hidT s₁.heap H).Ns b m := by
      rintro b m ⟨o, es, ep, e, d, r⟩
      refine ⟨o, es, ep, hidT_get e (other e (fun us n z => ?_) fun z => ?_), d, r⟩ <;> (rw [d] at z; cases z)
    have kH : K.In (hidT s₁.heap H) := by
      intro b o e
      refine hidT_get (inK b o e) ?_
      rcases kinds b with z | ⟨⟨p, hp, rfl⟩, _⟩ | ⟨rfl, ob, xs, z⟩
      · exact z
      · rw [outT p hp] at e
        cases e
      · rw [outA (by rw [z]; intro y; cases y)] at e
        cases e
    have limH : (hidT s₁.heap H).NoLimit := by
      obtain ⟨mc, h1, h2⟩ := lim
      exact ⟨mc, nsH h1, h2⟩
    have tb : ∀ p ∈ cs, TabB (hidT s₁.heap H) mg p.1 p.2 := by
      intro p hp
      have ep := emp p hp
      refine ⟨?_, ?_, fun z => ?_⟩
      · obtain ⟨o, us, f1, t1, f2, t2, b1, n1, t3, e1, e2, e3, e4, rest⟩ := codes p hp
        refine ⟨o, us, f1, t1, f2, t2, b1, n1, t3, hidT_get e1 (other e1 (fun vs n z => ?_) fun z => ?_), e2, e3, e4, rest⟩
        · rw [e3] at z
          cases z
        · rw [e3] at z
          cases z
          simp at e4
      · obtain ⟨bm, ob, m1, m2, m3, m4, m5, m6⟩ := main
        refine ⟨bm, ob, m1, m2, fun z => ?_, fun z => ?_, hidT_get m3 (other m3 (fun vs n z => ?_) fun z => ?_), m4, m5, m6⟩
        · obtain ⟨o, es, e', e, d, _⟩ := gl
          rw [z, e] at m3
          cases m3
          rw [d] at m6
          cases m6
        · rw [z, ep] at m3
          cases m3
          cases m6
        · rw [m6] at z
          cases z
        · rw [m6] at z
          cases z
      · obtain ⟨o, es, e', e, d, _⟩ := gl
        rw [z, ep] at e
        cases e
        cases d
    have env : Env0 P w K mg (hidT s₁.heap H) callerA [] s₁ H := by
      refine ⟨rfl, ⟨kH, nsH gl, ⟨mb, nsH bl, bb⟩, limH⟩, fun b o e => of_hidT e, Nat.le_of_eq (hidT_size _ _), trivial, ?_, hok, .of_eq gens⟩
      intro b hb
      cases (show b ∈ ([] : List Addr) from hb)
    have G := F _ kH (nsH gl) tb
    refine codeAny_mono (G.go callerA [] s₁ H ⟨[.ref a], []⟩ [.ref a] [.ref a] _ _ rfl room env (bound s₁ (.ref a)) (.cons rfl .nil) (prom H tabs seq)) ?_
    intro r s' h
    cases r with
    | error e => exact False.elim h
    | ok fl => cases fl with
      | next => exact False.elim h
      | brk => exact False.elim h
      | cont => exact False.elim h
      | ret u =>
        obtain ⟨v, H', os, bare, un, hok', r', q⟩ := h
        obtain rfl : v = .bl true := q
        obtain rfl : u = Value.bool true := r'
        have grown : ∀ p ∈ cs, ∃ more : Array Value, s'.heap.get? p.2 = some (tabObj more) := by
          intro p hp
          obtain ⟨more, z⟩ := un.tbls p.2 #[] (tabs p hp)
          exact ⟨_, hok' p.2 _ z⟩
        have stays : ∀ b o, (¬ ∃ p ∈ cs, p.2 = b) → s₁.heap.get? b = some o → s'.heap.get? b = some o := by
          intro b o nb e
          rcases kinds b with z | ⟨z, _⟩ | ⟨_, ob, xs, z⟩
          · exact un.keep b o e z (fun m => by cases (show b ∈ ([] : List Addr) from m)) (fun m => by cases m)
          · exact absurd z nb
          · obtain ⟨e1, _⟩ := hok b _ z
            obtain ⟨e2, _⟩ := hok' b _ (un.frzs b ob _ z)
            rw [e] at e1
            cases e1
            exact e2
        refine ⟨rfl, ⟨fun b o e => ?_, fun b o e => ?_⟩, os, bare⟩
        · by_cases z : ∃ p ∈ cs, p.2 = b
          · obtain ⟨p, hp, rfl⟩ := z
            obtain ⟨more, hm⟩ := grown p hp
            rw [emp p hp] at e
            cases e
            exact .inr (.inl ⟨((codes p hp).tab (emp p hp)).isCodeTable, rfl, #[], more, rfl, (by rw [Array.empty_append]; exact hm)⟩)
          · exact .inl (stays b o z e)
        · by_cases z : ∃ p ∈ cs, p.2 = b
          · obtain ⟨p, hp, rfl⟩ := z
            obtain ⟨more, hm⟩ := grown p hp
            exact ⟨_, hm⟩
          · exact ⟨o, stays b o z e⟩
  classical
  cases written : K.lookup a with
  | some o =>
    have e := inK a o written
    rw [obj] at e
    cases e
    have yes : ∀ b, (∃ p ∈ cs, p.2 = b) → (fun b => if ∃ p ∈ cs, p.2 = b then some (HO.tbl #[]) else none) b = some (HO.tbl #[]) := fun b z => if_pos z
    have no : ∀ b, (¬ ∃ p ∈ cs, p.2 = b) → (fun b => if ∃ p ∈ cs, p.2 = b then some (HO.tbl #[]) else none) b = none := fun b z => if_neg z
    refine inner (fun b => if ∃ p ∈ cs, p.2 = b then some (HO.tbl #[]) else none) (fun b => ?_) (fun p hp => yes _ ⟨p, hp, rfl⟩) (Or.inr ⟨_, vs.toArray, _, written, rfl, rfl, rfl, ?_, ?_⟩) (fun b u z => ?_) (fun z => absurd (no a apart) z)
    · by_cases z : ∃ p ∈ cs, p.2 = b
      · exact Or.inr (Or.inl ⟨z, yes b z⟩)
      · exact Or.inl (no b z)
    · rw [List.size_toArray, nums.length]; exact few
    · simpa using rel
    · by_cases y : ∃ p ∈ cs, p.2 = b
      · have z' := (yes b y).symm.trans z
        cases z'
        exact empty b y
      · have z' := (no b y).symm.trans z
        cases z'
  | none =>
    have at_ : ∀ b, b = a → (fun b => if b = a then some (HO.frz { cls := .type "list", data := .seq vs.toArray } (.lst (ns.map V.int))) else if ∃ p ∈ cs, p.2 = b then some (HO.tbl #[]) else none) b = some (HO.frz { cls := .type "list", data := .seq vs.toArray } (.lst (ns.map V.int))) := fun b z => if_pos z
    have yes : ∀ b, b ≠ a → (∃ p ∈ cs, p.2 = b) → (fun b => if b = a then some (HO.frz { cls := .type "list", data := .seq vs.toArray } (.lst (ns.map V.int))) else if ∃ p ∈ cs, p.2 = b then some (HO.tbl #[]) else none) b = some (HO.tbl #[]) := fun b y z => (if_neg y).trans (if_pos z)
    have no : ∀ b, b ≠ a → (¬ ∃ p ∈ cs, p.2 = b) → (fun b => if b = a then some (HO.frz { cls := .type "list", data := .seq vs.toArray } (.lst (ns.map V.int))) else if ∃ p ∈ cs, p.2 = b then some (HO.tbl #[]) else none) b = none := fun b y z => (if_neg y).trans (if_neg z)
    have ne : ∀ b, (∃ p ∈ cs, p.2 = b) → b ≠ a := fun b z y => apart (by rw [← y]; exact z)
    refine inner (fun b => if b = a then some (HO.frz { cls := .type "list", data := .seq vs.toArray } (.lst (ns.map V.int))) else if ∃ p ∈ cs, p.2 = b then some (HO.tbl #[]) else none) (fun b => ?_) (fun p hp => yes _ (ne _ ⟨p, hp, rfl⟩) ⟨p, hp, rfl⟩) (Or.inl (Or.inr ⟨_, at_ a rfl⟩)) (fun b u z => ?_) (fun _ => written)
    · by_cases y : b = a
      · exact Or.inr (Or.inr ⟨y, _, _, at_ b y⟩)
      · by_cases z : ∃ p ∈ cs, p.2 = b
        · exact Or.inr (Or.inl ⟨z, yes b y z⟩)
        · exact Or.inl (no b y z)
    · by_cases y : b = a
      · have z' := (at_ b y).symm.trans z
        cases z'
        subst y
        exact ⟨obj, by rw [List.length_map]; exact few, vs, _, rel, obj⟩
      · by_cases y2 : ∃ p ∈ cs, p.2 = b
        · have z' := (yes b y y2).symm.trans z
          cases z'
          exact empty b y2
        · have z' := (no b y y2).symm.trans z
          cases z'
theorem walkGT {l : PySem.W.OpenLaw} {n k : Nat} {q : Program} {loose : List Str} {XP : (Str → Option Value) → Heap → Prop} {YP : World → Heap → Prop}
    {d : DefRec} {K : Params → PySem.W.Frag} {sp : List (Addr × Addr) → PySem.W.Frag → Sp} {x : Str} (names : List Str) (most : l.most = some n) (few : n ≤ sizeLine)
    (plain : d.params.defaults = []) (room : Room k callerA) (inK : ∀ (w : World) (h : Heap), YP w h → (K w.params).In h) (recs : ∀ y ∈ names, ((recsOf q).find? fun e => e.name == y).isSome = true)
    (F : ∀ (w : World) (mg : Str → Option Value) (fa : Addr) (h : Heap), (K w.params).In h → h.Ns mainGlobals mg → mg d.name = some (.ref fa) →
      ∃ (cs : List (Addr × Addr)) (fd : FuncData), (∀ p ∈ cs, ∃ y ∈ names, tabIn (K w.params) y = some p) ∧ (∀ p ∈ cs, (K w.params).lookup p.2 = none) ∧ (∀ (s : Shared) (u : Value), BindsTo s fd ⟨[u], []⟩ [(x, u)]) ∧
        (∀ base : Heap, (K w.params).In base → base.Ns mainGlobals mg → (∀ p ∈ cs, TabB base mg p.1 p.2) → FnG l.prog w (K w.params) mg base k fa fd [x] (sp cs (K w.params))))
    (prom : ∀ (cs : List (Addr × Addr)) (K : PySem.W.Frag) (H : Hp) (a : Addr) (ns : List Int), ns.length ≤ n → (∀ p ∈ cs, H p.2 = some (.tbl #[])) → SqL K H a (ns.map V.int) →
      sp cs K [.ref a] H (fun v _ => v = .bl true) E0) :
    PySem.W.WalkO q loose XP YP l.row.toRowW d [] (fun f vs => PySem.call f vs) := by
  refine Att.attach_call most plain ?_
  intro w s₀ s₁ mg mb fa o pm cd doc a vs ns G Y ho hd hcd named obj nums len gens
  obtain ⟨cs, fd, from_, out, bound, hF⟩ := F w mg fa _ (inK w _ Y) G.T.g named
  have tabs : ∀ p ∈ cs, CodeHd s₁.heap p.1 p.2 ∧ s₁.heap.get? p.2 = some (tabObj #[]) := by
    intro p hp
    obtain ⟨y, hy, e⟩ := from_ p hp
    obtain ⟨r, hr⟩ := Option.isSome_iff_exists.mp (recs y hy)
    exact tab_of G.T (inK w _ Y) hr e
  exact lawGT (inK w _ Y) G.T.g G.T.b G.T.builtins G.T.nolimit gens (fun p hp => (tabs p hp).2) out (fun p hp => (tabs p hp).1) G.T.bmain obj nums (Nat.le_trans len few) room hF bound
    (fun H em seq => prom cs (K w.params) H a ns len em seq)
end SL
namespace DL
open PySem PySem.Spec PyProof.Rows L2 LamX PySem.W SL
inductive D where
  | non | bl (b : Bool) | int (i : Int) | str (x : Str) | tup (ds : List D) | tuk (ds : List D) | lst (ds : List D) | scr (ds : List D) | ref (n : Nat)
inductive O where
  | lst (ds : List D)
  | dK (kvs : List (Key × D))
  | dT (kvs : List (List Key × D))
abbrev DSt := List O
abbrev DEnv := List (Option D)
abbrev DK := D → DSt → Prop
structure Pl where
  h : Nat
  m : List Addr
def Pl.at_ (M : Pl) (n : Nat) : Option Addr := M.m[M.h + n]?
def Pl.app (M : Pl) (l : List Addr) : Pl := ⟨M.h, M.m ++ l⟩
mutual
inductive RV (K : PySem.W.Frag) (M : Pl) (H : Hp) : D → V → Prop
  | non : RV K M H .non .non
  | bl (b : Bool) : RV K M H (.bl b) (.bl b)
  | int (i : Int) : RV K M H (.int i) (.int i)
  | str (x : Str) : RV K M H (.str x) (.str x)
  | tup {a : Addr} {ob : Obj} {xs : List V} {ds : List D} : a ∉ M.m → H a = some (.frz ob (.tup xs)) → ob.dict = none → RVs K M H ds xs → RV K M H (.tup ds) (.ref a)
  | tuk {a : Addr} {xs : List V} {ds : List D} : a ∉ M.m → H a = some (.tup xs) → RVs K M H ds xs → RV K M H (.tuk ds) (.ref a)
  | lst {a : Addr} {xs : List V} {ds : List D} : a ∉ M.m → H a = some (.lst xs) → RVs K M H ds xs → RV K M H (.lst ds) (.ref a)
  | scr {a : Addr} {xs : List V} {ds : List D} : a ∉ M.m → Rd H a (.lst xs) → RVs K M H ds xs → RV K M H (.scr ds) (.ref a)
  | lsk {a : Addr} {xs : List V} {ds : List D} : (∀ G : Hp, SqL K G a xs) → RVs K M H ds xs → RV K M H (.scr ds) (.ref a)
  | ref {n : Nat} {a : Addr} : M.at_ n = some a → RV K M H (.ref n) (.ref a)
inductive RVs (K : PySem.W.Frag) (M : Pl) (H : Hp) : List D → List V → Prop
  | nil : RVs K M H [] []
  | cons {d : D} {v : V} {ds : List D} {vs : List V} : RV K M H d v → RVs K M H ds vs → RVs K M H (d :: ds) (v :: vs)
end
def NT (H : Hp) (a : Addr) : Prop := ∃ o, H a = some o ∧ ∀ ps, o ≠ .tbl ps
theorem NT.no {H : Hp} {a : Addr} (h : H a = none) : ¬ NT H a := fun ⟨o, e, _⟩ => by rw [h] at e; cases e
theorem NT.upd {H : Hp} {a p : Addr} {o : HO} (h : NT H a) (ne : a ≠ p) : NT (upd H p o) a := by
  obtain ⟨u, e, n⟩ := h
  exact ⟨u, by rw [upd_ne ne]; exact e, n⟩
theorem NT.ne {H : Hp} {a p : Addr} (h : NT H a) (np : H p = none) : a ≠ p := fun z => NT.no np (by rw [← z]; exact h)
structure Grow (M : Pl) (H : Hp) (M' : Pl) (H' : Hp) : Prop where
  more : ∃ m, M' = M.app m ∧ ∀ a ∈ m, ¬ NT H a
  keep : ∀ a o, a ∉ M.m → H a = some o → (∀ ps, o ≠ .tbl ps) → H' a = some o
  there : ∀ a, NT H a → NT H' a
  hid : ∀ a ∈ M.m.take M.h, H' a = H a
theorem Pl.app_nil (M : Pl) : M.app [] = M := by unfold Pl.app; rw [List.append_nil]
theorem Grow.refl (M : Pl) (H : Hp) : Grow M H M H := ⟨⟨[], (Pl.app_nil M).symm, fun _ h => nomatch h⟩, fun _ _ _ h _ => h, fun _ h => h, fun _ _ => rfl⟩
theorem Grow.notin {M M' : Pl} {H H' : Hp} (g : Grow M H M' H') {a : Addr} (h : a ∉ M.m) (t : NT H a) : a ∉ M'.m := by
  obtain ⟨m, rfl, fr⟩ := g.more
  intro z
  rcases List.mem_append.mp z with z | z
  · exact h z
  · exact fr a z t
theorem take_app {M : Pl} {m : List Addr} {a : Addr} (h : a ∈ M.m.take M.h) : a ∈ (M.app m).m.take (M.app m).h := by
  show a ∈ (M.m ++ m).take M.h
  rw [List.take_append]
  exact List.mem_append_left _ h
theorem Grow.trans {M M1 M2 : Pl} {H H1 H2 : Hp} (a : Grow M H M1 H1) (b : Grow M1 H1 M2 H2) : Grow M H M2 H2 := by
  refine ⟨?_, fun c o n h t => ?_, fun c h => b.there c (a.there c h), fun c hc => ?_⟩
  · obtain ⟨m1, rfl, f1⟩ := a.more
    obtain ⟨m2, rfl, f2⟩ := b.more
    refine ⟨m1 ++ m2, by unfold Pl.app; simp, fun c hc => ?_⟩
    rcases List.mem_append.mp hc with z | z
    · exact f1 c z
    · exact fun q => f2 c z (a.there c q)
  · exact b.keep c o (a.notin n ⟨o, h, t⟩) (a.keep c o n h t) t
  · obtain ⟨m1, rfl, f1⟩ := id a.more
    exact (b.hid c (take_app hc)).trans (a.hid c hc)
theorem Grow.get {M M' : Pl} {H H' : Hp} (g : Grow M H M' H') {n : Nat} {a : Addr} (h : M.at_ n = some a) : M'.at_ n = some a := by
  obtain ⟨m, rfl, _⟩ := g.more
  unfold Pl.at_ at h ⊢
  show (M.m ++ m)[M.h + n]? = some a
  rw [List.getElem?_append_left (List.getElem?_eq_some_iff.mp h).1]
  exact h
theorem Pl.at_mem {M : Pl} {n : Nat} {a : Addr} (h : M.at_ n = some a) : a ∈ M.m := List.mem_of_getElem? h

def HidOk (M : Pl) (H : Hp) : Prop := ∀ a ∈ M.m.take M.h, ∃ xs, H a = some (.lst xs)
theorem Grow.new {M : Pl} {H : Hp} {p : Addr} {o : HO} (ho : HidOk M H) (h : H p = none) : Grow M H M (upd H p o) :=
  ⟨⟨[], (Pl.app_nil M).symm, fun _ h => nomatch h⟩, fun a u _ e _ => by rw [upd_ne (ne_of_none e h)]; exact e, fun a e => e.upd (e.ne h), fun a ha => by
    obtain ⟨xs, e⟩ := ho a ha
    exact upd_ne (ne_of_none e h)⟩
theorem Grow.place {M : Pl} {H : Hp} {p : Addr} {o : HO} (ho : HidOk M H) (h : H p = none) : Grow M H (M.app [p]) (upd H p o) :=
  ⟨⟨[p], rfl, fun a ha => by rw [List.mem_singleton.mp ha]; exact NT.no h⟩, (Grow.new ho h).keep, (Grow.new ho h).there, (Grow.new ho h).hid⟩
theorem Grow.write {M : Pl} {H : Hp} {n : Nat} {p : Addr} {o : HO} (nd : M.m.Nodup) (hp : M.at_ n = some p) (no : ∀ ps, o ≠ .tbl ps := by intro ps z; cases z) : Grow M H M (upd H p o) :=
  ⟨⟨[], (Pl.app_nil M).symm, fun _ h => nomatch h⟩, fun a u n e _ => by rw [upd_ne (fun z : a = p => n (by rw [z]; exact Pl.at_mem hp))]; exact e, fun a e => by
    by_cases z : a = p
    · rw [z]; exact ⟨o, upd_same, no⟩
    · exact e.upd z, fun a ha => by
    refine upd_ne fun z => ?_
    subst z
    obtain ⟨i, hi⟩ := List.mem_iff_getElem?.mp ha
    rw [List.getElem?_take] at hi
    split at hi
    · obtain ⟨l1, q1⟩ := List.getElem?_eq_some_iff.mp hi
      obtain ⟨l2, q2⟩ := List.getElem?_eq_some_iff.mp hp
      have := (List.getElem_inj nd).mp (q1.trans q2.symm)
      omega
    · cases hi⟩
theorem Rd.grow {M M' : Pl} {H H' : Hp} (g : Grow M H M' H') {a : Addr} {xs : List V} (n : a ∉ M.m) (r : Rd H a (.lst xs)) : Rd H' a (.lst xs) := by
  rcases r with r | ⟨o, r⟩
  · exact .inl (g.keep a _ n r (fun ps z => by cases z))
  · exact .inr ⟨o, g.keep a _ n r (fun ps z => by cases z)⟩
theorem Rd.there {H : Hp} {a : Addr} {xs : List V} (r : Rd H a (.lst xs)) : NT H a := by
  rcases r with r | ⟨o, r⟩ <;> exact ⟨_, r, fun ps z => by cases z⟩
mutual
theorem RV.grow {K : PySem.W.Frag} {M M' : Pl} {H H' : Hp} (g : Grow M H M' H') : ∀ {d : D} {v : V}, RV K M H d v → RV K M' H' d v
  | _, _, .non => .non
  | _, _, .bl b => .bl b
  | _, _, .int i => .int i
  | _, _, .str x => .str x
  | _, _, .tup n h e r => .tup (g.notin n ⟨_, h, fun ps z => by cases z⟩) (g.keep _ _ n h (fun ps z => by cases z)) e (r.grow g)
  | _, _, .tuk n h r => .tuk (g.notin n ⟨_, h, fun ps z => by cases z⟩) (g.keep _ _ n h (fun ps z => by cases z)) (r.grow g)
  | _, _, .lst n h r => .lst (g.notin n ⟨_, h, fun ps z => by cases z⟩) (g.keep _ _ n h (fun ps z => by cases z)) (r.grow g)
  | _, _, .scr n h r => .scr (g.notin n (Rd.there h)) (Rd.grow g n h) (r.grow g)
  | _, _, .lsk h r => .lsk h (r.grow g)
  | _, _, .ref h => .ref (g.get h)
theorem RVs.grow {K : PySem.W.Frag} {M M' : Pl} {H H' : Hp} (g : Grow M H M' H') : ∀ {d : List D} {v : List V}, RVs K M H d v → RVs K M' H' d v
  | _, _, .nil => .nil
  | _, _, .cons h t => .cons (h.grow g) (t.grow g)
end
def RO (K : PySem.W.Frag) (M : Pl) (H : Hp) : O → Addr → Prop
  | .lst ds, a => ∃ xs, H a = some (.lst xs) ∧ RVs K M H ds xs
  | .dK kvs, a => ∃ ys : List (Key × V), H a = some (.dK ys) ∧ kvs.map (·.1) = ys.map (·.1) ∧ RVs K M H (kvs.map (·.2)) (ys.map (·.2))
  | .dT kvs, a => ∃ ys : List (List Key × V), H a = some (.dT ys) ∧ kvs.map (·.1) = ys.map (·.1) ∧ RVs K M H (kvs.map (·.2)) (ys.map (·.2))
structure RS (T : List (Addr × Str)) (K : PySem.W.Frag) (M : Pl) (st : DSt) (H : Hp) : Prop where
  len : M.m.length = M.h + st.length
  nd : M.m.Nodup
  obj : ∀ (n : Nat) (a : Addr) (o : O), M.at_ n = some a → st[n]? = some o → RO K M H o a
  tabs : Tabs T H
  hid : HidOk M H
structure RE (K : PySem.W.Frag) (M : Pl) (H : Hp) (r : DEnv) (σ : L2.St) : Prop where
  len : r.length = σ.length
  at_ : ∀ (i : Nat) (d : D), r[i]? = some (some d) → ∃ v, σ[i]? = some (some v) ∧ RV K M H d v
theorem RE.grow {K : PySem.W.Frag} {M M' : Pl} {H H' : Hp} {r : DEnv} {σ : L2.St} (h : RE K M H r σ) (g : Grow M H M' H') : RE K M' H' r σ :=
  ⟨h.len, fun i d e => by obtain ⟨v, e1, e2⟩ := h.at_ i d e; exact ⟨v, e1, e2.grow g⟩⟩
theorem RO.stay {K : PySem.W.Frag} {M M' : Pl} {H H' : Hp} (g : Grow M H M' H') {o : O} {a : Addr} (h : RO K M H o a) (e : H' a = H a) : RO K M' H' o a := by
  cases o with
  | lst ds => obtain ⟨xs, h1, h2⟩ := h; exact ⟨xs, e.trans h1, h2.grow g⟩
  | dK kvs => obtain ⟨ys, h1, h2, h3⟩ := h; exact ⟨ys, e.trans h1, h2, h3.grow g⟩
  | dT kvs => obtain ⟨ys, h1, h2, h3⟩ := h; exact ⟨ys, e.trans h1, h2, h3.grow g⟩
theorem RO.mut {K : PySem.W.Frag} {M : Pl} {H : Hp} {o : O} {a : Addr} (h : RO K M H o a) : (∃ xs, H a = some (.lst xs)) ∨ (∃ xs, H a = some (.dK xs)) ∨ ∃ xs, H a = some (.dT xs) := by
  cases o with
  | lst ds => obtain ⟨xs, h1, h2⟩ := h; exact .inl ⟨_, h1⟩
  | dK kvs => obtain ⟨ys, h1, h2, h3⟩ := h; exact .inr (.inl ⟨_, h1⟩)
  | dT kvs => obtain ⟨ys, h1, h2, h3⟩ := h; exact .inr (.inr ⟨_, h1⟩)
theorem RS.atM {T : List (Addr × Str)} {K : PySem.W.Frag} {M : Pl} {st : DSt} {H : Hp} (h : RS T K M st H) {n : Nat} {a : Addr} (e : M.at_ n = some a) : ∃ o, st[n]? = some o ∧ RO K M H o a := by
  have lt : n < st.length := by
    have := (List.getElem?_eq_some_iff.mp e).1
    have := h.len
    omega
  exact ⟨st[n], List.getElem?_eq_getElem lt, h.obj n a _ e (List.getElem?_eq_getElem lt)⟩
theorem RS.addr {T : List (Addr × Str)} {K : PySem.W.Frag} {M : Pl} {st : DSt} {H : Hp} (h : RS T K M st H) {n : Nat} {o : O} (e : st[n]? = some o) : ∃ a, M.at_ n = some a ∧ RO K M H o a := by
  have lt : M.h + n < M.m.length := by
    rw [h.len]
    have := (List.getElem?_eq_some_iff.mp e).1
    omega
  exact ⟨M.m[M.h + n], List.getElem?_eq_getElem lt, h.obj n _ o (List.getElem?_eq_getElem lt) e⟩
theorem RS.mutAt {T : List (Addr × Str)} {K : PySem.W.Frag} {M : Pl} {st : DSt} {H : Hp} (h : RS T K M st H) {a : Addr} (ha : a ∈ M.m) : (∃ xs, H a = some (.lst xs)) ∨ (∃ xs, H a = some (.dK xs)) ∨ ∃ xs, H a = some (.dT xs) := by
  obtain ⟨n, hn⟩ := List.mem_iff_getElem?.mp ha
  by_cases lt : n < M.h
  · refine .inl (h.hid a ?_)
    refine List.mem_of_getElem? (i := n) ?_
    rw [List.getElem?_take, if_pos lt]
    exact hn
  · obtain ⟨o, _, ro⟩ := h.atM (n := n - M.h) (a := a) (by
      unfold Pl.at_
      rw [show M.h + (n - M.h) = n by omega]
      exact hn)
    exact ro.mut
theorem RS.tabNe {T : List (Addr × Str)} {K : PySem.W.Frag} {M : Pl} {st : DSt} {H : Hp} (h : RS T K M st H) {a b : Addr} (ha : a ∈ M.m) {u : HO} (hb : H b = some u) (hu : (∃ ps, u = .tbl ps) ∨ ∃ φ, u = .ext φ) : a ≠ b := by
  intro z
  subst z
  rcases h.mutAt ha with ⟨xs, q⟩ | ⟨xs, q⟩ | ⟨xs, q⟩ <;> rw [hb] at q <;> rcases hu with ⟨ps, rfl⟩ | ⟨φ, rfl⟩ <;> cases q
theorem tabs_upd {T : List (Addr × Str)} {H : Hp} {p : Addr} {o : HO} (t : Tabs T H) (h : ∀ b u, H b = some u → ((∃ ps, u = .tbl ps) ∨ ∃ φ, u = .ext φ) → b ≠ p) : Tabs T (upd H p o) := by
  intro q hq
  obtain ⟨ps, h1, h2, h3⟩ := t q hq
  refine ⟨ps, ?_, h2, fun pos cv hc => ?_⟩
  · rw [upd_ne (h _ _ h1 (.inl ⟨ps, rfl⟩))]
    exact h1
  · obtain ⟨c, e1, e2⟩ := h3 pos cv hc
    refine ⟨c, e1, ?_⟩
    rw [upd_ne (h _ _ e2 (.inr ⟨_, rfl⟩))]
    exact e2
theorem RS.notin {T : List (Addr × Str)} {K : PySem.W.Frag} {M : Pl} {st : DSt} {H : Hp} (h : RS T K M st H) {p : Addr} (np : H p = none) : p ∉ M.m := by
  intro z
  rcases h.mutAt z with ⟨xs, q⟩ | ⟨xs, q⟩ | ⟨xs, q⟩ <;> rw [np] at q <;> cases q
theorem HidOk.upd {M : Pl} {H : Hp} {p : Addr} {o : HO} (h : HidOk M H) (np : H p = none) : HidOk M (upd H p o) := fun a ha => by
  obtain ⟨xs, e⟩ := h a ha
  exact ⟨xs, by rw [upd_ne (ne_of_none e np)]; exact e⟩
theorem HidOk.keep {M M' : Pl} {H H' : Hp} (h : HidOk M H) (g : Grow M H M' H') : HidOk M H' := fun a ha => by
  rw [g.hid a ha]
  exact h a ha
theorem RS.new {T : List (Addr × Str)} {K : PySem.W.Frag} {M : Pl} {st : DSt} {H : Hp} (h : RS T K M st H) {p : Addr} {o : HO} (np : H p = none) : RS T K M st (upd H p o) := by
  refine ⟨h.len, h.nd, fun n a u e1 e2 => ?_, tabs_upd h.tabs fun b u hb _ => ne_of_none hb np, h.hid.upd np⟩
  exact (h.obj n a u e1 e2).stay (Grow.new h.hid np) (upd_ne fun z => h.notin np (by rw [← z]; exact Pl.at_mem e1))
theorem RS.place {T : List (Addr × Str)} {K : PySem.W.Frag} {M : Pl} {st : DSt} {H : Hp} (h : RS T K M st H) {p : Addr} {o : HO} {u : O} (np : H p = none) (ro : RO K (M.app [p]) (upd H p o) u p) : RS T K (M.app [p]) (st ++ [u]) (upd H p o) := by
  refine ⟨?_, ?_, fun n a q e1 e2 => ?_, tabs_upd h.tabs fun b u hb _ => ne_of_none hb np, ?_⟩
  · show (M.m ++ [p]).length = M.h + (st ++ [u]).length
    rw [List.length_append, List.length_append, h.len, Nat.add_assoc]
    rfl
  · show (M.m ++ [p]).Nodup
    rw [List.nodup_append]
    refine ⟨h.nd, by simp, fun a ha b hb => ?_⟩
    rw [List.mem_singleton.mp hb]
    exact fun z => h.notin np (z ▸ ha)
  · have e1' : (M.m ++ [p])[M.h + n]? = some a := e1
    by_cases lt : n < st.length
    · rw [List.getElem?_append_left (by rw [h.len]; omega)] at e1'
      rw [List.getElem?_append_left lt] at e2
      exact (h.obj n a q e1' e2).stay (Grow.place h.hid np) (upd_ne fun z => h.notin np (by rw [← z]; exact List.mem_of_getElem? e1'))
    · rw [List.getElem?_append_right (by rw [h.len]; omega)] at e1'
      rw [List.getElem?_append_right (by omega)] at e2
      have n0 : M.h + n - M.m.length = 0 := by
        have := (List.getElem?_eq_some_iff.mp e1').1
        simp at this
        omega
      have n1 : n - st.length = 0 := by rw [h.len] at n0; omega
      rw [n0] at e1'
      rw [n1] at e2
      cases e1'
      cases e2
      exact ro
  · intro a ha
    have ha' : a ∈ (M.m ++ [p]).take M.h := ha
    rw [List.take_append_of_le_length (by rw [h.len]; omega)] at ha'
    exact h.hid.upd np a ha'
theorem RS.write {T : List (Addr × Str)} {K : PySem.W.Frag} {M : Pl} {st : DSt} {H : Hp} (h : RS T K M st H) {n : Nat} {p : Addr} {o : HO} {u : O} (hp : M.at_ n = some p) (ro : RO K M (upd H p o) u p) (no : ∀ ps, o ≠ .tbl ps := by intro ps z; cases z) : RS T K M (st.set n u) (upd H p o) := by
  have pm : p ∈ M.m := Pl.at_mem hp
  refine ⟨by rw [List.length_set]; exact h.len, h.nd, fun m a q e1 e2 => ?_, tabs_upd h.tabs fun b u hb z => (h.tabNe pm hb z).symm, h.hid.keep (Grow.write h.nd hp no)⟩
  by_cases e : m = n
  · subst e
    rw [hp] at e1
    cases e1
    rw [List.getElem?_set_self (by
      have := (List.getElem?_eq_some_iff.mp hp).1
      have := h.len
      omega)] at e2
    cases e2
    exact ro
  · rw [List.getElem?_set_ne (fun z => e z.symm)] at e2
    refine (h.obj m a q e1 e2).stay (Grow.write h.nd hp no) (upd_ne fun z => e ?_)
    subst z
    obtain ⟨l1, q1⟩ := List.getElem?_eq_some_iff.mp e1
    obtain ⟨l2, q2⟩ := List.getElem?_eq_some_iff.mp hp
    have := (List.getElem_inj h.nd).mp (q1.trans q2.symm)
    omega
end DL
namespace DL
open PySem PySem.Spec PyProof.Rows L2 LamX PySem.W SL
abbrev DTE := DEnv → DSt → DK → Prop
abbrev DTA := DEnv → DSt → (List D → DSt → Prop) → Prop
abbrev DTT := DEnv → DSt → (Bool → DSt → Prop) → Prop
abbrev DR2 := D → D → DSt → DK → Prop
abbrev DRs := List D → DSt → DK → Prop
def Kn (T : List (Addr × Str)) (K : Frag) (M : Pl) (H : Hp) (Q' : DK) (Q : VK) : Prop :=
  ∀ M' H' st' d v, Grow M H M' H' → RS T K M' st' H' → RV K M' H' d v → Q' d st' → Q v H'
theorem Kn.grow {T : List (Addr × Str)} {K : Frag} {M M1 : Pl} {H H1 : Hp} {Q' : DK} {Q : VK} (k : Kn T K M H Q' Q) (g : Grow M H M1 H1) : Kn T K M1 H1 Q' Q :=
  fun M' H' st' d v g1 s r q => k M' H' st' d v (g.trans g1) s r q
theorem Kn.here {T : List (Addr × Str)} {K : Frag} {M : Pl} {H : Hp} {Q' : DK} {Q : VK} {st : DSt} {d : D} {v : V} (k : Kn T K M H Q' Q) (s : RS T K M st H) (r : RV K M H d v) (q : Q' d st) : Q v H :=
  k M H st d v (Grow.refl M H) s r q
def lift (T : List (Addr × Str)) (K : Frag) (f : DTE) : TE := fun σ H Q => ∃ M r st Q', RS T K M st H ∧ RE K M H r σ ∧ f r st Q' ∧ Kn T K M H Q' Q
def liftA (T : List (Addr × Str)) (K : Frag) (f : DTA) : TA := fun σ H Q => ∃ M r st Q', RS T K M st H ∧ RE K M H r σ ∧ f r st Q' ∧
  ∀ M' H' st' ds vs, Grow M H M' H' → RS T K M' st' H' → RVs K M' H' ds vs → Q' ds st' → Q vs H'
def liftT (T : List (Addr × Str)) (K : Frag) (f : DTT) : TT := fun σ H Q => ∃ M r st Q', RS T K M st H ∧ RE K M H r σ ∧ f r st Q' ∧
  ∀ M' H' st' b, Grow M H M' H' → RS T K M' st' H' → Q' b st' → Q b H'
theorem PE.imp {X : Cx} {e : Expr} {t t' : TE} (h : PE X e t) (i : ∀ σ H Q, t' σ H Q → t σ H Q) : PE X e t' := ⟨fun pins s σ H Q I z => h.run pins s σ H Q I (i σ H Q z)⟩
theorem PA.imp {X : Cx} {e : List Expr} {t t' : TA} (h : PA X e t) (i : ∀ σ H Q, t' σ H Q → t σ H Q) : PA X e t' := ⟨fun pos pins s σ H Q I z => h.run pos pins s σ H Q I (i σ H Q z)⟩
theorem PT.imp {X : Cx} {e : Expr} {t t' : TT} (h : PT X e t) (i : ∀ σ H Q, t' σ H Q → t σ H Q) : PT X e t' := ⟨fun pins s σ H Q I z => h.run pins s σ H Q I (i σ H Q z)⟩
theorem PW.imp {X : Cx} {e : Expr} {t t' : TT} (h : PW X e t) (i : ∀ σ H Q, t' σ H Q → t σ H Q) : PW X e t' := ⟨fun wh pins s σ H Q I z => h.run wh pins s σ H Q I (i σ H Q z)⟩
theorem PS.imp {X : Cx} {e : Stmt} {t t' : TS} (h : PS X e t) (i : ∀ D σ H, t' D σ H → t D σ H) : PS X e t' := ⟨fun pins s σ H D I z => h.run pins s σ H D I (i D σ H z)⟩
theorem PSs.imp {X : Cx} {e : List Stmt} {t t' : TS} (h : PSs X e t) (i : ∀ D σ H, t' D σ H → t D σ H) : PSs X e t' := ⟨fun pins s σ H D I z => h.run pins s σ H D I (i D σ H z)⟩
abbrev DE (T : List (Addr × Str)) (X : Cx) (e : Expr) (f : DTE) : Prop := PE X e (lift T X.K f)
abbrev DA (T : List (Addr × Str)) (X : Cx) (e : List Expr) (f : DTA) : Prop := PA X e (liftA T X.K f)
abbrev DT (T : List (Addr × Str)) (X : Cx) (e : Expr) (f : DTT) : Prop := PT X e (liftT T X.K f)
abbrev DW (T : List (Addr × Str)) (X : Cx) (e : Expr) (f : DTT) : Prop := PW X e (liftT T X.K f)

def onI (d : D) (k : Int → Prop) : Prop := match d with | .int i => k i | _ => False
def onB (d : D) (k : Bool → Prop) : Prop := match d with | .bl i => k i | _ => False
def onO {α : Type} (o : Option α) (k : α → Prop) : Prop := match o with | some d => k d | none => False
def onOO (o : Option (Option D)) (k : D → Prop) : Prop := match o with | some (some d) => k d | _ => False
theorem onI.of {d : D} {k : Int → Prop} (h : onI d k) : ∃ i, d = .int i ∧ k i := by
  cases d with
  | int i => exact ⟨i, rfl, h⟩
  | _ => exact h.elim
theorem onB.of {d : D} {k : Bool → Prop} (h : onB d k) : ∃ i, d = .bl i ∧ k i := by
  cases d with
  | bl i => exact ⟨i, rfl, h⟩
  | _ => exact h.elim
theorem onO.of {α : Type} {d : Option α} {k : α → Prop} (h : onO d k) : ∃ i, d = some i ∧ k i := by
  cases d with
  | some i => exact ⟨i, rfl, h⟩
  | none => exact h.elim
theorem onOO.of {d : Option (Option D)} {k : D → Prop} (h : onOO d k) : ∃ i, d = some (some i) ∧ k i := by
  cases d with
  | none => exact h.elim
  | some o => cases o with
    | none => exact h.elim
    | some i => exact ⟨i, rfl, h⟩
def seqS (st : DSt) : D → Option (List D)
  | .tup ds => some ds
  | .tuk ds => some ds
  | .lst ds => some ds
  | .scr ds => some ds
  | .ref n => match st[n]? with | some (.lst ds) => some ds | _ => none
  | _ => none
section
variable {T : List (Addr × Str)} {K : Frag} {M : Pl} {H : Hp} {st : DSt}
theorem RVs.length : ∀ {ds : List D} {vs : List V}, RVs K M H ds vs → ds.length = vs.length
  | _, _, .nil => rfl
  | _, _, .cons _ t => by rw [List.length_cons, List.length_cons, RVs.length t]
theorem RVs.get : ∀ {ds : List D} {vs : List V}, RVs K M H ds vs → ∀ {i : Nat} {d : D}, ds[i]? = some d → ∃ v, vs[i]? = some v ∧ RV K M H d v
  | _, _, .nil, i, d, e => by simp at e
  | _, _, .cons h t, 0, d, e => by
    simp at e
    subst e
    exact ⟨_, rfl, h⟩
  | _, _, .cons h t, i + 1, d, e => by
    obtain ⟨v, e1, e2⟩ := RVs.get t (i := i) (d := d) (by simpa using e)
    exact ⟨v, by simpa using e1, e2⟩
theorem RVs.append : ∀ {ds es : List D} {vs ws : List V}, RVs K M H ds vs → RVs K M H es ws → RVs K M H (ds ++ es) (vs ++ ws)
  | _, _, _, _, .nil, s => s
  | _, _, _, _, .cons h t, s => .cons h (RVs.append t s)
theorem RVs.take : ∀ {ds : List D} {vs : List V} (n : Nat), RVs K M H ds vs → RVs K M H (ds.take n) (vs.take n)
  | _, _, 0, _ => .nil
  | _, _, _ + 1, .nil => .nil
  | _, _, n + 1, .cons h t => .cons h (RVs.take n t)
theorem RVs.drop : ∀ {ds : List D} {vs : List V} (n : Nat), RVs K M H ds vs → RVs K M H (ds.drop n) (vs.drop n)
  | _, _, 0, h => h
  | _, _, _ + 1, .nil => .nil
  | _, _, n + 1, .cons _ t => RVs.drop n t
theorem RVs.set {d : D} {v : V} (h : RV K M H d v) : ∀ {ds : List D} {vs : List V} (n : Nat), RVs K M H ds vs → RVs K M H (ds.set n d) (vs.set n v)
  | _, _, _, .nil => .nil
  | _, _, 0, .cons _ t => .cons h t
  | _, _, n + 1, .cons q t => .cons q (RVs.set h n t)
theorem RVs.ints : ∀ {ns : List Int} {vs : List V}, RVs K M H (ns.map D.int) vs → vs = ns.map V.int
  | [], _, .nil => rfl
  | n :: ns, _, .cons (.int _) t => by rw [RVs.ints t]; rfl
theorem RVs.of_ints : ∀ ns : List Int, RVs K M H (ns.map D.int) (ns.map V.int)
  | [] => .nil
  | n :: ns => .cons (.int n) (RVs.of_ints ns)
theorem RVs.bls : ∀ {ns : List Bool} {vs : List V}, RVs K M H (ns.map D.bl) vs → vs = ns.map V.bl
  | [], _, .nil => rfl
  | n :: ns, _, .cons (.bl _) t => by rw [RVs.bls t]; rfl
theorem RVs.nil_iff {ds : List D} {vs : List V} (r : RVs K M H ds vs) : ds = [] ↔ vs = [] := by
  cases r with
  | nil => simp
  | cons _ _ => simp
theorem seqS.rd {d : D} {v : V} {ds : List D} (s : RS T K M st H) (r : RV K M H d v) (e : seqS st d = some ds) : ∃ a xs, v = .ref a ∧ (SqL K H a xs ∨ SqT K H a xs) ∧ RVs K M H ds xs := by
  cases r with
  | tup n h q rs => cases e; exact ⟨_, _, rfl, .inr (.inl (.inr ⟨_, h⟩)), rs⟩
  | tuk n h rs => cases e; exact ⟨_, _, rfl, .inr (.inl (.inl h)), rs⟩
  | lst n h rs => cases e; exact ⟨_, _, rfl, .inl (.inl (.inl h)), rs⟩
  | scr n h rs => cases e; exact ⟨_, _, rfl, .inl (.inl h), rs⟩
  | lsk h rs => cases e; exact ⟨_, _, rfl, .inl (h H), rs⟩
  | ref h =>
    obtain ⟨o, e1, ro⟩ := s.atM h
    unfold seqS at e
    simp only [e1] at e
    cases o with
    | lst xs => cases e; obtain ⟨ys, q, rs⟩ := ro; exact ⟨_, ys, rfl, .inl (.inl (.inl q)), rs⟩
    | dK _ => cases e
    | dT _ => cases e
  | _ => cases e
end
def dVar (i : Nat) : DTE := fun r st Q => onOO r[i]? fun d => Q d st
def dC (d : D) : DTE := fun _ st Q => Q d st
section
variable {T : List (Addr × Str)} {X : Cx}
theorem de_var {i : Nat} {e : Expr} (h : PE X e (tVar i)) : DE T X e (dVar i) := PE.imp h fun σ H Q ⟨M, r, st, Q', s, re, hf, k⟩ => by
  obtain ⟨d, e, q⟩ := onOO.of hf
  obtain ⟨v, e1, rv⟩ := re.at_ i d e
  exact ⟨v, e1, k.here s rv q⟩
theorem de_const {e : Expr} {d : D} {v : V} (h : PE X e (tC v)) (r : ∀ M H, RV X.K M H d v) : DE T X e (dC d) := PE.imp h fun σ H Q ⟨M, rr, st, Q', s, re, hf, k⟩ => k.here s (r M H) hf
theorem de_int {i j pos} : DE T X (.Constant (.int i) j pos) (dC (.int i)) := de_const pe_int fun _ _ => .int i
theorem de_bl {i j pos} : DE T X (.Constant (.bool i) j pos) (dC (.bl i)) := de_const pe_bl fun _ _ => .bl i
theorem de_non {j pos} : DE T X (.Constant .none j pos) (dC .non) := de_const pe_non fun _ _ => .non
end
def OpD (T : List (Addr × Str)) (K : Frag) (r : R2) (r' : DR2) : Prop := ∀ (M : Pl) (H : Hp) (st : DSt) (x y : D) (vx vy : V) (Q' : DK) (Q : VK), RS T K M st H → RV K M H x vx → RV K M H y vy → r' x y st Q' → Kn T K M H Q' Q → r vx vy H Q
def dOp (r : DR2) (fa fb : DTE) : DTE := fun ρ st Q => fa ρ st fun x st1 => fb ρ st1 fun y st2 => r x y st2 Q
theorem lift2 {T : List (Addr × Str)} {K : Frag} {r : R2} {r' : DR2} {fa fb : DTE} (o : OpD T K r r') {σ : L2.St} {H : Hp} {Q : VK} (h : lift T K (dOp r' fa fb) σ H Q) : tOp r (lift T K fa) (lift T K fb) σ H Q := by
  obtain ⟨M, ρ, st, Q', s, re, hf, k⟩ := h
  refine ⟨M, ρ, st, _, s, re, hf, fun M1 H1 st1 x vx g1 s1 r1 h1 => ⟨M1, ρ, st1, _, s1, re.grow g1, h1, fun M2 H2 st2 y vy g2 s2 r2 h2 => ?_⟩⟩
  exact o M2 H2 st2 x y vx vy Q' Q s2 (r1.grow g2) r2 h2 (k.grow (g1.trans g2))
section
variable {T : List (Addr × Str)} {X : Cx} {a b c : Expr} {fa fb fc : DTE} {pos : Pos}
theorem de_op {op : Operator} {r : R2} {r' : DR2} (ho : OpR X (binaryOp op) r) (hd : OpD T X.K r r') (ha : DE T X a fa) (hb : DE T X b fb) : DE T X (.BinOp a op b pos) (dOp r' fa fb) :=
  PE.imp (pe_op ho ha hb) fun _ _ _ h => lift2 hd h
theorem de_cmp {op : CmpOp} {r : R2} {r' : DR2} (ho : OpR X (compareOp op) r) (hd : OpD T X.K r r') (ha : DE T X a fa) (hb : DE T X b fb) (hm : behindInMarks op b = false) : DE T X (.Compare a [op] [b] pos) (dOp r' fa fb) :=
  PE.imp (pe_cmpR ho ha hb hm) fun _ _ _ h => lift2 hd h
def dI (C : Int → Int → Prop) (g : Int → Int → D) : DR2 := fun x y st Q => onI x fun i => onI y fun j => C i j ∧ Q (g i j) st
def dI0 (g : Int → Int → D) : DR2 := fun x y st Q => onI x fun i => onI y fun j => Q (g i j) st
theorem opD_I {T : List (Addr × Str)} {K : Frag} {C : Int → Int → Prop} {g : Int → Int → D} {gv : Int → Int → V} (hg : ∀ i j M H, RV K M H (g i j) (gv i j)) : OpD T K (rI C gv) (dI C g) := by
  intro M H st x y vx vy Q' Q s rx ry h k
  obtain ⟨i, rfl, h1⟩ := onI.of h
  obtain ⟨j, rfl, c, h2⟩ := onI.of h1
  cases rx
  cases ry
  exact ⟨i, j, rfl, rfl, c, k.here s (hg i j M H) h2⟩
theorem opD_I0 {T : List (Addr × Str)} {K : Frag} {g : Int → Int → D} {gv : Int → Int → V} (hg : ∀ i j M H, RV K M H (g i j) (gv i j)) : OpD T K (rI0 gv) (dI0 g) := by
  intro M H st x y vx vy Q' Q s rx ry h k
  obtain ⟨i, rfl, h1⟩ := onI.of h
  obtain ⟨j, rfl, h2⟩ := onI.of h1
  cases rx
  cases ry
  exact ⟨i, j, rfl, rfl, k.here s (hg i j M H) h2⟩
abbrev dSub : DR2 := dI0 fun i j => .int (i - j)
abbrev dMod : DR2 := dI (fun _ j => 0 < j) fun i j => .int (i % j)
abbrev dDiv : DR2 := dI CDiv fun i j => .int (i / j)
abbrev dPow : DR2 := dI (fun i j => 0 ≤ j ∧ (Builtin.Int.intBits i : Int) * j ≤ 2 ^ 27) fun i j => .int (i ^ j.toNat)
theorem de_sub (ha : DE T X a fa) (hb : DE T X b fb) : DE T X (.BinOp a .Sub b pos) (dOp dSub fa fb) := de_op op_sub (opD_I0 fun _ _ _ _ => .int _) ha hb
theorem de_mod (ha : DE T X a fa) (hb : DE T X b fb) : DE T X (.BinOp a .Mod b pos) (dOp dMod fa fb) := de_op op_mod (opD_I fun _ _ _ _ => .int _) ha hb
theorem de_div (ha : DE T X a fa) (hb : DE T X b fb) : DE T X (.BinOp a .FloorDiv b pos) (dOp dDiv fa fb) := de_op op_fdiv (opD_I fun _ _ _ _ => .int _) ha hb
theorem de_pow (ha : DE T X a fa) (hb : DE T X b fb) : DE T X (.BinOp a .Pow b pos) (dOp dPow fa fb) := de_op op_powB (opD_I fun _ _ _ _ => .int _) ha hb
abbrev dGt : DR2 := dI0 fun i j => .bl (decide (j < i))
abbrev dGe : DR2 := dI0 fun i j => .bl (decide (j ≤ i))
def dNeg (fa : DTE) : DTE := fun r st Q => fa r st fun x st1 => onI x fun i => Q (.int (-i)) st1
def isNon : D → Bool
  | .non => true
  | _ => false
theorem RV.isNon {K : Frag} {M : Pl} {H : Hp} {d : D} {v : V} (r : RV K M H d v) : decide (v = V.non) = isNon d := by cases r <;> first | rfl | simp [DL.isNon]
def dIsN (fa : DTE) : DTE := fun r st Q => fa r st fun x st1 => Q (.bl (isNon x)) st1
def dNotN (fa : DTE) : DTE := fun r st Q => fa r st fun x st1 => Q (.bl (!isNon x)) st1
def dAndV (fa fb : DTE) : DTE := fun r st Q => fa r st fun x st1 => onB x fun c => if c = true then fb r st1 Q else Q (.bl false) st1
def dOrV (fa fb : DTE) : DTE := fun r st Q => fa r st fun x st1 => onB x fun c => if c = true then Q (.bl true) st1 else fb r st1 Q
def dNotV (fa : DTE) : DTE := fun r st Q => fa r st fun x st1 => onB x fun c => Q (.bl (!c)) st1
def dTest (fa : DTE) : DTT := fun r st Q => fa r st fun x st1 => onB x fun c => Q c st1
theorem liftT_test {T : List (Addr × Str)} {K : Frag} {fa : DTE} {σ : L2.St} {H : Hp} {Q : Bool → Hp → Prop} (h : liftT T K (dTest fa) σ H Q) : tB (lift T K fa) σ H Q := by
  obtain ⟨M, ρ, st, Q', s, re, hf, k⟩ := h
  refine ⟨M, ρ, st, _, s, re, hf, fun M1 H1 st1 x vx g1 s1 r1 h1 => ?_⟩
  obtain ⟨c, rfl, h⟩ := onB.of h1
  cases r1
  exact ⟨c, rfl, k M1 H1 st1 c g1 s1 h⟩
theorem dt_val (h : DE T X a fa) (he : ∀ whole, isTrue a X.env whole = (do let v ← whole; standAt a.pos; holding [v] (truthy v)) := by intro _; rfl) : DT T X a (dTest fa) := PT.imp (pt_val h he) fun _ _ _ z => liftT_test z
theorem dt_cmpR {op : CmpOp} {r : R2} {r' : DR2} (ho : OpR X (compareOp op) r) (hd : OpD T X.K r r') (ha : DE T X a fa) (hb : DE T X b fb) (hm : behindInMarks op b = false) : DT T X (.Compare a [op] [b] pos) (dTest (dOp r' fa fb)) :=
  PT.imp (pt_cmpR ho ha hb hm) fun σ H Q z => by
    obtain ⟨M, ρ, st, Q', s, re, hf, k⟩ := z
    have z2 : lift T X.K (dOp r' fa fb) σ H (fun x H' => ∃ c, x = .bl c ∧ Q c H') := ⟨M, ρ, st, _, s, re, hf, fun M1 H1 st1 x vx g1 s1 r1 h1 => by
      obtain ⟨c, rfl, h⟩ := onB.of h1
      cases r1
      exact ⟨c, rfl, k M1 H1 st1 c g1 s1 h⟩⟩
    exact lift2 hd z2
def dtAnd (t u : DTT) : DTT := fun r st Q => t r st fun c st1 => if c = true then u r st1 Q else Q false st1
def dtOr (t u : DTT) : DTT := fun r st Q => t r st fun c st1 => if c = true then Q true st1 else u r st1 Q
def dtNot (t : DTT) : DTT := fun r st Q => t r st fun c st1 => Q (!c) st1
variable {tA tB' : DTT}
theorem dw_or1 (ha : DT T X a tA) : DW T X (.BoolOp .Or [a] pos) tA := pw_or1 ha
theorem dw_or {rest : List Expr} (ha : DT T X a tA) (hb : DW T X (.BoolOp .Or (b :: rest) pos) tB') : DW T X (.BoolOp .Or (a :: b :: rest) pos) (dtOr tA tB') := PW.imp (pw_or ha hb) fun σ H Q ⟨M, ρ, st, Q', s, re, hf, k⟩ =>
  ⟨M, ρ, st, _, s, re, hf, fun M1 H1 st1 c g1 s1 h => by
    cases c with
    | true => rw [if_pos rfl] at h ⊢; exact k M1 H1 st1 true g1 s1 h
    | false => rw [if_neg (by decide)] at h ⊢; exact ⟨M1, ρ, st1, _, s1, re.grow g1, h, fun M2 H2 st2 b g2 s2 q => k M2 H2 st2 b (g1.trans g2) s2 q⟩⟩
theorem dt_not (ha : DT T X a tA) : DT T X (.UnaryOp .Not a pos) (dtNot tA) := PT.imp (pt_not ha) fun σ H Q ⟨M, ρ, st, Q', s, re, hf, k⟩ =>
  ⟨M, ρ, st, _, s, re, hf, fun M1 H1 st1 c g1 s1 h => k M1 H1 st1 _ g1 s1 h⟩
def dIf (t : DTT) (fa fb : DTE) : DTE := fun r st Q => t r st fun c st1 => if c = true then fa r st1 Q else fb r st1 Q
theorem de_if (hc : DT T X c tA) (ha : DE T X a fa) (hb : DE T X b fb) : DE T X (.IfExp c a b pos) (dIf tA fa fb) := PE.imp (pe_ifExp hc ha hb) fun σ H Q ⟨M, ρ, st, Q', s, re, hf, k⟩ =>
  ⟨M, ρ, st, _, s, re, hf, fun M1 H1 st1 c g1 s1 h => by
    cases c with
    | true => rw [if_pos rfl] at h ⊢; exact ⟨M1, ρ, st1, _, s1, re.grow g1, h, k.grow g1⟩
    | false => rw [if_neg (by decide)] at h ⊢; exact ⟨M1, ρ, st1, _, s1, re.grow g1, h, k.grow g1⟩⟩
def daNil : DTA := fun _ st Q => Q [] st
def daCons (f : DTE) (g : DTA) : DTA := fun r st Q => f r st fun d st1 => g r st1 fun ds st2 => Q (d :: ds) st2
theorem da_nil : DA T X [] daNil := PA.imp pa_nil fun σ H Q ⟨M, ρ, st, Q', s, re, hf, k⟩ => k M H st [] [] (Grow.refl M H) s .nil hf
theorem da_cons {e : Expr} {es : List Expr} {f : DTE} {g : DTA} (ha : DE T X e f) (hr : DA T X es g) (hs : starEach (e :: es) X.env = (false, eval e X.env) :: starEach es X.env := by rfl) : DA T X (e :: es) (daCons f g) :=
  PA.imp (pa_cons ha hr hs) fun σ H Q ⟨M, ρ, st, Q', s, re, hf, k⟩ =>
    ⟨M, ρ, st, _, s, re, hf, fun M1 H1 st1 x vx g1 s1 r1 h1 => ⟨M1, ρ, st1, _, s1, re.grow g1, h1, fun M2 H2 st2 ds vs g2 s2 r2 h2 => k M2 H2 st2 _ _ (g1.trans g2) s2 (.cons (r1.grow g2) r2) h2⟩⟩
end
end DL
namespace DL
open PySem PySem.Spec PyProof.Rows L2 LamX PySem.W SL
theorem vals1 {x : V} {us : List Value} (r : Vals [x] us) : ∃ u, us = [u] ∧ RelV x u := Vals.one r
def FzT (H : Hp) (a : Addr) (xs : List V) : Prop := ∃ o : Obj, H a = some (.frz o (.tup xs)) ∧ o.dict = none
theorem FzT.sq {K : PySem.W.Frag} {H : Hp} {a : Addr} {xs : List V} (h : FzT H a xs) : SqT K H a xs := by
  obtain ⟨o, e, _⟩ := h
  exact Or.inl (Or.inr ⟨o, e⟩)
theorem FzT.same {H H' : Hp} {a : Addr} {xs : List V} (h : FzT H a xs) (s : Same H H') : FzT H' a xs := by
  obtain ⟨o, e, d⟩ := h
  exact ⟨o, s _ _ e, d⟩
def rTupF (K : PySem.W.Frag) : List V → Hp → VK → Prop := fun xs H Q => ∃ p ys, xs = [.ref p] ∧ SqL K H p ys ∧ ∀ (l : Addr) (o : Obj), H l = none → o.dict = none → Q (.ref l) (upd H l (.frz o (.tup ys)))
theorem call_tupF {X : Cx} : CallR X (.type "tuple") (rTupF X.K) := by
  intro pins s σ H xs us Q I r h
  obtain ⟨p, ys, rfl, sq, q⟩ := h
  obtain ⟨u, rfl, rx⟩ := vals1 r
  cases rx
  obtain ⟨its, rv, pl, few⟩ := I.list sq
  have len := rv.length
  refine call_tuple_list pl.isList (fun g kp => ?_) (by rw [List.size_toArray]; omega)
  have I1 : Inv X pins σ H { s with heap := g } := I.kept (t' := s.toks) kp
  have new : (g.push { cls := .type "tuple", data := .seq its.toArray }).get? g.objs.size = some { cls := .type "tuple", data := .seq its.toArray } := Heap.get?_push_size _ rfl
  exact ⟨.ref g.objs.size, _, I1.laid (t' := s.toks) (o := .frz { cls := .type "tuple", data := .seq its.toArray } (.tup ys)) (fun b o e => Heap.get?_push_of_some _ e) (Nat.le_refl _) ⟨new, few, its, rv, _, new, rfl, _, rfl⟩, rfl, q _ _ (I1.hok.fresh (Nat.le_refl _)) rfl⟩
def rCatF (K : Frag) : R2 := fun x y H Q => ∃ a b xs ys, x = .ref a ∧ y = .ref b ∧ SqT K H a xs ∧ SqT K H b ys ∧ xs.length + ys.length ≤ sizeLine ∧
  (xs = [] → Q (.ref b) H) ∧ (xs ≠ [] → ys = [] → Q (.ref a) H) ∧ (xs ≠ [] → ys ≠ [] → ∀ (p : Addr) (ob : Obj), H p = none → ob.dict = none → Q (.ref p) (upd H p (.frz ob (.tup (xs ++ ys)))))
theorem op_catF {X : Cx} : OpR X (binaryOp .Add) (rCatF X.K) := by
  intro pins s σ H x y v u Q I rx ry h
  obtain ⟨a, b, xs, ys, rfl, rfl, ha, hb, hz, q0, q1, q2⟩ := h
  cases rx
  cases ry
  obtain ⟨its, r1, p1, _⟩ := I.tuple ha
  obtain ⟨its2, r2, p2, _⟩ := I.tuple hb
  by_cases e : xs = []
  · have e' := r1.nil_iff.mpr e
    subst e'
    exact cat_tup0 p1 p2 ⟨.ref b, H, I, rfl, q0 e⟩
  · refine HT.cat_tup p1 p2 (fun z => e (r1.nil_iff.mp z)) (fun z => ⟨.ref a, H, I, rfl, q1 e (r2.nil_iff.mp z)⟩) (fun z => ?_) (by rw [← r1.length, ← r2.length]; exact hz)
    refine ⟨.ref s.heap.objs.size, _, I.laid (t' := s.toks) (o := .frz { cls := .type "tuple", data := .seq (its ++ its2).toArray } (.tup (xs ++ ys))) (fun b ob q => Heap.get?_push_of_some _ q) (Nat.le_refl _) ?_, rfl, q2 e (fun w => z (r2.nil_iff.mpr w)) _ _ (I.hok.fresh (Nat.le_refl _)) rfl⟩
    exact ⟨Heap.get?_push_size _ rfl, by rw [List.length_append]; exact hz, _, r1.append r2, IsTup.new _ _⟩
def rSlF (K : Frag) : V → Option Int → Option Int → Hp → VK → Prop := fun x lo hi H Q => ∃ a xs, x = .ref a ∧ SqT K H a xs ∧
  (HT.sIx xs.length 0 lo = 0 ∧ HT.sIx xs.length xs.length hi = xs.length → Q (.ref a) H) ∧ (¬ (HT.sIx xs.length 0 lo = 0 ∧ HT.sIx xs.length xs.length hi = xs.length) → ∀ (p : Addr) (ob : Obj), H p = none → ob.dict = none → Q (.ref p) (upd H p (.frz ob (.tup (cutV xs lo hi)))))
theorem sl_F {X : Cx} : SlR X (rSlF X.K) := by
  intro pins s σ H x v vl vu lo hi sl Q I rx hs pl pu h
  obtain ⟨a, xs, rfl, hx, qw, q⟩ := h
  cases rx
  obtain ⟨its, r, ht, hz⟩ := I.tuple hx
  have hlen : its.toArray.size = xs.length := by rw [List.size_toArray]; exact r.length.symm
  refine ⟨"tuple", _, PyProof.Rows.slot_tuple_getitem.lookup, ht.typeIs, ?_⟩
  by_cases hw : HT.sIx xs.length 0 lo = 0 ∧ HT.sIx xs.length xs.length hi = xs.length
  · exact getItem_tuple_whole ht hs pl pu (by rw [hlen]; exact hw) ⟨.ref a, H, I, rfl, qw hw⟩
  · refine HT.getItem_tuple_cut ht hs pl pu (by rw [hlen]; exact hw) ?_ (by rw [hlen]; exact hz)
    rw [hlen]
    refine ⟨.ref s.heap.objs.size, _, I.laid (t' := s.toks) (o := .frz { cls := .type "tuple", data := .seq ((its.drop (HT.sIx xs.length 0 lo)).take (HT.sIx xs.length xs.length hi - HT.sIx xs.length 0 lo)).toArray } (.tup (cutV xs lo hi))) (fun b ob q => Heap.get?_push_of_some _ q) (Nat.le_refl _) ?_, rfl, q hw _ _ (I.hok.fresh (Nat.le_refl _)) rfl⟩
    exact ⟨Heap.get?_push_size _ rfl, Nat.le_trans (cutV_length xs lo hi) hz, _, (r.drop (HT.sIx xs.length 0 lo)).take (HT.sIx xs.length xs.length hi - HT.sIx xs.length 0 lo), IsTup.new _ _⟩
end DL
namespace DL
open PySem PySem.Spec PyProof.Rows L2 LamX PySem.W SL
def okLen (ds : List D) (P : Prop) : Prop := match ds with
  | [] => P
  | [_] => P
  | [_, _] => P
  | [_, _, _] => P
  | [_, _, _, _] => P
  | [_, _, _, _, _] => P
  | _ => ds.length ≤ sizeLine ∧ P
theorem okLen.of {ds : List D} {P : Prop} (h : okLen ds P) : ds.length ≤ sizeLine ∧ P := by
  unfold okLen at h
  split at h <;> first | exact h | exact ⟨Nat.le_of_lt (small1000 (by simp)), h⟩
section
variable {T : List (Addr × Str)} {K : Frag} {M : Pl} {H : Hp} {st : DSt} {ds : List D} {xs : List V} {Q' : DK} {Q : VK} {p : Addr}
theorem Kn.tup {ob : Obj} (k : Kn T K M H Q' Q) (s : RS T K M st H) (r : RVs K M H ds xs) (np : H p = none) (hd : ob.dict = none) (q : Q' (.tup ds) st) : Q (.ref p) (upd H p (.frz ob (.tup xs))) :=
  k M _ st _ _ (Grow.new s.hid np) (s.new np) (.tup (s.notin np) upd_same hd (r.grow (Grow.new s.hid np))) q
theorem Kn.tuk (k : Kn T K M H Q' Q) (s : RS T K M st H) (r : RVs K M H ds xs) (np : H p = none) (q : Q' (.tuk ds) st) : Q (.ref p) (upd H p (.tup xs)) :=
  k M _ st _ _ (Grow.new s.hid np) (s.new np) (.tuk (s.notin np) upd_same (r.grow (Grow.new s.hid np))) q
theorem Kn.lst (k : Kn T K M H Q' Q) (s : RS T K M st H) (r : RVs K M H ds xs) (np : H p = none) (q : Q' (.lst ds) st) : Q (.ref p) (upd H p (.lst xs)) :=
  k M _ st _ _ (Grow.new s.hid np) (s.new np) (.lst (s.notin np) upd_same (r.grow (Grow.new s.hid np))) q
theorem Kn.own (k : Kn T K M H Q' Q) (s : RS T K M st H) (r : RVs K M H ds xs) (np : H p = none) (q : Q' (.ref st.length) (st ++ [.lst ds])) : Q (.ref p) (upd H p (.lst xs)) :=
  k (M.app [p]) _ (st ++ [.lst ds]) _ _ (Grow.place s.hid np) (s.place (u := .lst ds) np ⟨xs, upd_same, r.grow (Grow.place s.hid np)⟩) (.ref (by unfold Pl.at_; show (M.m ++ [p])[M.h + st.length]? = some p; rw [← s.len]; simp)) q
end
section
variable {T : List (Addr × Str)} {X : Cx} {a b c : Expr} {es : List Expr} {fa fb fc : DTE} {fs : DTA} {pos : Pos}
def tTupF (t : TA) : TE := fun σ H Q => t σ H fun xs H1 => xs.length ≤ sizeLine ∧ ∀ (p : Addr) (ob : Obj), H1 p = none → ob.dict = none → Q (.ref p) (upd H1 p (.frz ob (.tup xs)))
theorem pe_tupF {t : TA} {x1} (h : PA X es t) : PE X (.Tuple es x1 pos) (tTupF t) := by
  refine ⟨fun pins s σ H Q I hq => ?_⟩
  refine wpAny_Tuple_spliced (thn (h.run pos pins s σ H _ I hq) fun us s1 ⟨xs, H1, I1, r, z, q⟩ => ⟨by rw [← r.length]; exact z, ?_⟩)
  have hf : H1 s1.heap.objs.size = none := I1.hok.fresh (Nat.le_refl _)
  refine ⟨.ref s1.heap.objs.size, _, I1.laid (t' := s1.toks) (o := .frz { cls := .type "tuple", data := .seq us.toArray } (.tup xs)) (fun b u e => Heap.get?_push_of_some _ e) (Nat.le_refl _) ?_, rfl, q _ _ hf rfl⟩
  exact ⟨Heap.get?_push_size _ rfl, z, us, r, ⟨_, Heap.get?_push_size _ rfl, rfl, _, rfl⟩⟩
def dTup (f : DTA) : DTE := fun r st Q => f r st fun ds st1 => okLen ds (Q (.tup ds) st1)
def dLst (f : DTA) : DTE := fun r st Q => f r st fun ds st1 => okLen ds (Q (.lst ds) st1)
def dLstN (f : DTA) : DTE := fun r st Q => f r st fun ds st1 => okLen ds (Q (.ref st1.length) (st1 ++ [.lst ds]))
theorem de_tup {x1} (h : DA T X es fs) : DE T X (.Tuple es x1 pos) (dTup fs) := PE.imp (pe_tupF h) fun σ H Q ⟨M, ρ, st, Q', s, re, hf, k⟩ =>
  ⟨M, ρ, st, _, s, re, hf, fun M1 H1 st1 ds vs g1 s1 r1 h1 => by
    obtain ⟨z, q⟩ := okLen.of h1
    exact ⟨by rw [← r1.length]; exact z, fun p ob np hd => (k.grow g1).tup s1 r1 np hd q⟩⟩
theorem de_lst (h : DA T X es fs) : DE T X (.List es pos) (dLst fs) := PE.imp (pe_lst h) fun σ H Q ⟨M, ρ, st, Q', s, re, hf, k⟩ =>
  ⟨M, ρ, st, _, s, re, hf, fun M1 H1 st1 ds vs g1 s1 r1 h1 => by
    obtain ⟨z, q⟩ := okLen.of h1
    exact ⟨by rw [← r1.length]; exact z, fun p np => (k.grow g1).lst s1 r1 np q⟩⟩
theorem de_lstN (h : DA T X es fs) : DE T X (.List es pos) (dLstN fs) := PE.imp (pe_lst h) fun σ H Q ⟨M, ρ, st, Q', s, re, hf, k⟩ =>
  ⟨M, ρ, st, _, s, re, hf, fun M1 H1 st1 ds vs g1 s1 r1 h1 => by
    obtain ⟨z, q⟩ := okLen.of h1
    exact ⟨by rw [← r1.length]; exact z, fun p np => (k.grow g1).own s1 r1 np q⟩⟩
def CallD (T : List (Addr × Str)) (K : Frag) (r : List V → Hp → VK → Prop) (r' : DRs) : Prop := ∀ (M : Pl) (H : Hp) (st : DSt) (ds : List D) (vs : List V) (Q' : DK) (Q : VK), RS T K M st H → RVs K M H ds vs → r' ds st Q' → Kn T K M H Q' Q → r vs H Q
def dCB (r' : DRs) (fs : DTA) : DTE := fun ρ st Q => fs ρ st fun ds st1 => r' ds st1 Q
theorem lift_cb {K : Frag} {r : List V → Hp → VK → Prop} {r' : DRs} (hd : CallD T K r r') {σ : L2.St} {H : Hp} {Q : VK} (h : lift T K (dCB r' fs) σ H Q) : tCB r (liftA T K fs) σ H Q := by
  obtain ⟨M, ρ, st, Q', s, re, hf, k⟩ := h
  exact ⟨M, ρ, st, _, s, re, hf, fun M1 H1 st1 ds vs g1 s1 r1 h1 => hd M1 H1 st1 ds vs Q' Q s1 r1 h1 (k.grow g1)⟩
theorem de_callB {id : String} {x : Str} {p : Pos} {e : Expr} {r : List V → Hp → VK → Prop} {r' : DRs} (hc : CallR X (.builtin id) r) (hd : CallD T X.K r r') (hg : Gl X x) (hm : X.mg x = none) (hv : bootBuiltins x = some (.builtin id)) (ha : DA T X (e :: es) fs)
    (hn : x ≠ "__name__" := by decide) (hdb : (x == ("__debug__" : Str)) = false := by decide)
    (he : starEach (e :: es) X.env = (false, eval e X.env) :: starEach es X.env := by rfl) (hpl : (backTo pos (starEach es X.env)).any (·.1) = false := by rfl) : DE T X (.Call (.Name x p) (e :: es) [] pos) (dCB r' fs) :=
  PE.imp (pe_callB hc hg hm hv ha hn hdb he hpl) fun _ _ _ h => lift_cb hd h
theorem de_callTy {id : String} {x : Str} {p : Pos} {e : Expr} {r : List V → Hp → VK → Prop} {r' : DRs} (hc : CallR X (.type id) r) (hd : CallD T X.K r r') (hg : Gl X x) (hm : X.mg x = none) (hv : bootBuiltins x = some (.type id)) (ha : DA T X (e :: es) fs)
    (hn : x ≠ "__name__" := by decide) (hdb : (x == ("__debug__" : Str)) = false := by decide)
    (he : starEach (e :: es) X.env = (false, eval e X.env) :: starEach es X.env := by rfl) (hpl : (backTo pos (starEach es X.env)).any (·.1) = false := by rfl) : DE T X (.Call (.Name x p) (e :: es) [] pos) (dCB r' fs) :=
  PE.imp (pe_callTy hc hg hm hv ha hn hdb he hpl) fun _ _ _ h => lift_cb hd h
def on1 (ds : List D) (k : D → Prop) : Prop := match ds with | [x] => k x | _ => False
def on2 (ds : List D) (k : D → D → Prop) : Prop := match ds with | [x, y] => k x y | _ => False
theorem on1.of {ds : List D} {k : D → Prop} (h : on1 ds k) : ∃ x, ds = [x] ∧ k x := by
  match ds, h with
  | [x], h => exact ⟨x, rfl, h⟩
  | [], h => exact h.elim
  | _ :: _ :: _, h => exact h.elim
theorem on2.of {ds : List D} {k : D → D → Prop} (h : on2 ds k) : ∃ x y, ds = [x, y] ∧ k x y := by
  match ds, h with
  | [x, y], h => exact ⟨x, y, rfl, h⟩
  | [], h => exact h.elim
  | [_], h => exact h.elim
  | _ :: _ :: _ :: _, h => exact h.elim
theorem RVs.one {K : Frag} {M : Pl} {H : Hp} {x : D} {vs : List V} (r : RVs K M H [x] vs) : ∃ v, vs = [v] ∧ RV K M H x v := by
  cases r with
  | cons h t => cases t; exact ⟨_, rfl, h⟩
theorem RVs.two {K : Frag} {M : Pl} {H : Hp} {x y : D} {vs : List V} (r : RVs K M H [x, y] vs) : ∃ v w, vs = [v, w] ∧ RV K M H x v ∧ RV K M H y w := by
  cases r with
  | cons h t => obtain ⟨w, rfl, q⟩ := t.one; exact ⟨_, _, rfl, h, q⟩
def dLen : DRs := fun ds st Q => on1 ds fun x => onO (seqS st x) fun xs => Q (.int xs.length) st
theorem callD_len {K : Frag} : CallD T K (fun xs H Q => ∃ p ys, xs = [.ref p] ∧ (SqL K H p ys ∨ SqT K H p ys) ∧ Q (.int ys.length) H) dLen := by
  intro M H st ds vs Q' Q s r h k
  obtain ⟨x, rfl, h⟩ := on1.of h
  obtain ⟨xs, e, h⟩ := onO.of h
  obtain ⟨v, rfl, rv⟩ := r.one
  obtain ⟨p, ys, rfl, sq, rs⟩ := seqS.rd s rv e
  refine ⟨p, ys, rfl, sq, ?_⟩
  rw [← rs.length]
  exact k.here s (.int _) h
def dAbs : DRs := fun ds st Q => on1 ds fun x => onI x fun i => Q (.int (if i < 0 then -i else i)) st
theorem callD_abs {K : Frag} : CallD T K (fun xs H Q => ∃ i, xs = [V.int i] ∧ Q (.int (if i < 0 then -i else i)) H) dAbs := by
  intro M H st ds vs Q' Q s r h k
  obtain ⟨x, rfl, h⟩ := on1.of h
  obtain ⟨i, rfl, h⟩ := onI.of h
  obtain ⟨v, rfl, rv⟩ := r.one
  cases rv
  exact ⟨i, rfl, k.here s (.int _) h⟩
def d2I (g : Int → Int → Int) : DRs := fun ds st Q => on2 ds fun x y => onI x fun i => onI y fun j => Q (.int (g i j)) st
theorem callD_2I {K : Frag} {g : Int → Int → Int} : CallD T K (fun xs H Q => ∃ i j, xs = [V.int i, V.int j] ∧ Q (.int (g i j)) H) (d2I g) := by
  intro M H st ds vs Q' Q s r h k
  obtain ⟨x, y, rfl, h⟩ := on2.of h
  obtain ⟨i, rfl, h⟩ := onI.of h
  obtain ⟨j, rfl, h⟩ := onI.of h
  obtain ⟨v, w, rfl, rv, rw'⟩ := r.two
  cases rv
  cases rw'
  exact ⟨i, j, rfl, k.here s (.int _) h⟩
abbrev dMax2 : DRs := d2I fun i j => if j > i then j else i
abbrev dMin2 : DRs := d2I fun i j => if j < i then j else i
def dTuple : DRs := fun ds st Q => on1 ds fun x => match x with
  | .tup xs => Q (.tup xs) st
  | .tuk xs => Q (.tuk xs) st
  | .lst xs => Q (.tup xs) st
  | .ref n => onO (seqS st (.ref n)) fun xs => Q (.tup xs) st
  | _ => False
def rTup2 (K : Frag) : List V → Hp → VK → Prop := fun xs H Q => rTupF K xs H Q ∨ ∃ a ys, xs = [.ref a] ∧ SqT K H a ys ∧ Q (.ref a) H
theorem call_tup2 : CallR X (.type "tuple") (rTup2 X.K) := CallR.or call_tupF call_tupleT
theorem callD_tup {K : Frag} : CallD T K (rTup2 K) dTuple := by
  intro M H st ds vs Q' Q s r h k
  obtain ⟨x, rfl, h⟩ := on1.of h
  obtain ⟨v, rfl, rv⟩ := r.one
  cases x with
  | tup xs => cases rv with | tup n e q rs => exact .inr ⟨_, _, rfl, .inl (.inr ⟨_, e⟩), k.here s (.tup n e q rs) h⟩
  | tuk xs => cases rv with | tuk n e rs => exact .inr ⟨_, _, rfl, .inl (.inl e), k.here s (.tuk n e rs) h⟩
  | lst xs => cases rv with
    | lst n e rs => exact .inl ⟨_, _, rfl, .inl (.inl e), fun l o nl hd => k.tup s rs nl hd h⟩
  | ref n =>
    obtain ⟨xs, e, h⟩ := onO.of h
    have rr := rv
    cases rv with
    | ref hm =>
      obtain ⟨o, e1, ro⟩ := s.atM hm
      unfold seqS at e
      simp only [e1] at e
      cases o with
      | lst zs => cases e; obtain ⟨ys, q, rs⟩ := ro; exact .inl ⟨_, ys, rfl, .inl (.inl q), fun l o nl hd => k.tup s rs nl hd h⟩
      | dK _ => cases e
      | dT _ => cases e
  | _ => exact h.elim
def dListT : DRs := fun ds st Q => on1 ds fun x => onO (seqS st x) fun xs => Q (.lst xs) st
def dListN : DRs := fun ds st Q => on1 ds fun x => onO (seqS st x) fun xs => Q (.ref st.length) (st ++ [.lst xs])
def boolsD : List D → Option (List Bool)
  | [] => some []
  | .bl b :: r => (boolsD r).map (b :: ·)
  | _ => none
theorem boolsD_of : ∀ {ds : List D} {bs : List Bool}, boolsD ds = some bs → ds = bs.map D.bl
  | [], bs, h => by cases h; rfl
  | .bl b :: r, bs, h => by
    unfold boolsD at h
    cases q : boolsD r with
    | none => rw [q] at h; cases h
    | some cs => rw [q] at h; cases h; rw [boolsD_of q]; rfl
  | .non :: r, bs, h => by cases h
  | .int _ :: r, bs, h => by cases h
  | .str _ :: r, bs, h => by cases h
  | .tup _ :: r, bs, h => by cases h
  | .tuk _ :: r, bs, h => by cases h
  | .lst _ :: r, bs, h => by cases h
  | .scr _ :: r, bs, h => by cases h
  | .ref _ :: r, bs, h => by cases h
theorem boolsD_map {α : Type} (g : α → Bool) : ∀ xs : List α, boolsD (xs.map fun x => D.bl (g x)) = some (xs.map g)
  | [] => rfl
  | x :: r => by rw [List.map_cons, List.map_cons]; unfold boolsD; rw [boolsD_map g r]; rfl
def dAllR (g : List Bool → Bool) : DRs := fun ds st Q => on1 ds fun x => match x with
  | .lst xs => onO (boolsD xs) fun bs => Q (.bl (g bs)) st
  | _ => False
theorem callD_all {K : Frag} (g : List Bool → Bool) : CallD T K (fun vs H Q => ∃ (a : Addr) (bs : List Bool), vs = [V.ref a] ∧ SqL K H a (bs.map V.bl) ∧ Q (.bl (g bs)) H) (dAllR g) := by
  intro M H st ds vs Q' Q s r h k
  obtain ⟨x, rfl, h⟩ := on1.of h
  obtain ⟨v, rfl, rv⟩ := r.one
  cases x with
  | lst xs =>
    obtain ⟨bs, e, h2⟩ := onO.of h
    have z := boolsD_of e
    subst z
    cases rv with
    | lst n e1 rs => have z := rs.bls; subst z; exact ⟨_, bs, rfl, .inl (.inl e1), k.here s (.bl _) h2⟩
  | _ => exact h.elim
abbrev dAll : DRs := dAllR fun bs => bs.all id
def dIx : DR2 := fun x y st Q => onO (seqS st x) fun ds => onI y fun i => onO (atI ds i) fun d => Q d st
theorem RVs.atI {K : Frag} {M : Pl} {H : Hp} {ds : List D} {xs : List V} (r : RVs K M H ds xs) {i : Int} {d : D} (h : L2.atI ds i = some d) : ∃ v, L2.atI xs i = some v ∧ RV K M H d v := by
  unfold L2.atI at h ⊢
  rw [← r.length]
  cases q : ixN ds.length i with
  | none => rw [q] at h; cases h
  | some j =>
    rw [q] at h
    obtain ⟨v, e, rv⟩ := r.get (i := j) (d := d) h
    exact ⟨v, e, rv⟩
theorem opD_ix {K : Frag} : OpD T K (rIx K) dIx := by
  intro M H st x y vx vy Q' Q s rx ry h k
  obtain ⟨ds, e, h⟩ := onO.of h
  obtain ⟨i, rfl, h⟩ := onI.of h
  obtain ⟨d, e2, h⟩ := onO.of h
  obtain ⟨p, xs, rfl, sq, rs⟩ := seqS.rd s rx e
  cases ry
  obtain ⟨v, e3, rv⟩ := rs.atI e2
  rcases sq with sq | sq
  · exact .inl ⟨p, xs, i, v, rfl, rfl, sq, e3, k.here s rv h⟩
  · exact .inr (.inl ⟨p, xs, i, v, rfl, rfl, sq, e3, k.here s rv h⟩)
theorem de_ix (ha : DE T X a fa) (hb : DE T X b fb) (hs : PlainIx b) : DE T X (.Subscript a b pos) (dOp dIx fa fb) := PE.imp (pe_ix ix_seq ha hb hs) fun _ _ _ h => lift2 opD_ix h
end
end DL
namespace DL
open PySem PySem.Spec PyProof.Rows L2 LamX PySem.W SL
mutual
def pdT : D → Option PyData
  | .non => some .none
  | .bl b => some (.bool b)
  | .int i => some (.int i)
  | .str x => some (.str x)
  | .tup ds => (pdTs ds).map .tuple
  | .tuk ds => (pdTs ds).map .tuple
  | .lst ds => (pdTs ds).map .list
  | .scr ds => (pdTs ds).map .list
  | .ref _ => none
def pdTs : List D → Option (List PyData)
  | [] => some []
  | d :: ds => match pdT d with
    | none => none
    | some p => (pdTs ds).map (p :: ·)
end
def pdS (st : DSt) : D → Option PyData
  | .ref n => match st[n]? with
    | some (.lst ds) => (pdTs ds).map .list
    | _ => none
  | d => pdT d
mutual
theorem pdT_dp {K : Frag} {M : Pl} {H : Hp} : ∀ {d : D} {v : V} {p : PyData}, RV K M H d v → pdT d = some p → Dp K H v p
  | _, _, _, .non, e => by simp only [pdT, Option.some.injEq] at e; subst e; exact .non
  | _, _, _, .bl b, e => by simp only [pdT, Option.some.injEq] at e; subst e; exact .bl b
  | _, _, _, .int b, e => by simp only [pdT, Option.some.injEq] at e; subst e; exact .int b
  | _, _, _, .str b, e => by simp only [pdT, Option.some.injEq] at e; subst e; exact .str b
  | _, _, _, .tup (ds := ds) n h q r, e => by
    simp only [pdT, Option.map_eq_some_iff] at e
    obtain ⟨ps, e, rfl⟩ := e
    exact .tup (.inl (.inr ⟨_, h⟩)) (pdTs_dp r e)
  | _, _, _, .tuk n h r, e => by
    simp only [pdT, Option.map_eq_some_iff] at e
    obtain ⟨ps, e, rfl⟩ := e
    exact .tup (.inl (.inl h)) (pdTs_dp r e)
  | _, _, _, .lst n h r, e => by
    simp only [pdT, Option.map_eq_some_iff] at e
    obtain ⟨ps, e, rfl⟩ := e
    exact .lst (.inl (.inl h)) (pdTs_dp r e)
  | _, _, _, .scr n h r, e => by
    simp only [pdT, Option.map_eq_some_iff] at e
    obtain ⟨ps, e, rfl⟩ := e
    exact .lst (.inl h) (pdTs_dp r e)
  | _, _, _, .lsk h r, e => by
    simp only [pdT, Option.map_eq_some_iff] at e
    obtain ⟨ps, e, rfl⟩ := e
    exact .lst (h H) (pdTs_dp r e)
  | _, _, _, .ref h, e => by simp [pdT] at e
theorem pdTs_dp {K : Frag} {M : Pl} {H : Hp} : ∀ {d : List D} {v : List V} {p : List PyData}, RVs K M H d v → pdTs d = some p → DpAll K H v p
  | _, _, _, .nil, e => by simp only [pdTs, Option.some.injEq] at e; subst e; exact .nil
  | _, _, _, .cons (d := d) h t, e => by
    unfold pdTs at e
    cases q : pdT d with
    | none => rw [q] at e; cases e
    | some y =>
      rw [q] at e
      simp only [Option.map_eq_some_iff] at e
      obtain ⟨ps, e, rfl⟩ := e
      exact .cons (pdT_dp h q) (pdTs_dp t e)
end
theorem pdS_dp {T : List (Addr × Str)} {K : Frag} {M : Pl} {H : Hp} {st : DSt} {d : D} {v : V} {p : PyData} (s : RS T K M st H) (r : RV K M H d v) (e : pdS st d = some p) : Dp K H v p := by
  cases d with
  | ref n =>
    cases r with
    | ref h =>
      obtain ⟨o, e1, ro⟩ := s.atM h
      unfold pdS at e
      simp only [e1] at e
      cases o with
      | lst zs =>
        simp only [Option.map_eq_some_iff] at e
        obtain ⟨ps, e, rfl⟩ := e
        obtain ⟨ys, q, rs⟩ := ro
        exact .lst (.inl (.inl q)) (pdTs_dp rs e)
      | dK _ => cases e
      | dT _ => cases e
  | _ => exact pdT_dp r e
mutual
theorem pdT_plain : ∀ {d : D} {p : PyData}, pdT d = some p → p.hasDict = false
  | .non, _, e => by simp only [pdT, Option.some.injEq] at e; subst e; simp [PyData.hasDict]
  | .bl b, _, e => by simp only [pdT, Option.some.injEq] at e; subst e; simp [PyData.hasDict]
  | .int b, _, e => by simp only [pdT, Option.some.injEq] at e; subst e; simp [PyData.hasDict]
  | .str b, _, e => by simp only [pdT, Option.some.injEq] at e; subst e; simp [PyData.hasDict]
  | .tup ds, _, e => by
    simp only [pdT, Option.map_eq_some_iff] at e
    obtain ⟨ps, e, rfl⟩ := e
    simpa [PyData.hasDict] using pdTs_plain e
  | .tuk ds, _, e => by
    simp only [pdT, Option.map_eq_some_iff] at e
    obtain ⟨ps, e, rfl⟩ := e
    simpa [PyData.hasDict] using pdTs_plain e
  | .scr ds, _, e => by
    simp only [pdT, Option.map_eq_some_iff] at e
    obtain ⟨ps, e, rfl⟩ := e
    simpa [PyData.hasDict] using pdTs_plain e
  | .lst ds, _, e => by
    simp only [pdT, Option.map_eq_some_iff] at e
    obtain ⟨ps, e, rfl⟩ := e
    simpa [PyData.hasDict] using pdTs_plain e
  | .ref n, _, e => by simp [pdT] at e
theorem pdTs_plain : ∀ {d : List D} {p : List PyData}, pdTs d = some p → PyData.hasDictAll p = false
  | [], _, e => by simp only [pdTs, Option.some.injEq] at e; subst e; simp [PyData.hasDictAll]
  | d :: ds, _, e => by
    unfold pdTs at e
    cases q : pdT d with
    | none => rw [q] at e; cases e
    | some y =>
      rw [q] at e
      simp only [Option.map_eq_some_iff] at e
      obtain ⟨ps, e, rfl⟩ := e
      simp [PyData.hasDictAll, pdT_plain q, pdTs_plain e]
end
theorem pdS_plain {st : DSt} {d : D} {p : PyData} (e : pdS st d = some p) : p.hasDict = false := by
  cases d with
  | ref n =>
    unfold pdS at e
    simp only at e
    split at e
    · simp only [Option.map_eq_some_iff] at e
      obtain ⟨ps, e, rfl⟩ := e
      simpa [PyData.hasDict] using pdTs_plain e
    · cases e
  | _ => exact pdT_plain e
structure El (k c : Nat) (d : PyData) : Prop where
  sh : d.showable = true
  dp : d.depth ≤ k
  ln : d.shown.length ≤ c
  cl : d.canLay0 = true
theorem El.mono {k c k' c' : Nat} {d : PyData} (h : El k c d) (hk : k ≤ k') (hc : c ≤ c') : El k' c' d := ⟨h.sh, Nat.le_trans h.dp hk, Nat.le_trans h.ln hc, h.cl⟩
theorem el_all {k c : Nat} : ∀ {ds : List PyData}, (∀ x ∈ ds, El k c x) → PyData.showableAll ds = true ∧ PyData.depthAll ds ≤ k ∧ ((PyData.shownAll ds).map (·.length)).sum ≤ ds.length * c ∧ (PyData.shownAll ds).length = ds.length ∧ PyData.canLayAll0 ds = true
  | [], _ => by simp [PyData.showableAll, PyData.depthAll, PyData.shownAll, PyData.canLayAll0]
  | d :: ds, h => by
    obtain ⟨a, b, e, f, g⟩ := el_all (ds := ds) fun x hx => h x (List.mem_cons_of_mem _ hx)
    have h1 := h d List.mem_cons_self
    refine ⟨?_, ?_, ?_, ?_, ?_⟩
    · simp only [PyData.showableAll, h1.sh, a, Bool.and_self]
    · simp only [PyData.depthAll]
      have := h1.dp
      omega
    · simp only [PyData.shownAll, List.map_cons, List.sum_cons, List.length_cons]
      have := h1.ln
      rw [Nat.succ_mul]
      omega
    · simp only [PyData.shownAll, List.length_cons, f]
    · simp only [PyData.canLayAll0, h1.cl, g, Bool.and_self]
theorem el_tuple {k c m : Nat} {ds : List PyData} (h : ∀ x ∈ ds, El k c x) (l : ds.length ≤ m) : El (k + 1) (m * (c + 2) + 3) (.tuple ds) := by
  obtain ⟨a, b, e, f, g⟩ := el_all h
  have z := tupleText_len_le (PyData.shownAll ds)
  have z1 : ds.length * c ≤ m * c := Nat.mul_le_mul_right c l
  refine ⟨by simp only [PyData.showable]; exact a, by simp only [PyData.depth]; omega, ?_, by simp only [PyData.canLay0]; exact g⟩
  simp only [PyData.shown]
  rw [f] at z
  rw [Nat.mul_add]
  omega
theorem el_list {k c m : Nat} {ds : List PyData} (h : ∀ x ∈ ds, El k c x) (l : ds.length ≤ m) : El (k + 1) (m * (c + 2) + 3) (.list ds) := by
  obtain ⟨a, b, e, f, g⟩ := el_all h
  have z := listText_len_le (PyData.shownAll ds)
  have z1 : ds.length * c ≤ m * c := Nat.mul_le_mul_right c l
  refine ⟨by simp only [PyData.showable]; exact a, by simp only [PyData.depth]; omega, ?_, by simp only [PyData.canLay0]; exact g⟩
  simp only [PyData.shown]
  rw [f] at z
  rw [Nat.mul_add]
  omega
theorem el_int {i : Int} (h0 : -100 ≤ i) (h1 : i ≤ 1000) : El 0 20 (.int i) := by
  refine ⟨?_, by simp [PyData.depth], ?_, by simp [PyData.canLay0]⟩
  · simp only [PyData.showable]
    refine decide_eq_true ?_
    have z : i.natAbs ≤ 1000 := by omega
    have y : i.natAbs.log2 ≤ i.natAbs := Nat.log2_le_self _
    omega
  · have all : ((List.range 1101).all fun n => decide ((PyData.shown (.int ((n : Int) - 100))).length ≤ 20)) = true := by decide +kernel
    have z := List.all_eq_true.mp all (i + 100).toNat (List.mem_range.mpr (by omega))
    have e : (((i + 100).toNat : Nat) : Int) - 100 = i := by omega
    rw [e] at z
    exact of_decide_eq_true z
def Sm (k c : Nat) (d : D) : Prop := ∃ p, pdT d = some p ∧ El k c p
theorem Sm.mono {k c k' c' : Nat} {d : D} (h : Sm k c d) (hk : k ≤ k') (hc : c ≤ c') : Sm k' c' d := by
  obtain ⟨p, e, h⟩ := h
  exact ⟨p, e, h.mono hk hc⟩
theorem sm_all {k c : Nat} : ∀ {ds : List D}, (∀ x ∈ ds, Sm k c x) → ∃ ps, pdTs ds = some ps ∧ (∀ x ∈ ps, El k c x) ∧ ps.length = ds.length
  | [], _ => ⟨[], by simp [pdTs], by simp, rfl⟩
  | d :: ds, h => by
    obtain ⟨ps, e, a, l⟩ := sm_all (ds := ds) fun x hx => h x (List.mem_cons_of_mem _ hx)
    obtain ⟨p, e1, a1⟩ := h d List.mem_cons_self
    refine ⟨p :: ps, by simp [pdTs, e1, e], fun x hx => ?_, by simp [l]⟩
    rcases List.mem_cons.mp hx with z | z
    · rw [z]; exact a1
    · exact a x z
theorem sm_tup {k c m : Nat} {ds : List D} (h : ∀ x ∈ ds, Sm k c x) (l : ds.length ≤ m) : Sm (k + 1) (m * (c + 2) + 3) (.tup ds) := by
  obtain ⟨ps, e, a, l2⟩ := sm_all h
  exact ⟨.tuple ps, by simp [pdT, e], el_tuple a (by omega)⟩
theorem sm_lst {k c m : Nat} {ds : List D} (h : ∀ x ∈ ds, Sm k c x) (l : ds.length ≤ m) : Sm (k + 1) (m * (c + 2) + 3) (.lst ds) := by
  obtain ⟨ps, e, a, l2⟩ := sm_all h
  exact ⟨.list ps, by simp [pdT, e], el_list a (by omega)⟩
theorem sm_int {i : Int} (h0 : -100 ≤ i) (h1 : i ≤ 1000) : Sm 0 20 (.int i) := ⟨_, by simp [pdT], el_int h0 h1⟩
theorem Sm.shaped {k c : Nat} {p : PyData} (h : El k c p) (hk : k ≤ 50) : SeqAt.shaped p = true := by
  unfold SeqAt.shaped
  rw [h.cl, Bool.true_and]
  exact decide_eq_true (by have := h.dp; omega)
def dRepr : DRs := fun ds st Q => on1 ds fun x => onO (pdS st x) fun p => (p.showable = true ∧ p.depth ≤ 50 ∧ p.shown.length ≤ sizeLine) ∧ Q (.str p.shown) st
section
variable {T : List (Addr × Str)} {X : Cx} {a b c : Expr} {es : List Expr} {fa fb fc : DTE} {fs : DTA} {pos : Pos} {K : Frag}
theorem callD_repr : CallD T K (rRepr K) dRepr := by
  intro M H st ds vs Q' Q s r h k
  obtain ⟨x, rfl, h⟩ := on1.of h
  obtain ⟨p, e, ⟨h1, h2, h3⟩, h⟩ := onO.of h
  obtain ⟨v, rfl, rv⟩ := r.one
  exact ⟨v, p, rfl, .inl ⟨pdS_dp s rv e, pdS_plain e⟩, h1, h2, h3, k.here s (.str _) h⟩
def dEqD (neg : Bool) : DR2 := fun x y st Q => onO (pdS st x) fun p => onO (pdS st y) fun q => (SeqAt.shaped p = true ∧ SeqAt.shaped q = true) ∧ Q (.bl (if neg then !PyData.eqv p q else PyData.eqv p q)) st
def dEqG (neg : Bool) : DR2 := fun x y st Q => match x, y with
  | .int i, .int j => Q (.bl (if neg then !decide (i = j) else decide (i = j))) st
  | .bl i, .bl j => Q (.bl (if neg then !decide (i = j) else decide (i = j))) st
  | .str i, .str j => Q (.bl (if neg then !decide (i = j) else decide (i = j))) st
  | x, y => dEqD neg x y st Q
def rEq2 (K : Frag) : R2 := fun x y H Q => rEq x y H Q ∨ rEqD K x y H Q
def rNe2 (K : Frag) : R2 := fun x y H Q => rNe x y H Q ∨ rNeD K x y H Q
theorem opD_eq : OpD T K (rEq2 K) (dEqG false) := by
  intro M H st x y vx vy Q' Q s rx ry h k
  have gen : dEqD false x y st Q' → rEq2 K vx vy H Q := fun h => by
    obtain ⟨p, e1, h⟩ := onO.of h
    obtain ⟨q, e2, ⟨h1, h2⟩, h⟩ := onO.of h
    exact .inr ⟨p, q, pdS_dp s rx e1, pdS_dp s ry e2, h1, h2, k.here s (.bl _) h⟩
  unfold dEqG at h
  split at h
  · cases rx
    cases ry
    exact .inl ⟨rfl, by rw [dec_int]; exact k.here s (.bl _) (by simpa [BEq.beq] using h)⟩
  · cases rx
    cases ry
    exact .inl ⟨rfl, by rw [dec_bl]; exact k.here s (.bl _) (by simpa [BEq.beq] using h)⟩
  · cases rx
    cases ry
    refine .inl ⟨rfl, ?_⟩
    rename_i i j
    have e : decide (V.str i = V.str j) = decide (i = j) := by
      by_cases z : i = j
      · rw [z]; simp
      · rw [decide_eq_false z]; exact decide_eq_false fun q => z (by cases q; rfl)
    rw [e]
    exact k.here s (.bl _) h
  · exact gen h
theorem opD_ne : OpD T K (rNe2 K) (dEqG true) := by
  intro M H st x y vx vy Q' Q s rx ry h k
  have gen : dEqD true x y st Q' → rNe2 K vx vy H Q := fun h => by
    obtain ⟨p, e1, h⟩ := onO.of h
    obtain ⟨q, e2, ⟨h1, h2⟩, h⟩ := onO.of h
    exact .inr ⟨p, q, pdS_dp s rx e1, pdS_dp s ry e2, h1, h2, k.here s (.bl _) h⟩
  unfold dEqG at h
  split at h
  · cases rx
    cases ry
    exact .inl ⟨rfl, by rw [dec_int]; exact k.here s (.bl _) (by simpa [BEq.beq] using h)⟩
  · cases rx
    cases ry
    exact .inl ⟨rfl, by rw [dec_bl]; exact k.here s (.bl _) (by simpa [BEq.beq] using h)⟩
  · cases rx
    cases ry
    refine .inl ⟨rfl, ?_⟩
    rename_i i j
    have e : decide (V.str i = V.str j) = decide (i = j) := by
      by_cases z : i = j
      · rw [z]; simp
      · rw [decide_eq_false z]; exact decide_eq_false fun q => z (by cases q; rfl)
    rw [e]
    exact k.here s (.bl _) h
  · exact gen h
abbrev dEq : DR2 := dEqG false
abbrev dNe : DR2 := dEqG true
theorem op_eq2 (hu : X.A.units + 64 < cLine) : OpR X (compareOp .Eq) (rEq2 X.K) := OpR.or op_eq (op_eqD hu)
theorem op_ne2 (hu : X.A.units + 64 < cLine) : OpR X (compareOp .NotEq) (rNe2 X.K) := OpR.or op_ne (op_neD hu)
def flatD : D → Bool
  | .non => true
  | .bl _ => true
  | .int _ => true
  | .str _ => true
  | _ => false
def eqF : D → D → Bool
  | .non, .non => true
  | .bl a, .bl b => a == b
  | .bl a, .int b => (if a then 1 else 0) == b
  | .int a, .bl b => a == (if b then 1 else 0)
  | .int a, .int b => a == b
  | .str a, .str b => a == b
  | _, _ => false
theorem RV.eqF {M : Pl} {H : Hp} {d e : D} {v w : V} (r : RV K M H d v) (q : RV K M H e w) (h1 : flatD d = true) (h2 : flatD e = true) : eqV v w = DL.eqF d e := by
  cases r <;> cases q <;> first | rfl | cases h1 | cases h2
def dInG (neg : Bool) : DR2 := fun x y st Q => onO (seqS st y) fun ds => (flatD x = true ∧ ds.all flatD = true) ∧ Q (.bl (if neg then !(ds.any fun y => eqF y x) else ds.any fun y => eqF y x)) st
def dChain (r r' : DR2) (fa fb fc : DTE) : DTE := fun ρ st Q => fa ρ st fun x st1 => fb ρ st1 fun y st2 => r x y st2 fun z st3 => onB z fun k => if k = true then fc ρ st3 fun w st4 => r' y w st4 Q else Q (.bl false) st3
end
end DL
namespace DL
open PySem PySem.Spec PyProof.Rows L2 LamX PySem.W SL
structure DEnds where
  nx : DEnv → DSt → Prop
  rt : DK
  bk : DEnv → DSt → Prop := fun _ _ => False
  ct : DEnv → DSt → Prop := fun _ _ => False
abbrev DTS := DEnds → DEnv → DSt → Prop
def KnE (T : List (Addr × Str)) (K : Frag) (M : Pl) (H : Hp) (N : DEnv → DSt → Prop) (N' : L2.St → Hp → Prop) : Prop :=
  ∀ M' H' σ' r' st', Grow M H M' H' → RS T K M' st' H' → RE K M' H' r' σ' → N r' st' → N' σ' H'
structure KnS (T : List (Addr × Str)) (K : Frag) (M : Pl) (H : Hp) (E : DEnds) (E' : Ends) : Prop where
  nx : KnE T K M H E.nx E'.nx
  rt : Kn T K M H E.rt E'.rt
  bk : KnE T K M H E.bk E'.bk
  ct : KnE T K M H E.ct E'.ct
theorem KnE.grow {T : List (Addr × Str)} {K : Frag} {M M1 : Pl} {H H1 : Hp} {N : DEnv → DSt → Prop} {N' : L2.St → Hp → Prop} (k : KnE T K M H N N') (g : Grow M H M1 H1) : KnE T K M1 H1 N N' :=
  fun M' H' σ' r' st' g1 s re q => k M' H' σ' r' st' (g.trans g1) s re q
theorem KnE.here {T : List (Addr × Str)} {K : Frag} {M : Pl} {H : Hp} {N : DEnv → DSt → Prop} {N' : L2.St → Hp → Prop} {σ : L2.St} {r : DEnv} {st : DSt} (k : KnE T K M H N N') (s : RS T K M st H) (re : RE K M H r σ) (q : N r st) : N' σ H :=
  k M H σ r st (Grow.refl M H) s re q
theorem KnS.grow {T : List (Addr × Str)} {K : Frag} {M M1 : Pl} {H H1 : Hp} {E : DEnds} {E' : Ends} (k : KnS T K M H E E') (g : Grow M H M1 H1) : KnS T K M1 H1 E E' := ⟨k.nx.grow g, k.rt.grow g, k.bk.grow g, k.ct.grow g⟩
def liftS (T : List (Addr × Str)) (K : Frag) (F : DTS) : TS := fun E σ H => ∃ M r st E', RS T K M st H ∧ RE K M H r σ ∧ F E' r st ∧ KnS T K M H E' E
abbrev DSt1 (T : List (Addr × Str)) (X : Cx) (s : Stmt) (F : DTS) : Prop := PS X s (liftS T X.K F)
abbrev DSs (T : List (Addr × Str)) (X : Cx) (s : List Stmt) (F : DTS) : Prop := PSs X s (liftS T X.K F)
def sNext : DTS := fun E r st => E.nx r st
def sSeq (F G : DTS) : DTS := fun E r st => F { E with nx := G E } r st
def sNever : DTS := fun _ _ _ => False
def sDrop (f : DTE) : DTS := fun E r st => f r st fun _ st1 => E.nx r st1
def sRet (f : DTE) : DTS := fun E r st => f r st E.rt
def sRetN : DTS := fun E _ st => E.rt .non st
def sIf (t : DTT) (F G : DTS) : DTS := fun E r st => t r st fun b st1 => if b = true then F E r st1 else G E r st1
section
variable {T : List (Addr × Str)} {X : Cx} {st : Stmt} {rest : List Stmt} {F G : DTS} {e : Expr} {f : DTE} {pos : Pos}
theorem ds_nil : DSs T X [] sNext := PSs.imp pss_nil fun E σ H ⟨M, r, st, E', s, re, h, k⟩ => k.nx.here s re h
theorem ds_cons (h1 : DSt1 T X st F) (h2 : DSs T X rest G) : DSs T X (st :: rest) (sSeq F G) := PSs.imp (pss_cons h1 h2) fun E σ H ⟨M, r, st, E', s, re, h, k⟩ =>
  ⟨M, r, st, _, s, re, h, fun M1 H1 σ1 r1 st1 g1 s1 re1 q => ⟨M1, r1, st1, E', s1, re1, q, k.grow g1⟩, k.rt, k.bk, k.ct⟩
theorem ds_one (h1 : DSt1 T X st F) : DSs T X [st] F := pss_one h1
theorem ds_never : DSt1 T X st sNever := PS.imp ps_never fun E σ H ⟨M, r, st, E', s, re, h, k⟩ => h.elim
theorem ds_expr (he : DE T X e f) (hs : swapsWith e none pos.line X.env = pure false := by rfl) : DSt1 T X (.Expr e pos) (sDrop f) := PS.imp (ps_expr he hs) fun E σ H ⟨M, r, st, E', s, re, h, k⟩ =>
  ⟨M, r, st, _, s, re, h, fun M1 H1 st1 d v g1 s1 r1 q => k.nx M1 H1 σ r st1 g1 s1 (re.grow g1) q⟩
theorem ds_ret (he : DE T X e f) : DSt1 T X (.Return (some e) pos) (sRet f) := PS.imp (ps_ret he) fun E σ H ⟨M, r, st, E', s, re, h, k⟩ => ⟨M, r, st, _, s, re, h, k.rt⟩
theorem ds_if {c : Expr} {a b : List Stmt} {t : DTT} (hc : DT T X c t) (ha : DSs T X a F) (hb : DSs T X b G) : DSt1 T X (.If c a b pos) (sIf t F G) := PS.imp (ps_if hc ha hb) fun E σ H ⟨M, r, st, E', s, re, h, k⟩ =>
  ⟨M, r, st, _, s, re, h, fun M1 H1 st1 c g1 s1 q => by
    cases c with
    | true => rw [if_pos rfl] at q ⊢; exact ⟨M1, r, st1, E', s1, re.grow g1, q, k.grow g1⟩
    | false => rw [if_neg (by decide)] at q ⊢; exact ⟨M1, r, st1, E', s1, re.grow g1, q, k.grow g1⟩⟩
end
abbrev DTG := D → DEnv → DSt → (DEnv → DSt → Prop) → Prop
abbrev DTGs := List D → DEnv → DSt → (DEnv → DSt → Prop) → Prop
def liftG (T : List (Addr × Str)) (K : Frag) (vs : List Nat) (g : DTG) : TG := fun v σ H Q => ∃ M r st d Q', RS T K M st H ∧ RE K M H r σ ∧ RV K M H d v ∧ g d r st Q' ∧
  ∀ M' H' σ' r' st', Grow M H M' H' → RS T K M' st' H' → RE K M' H' r' σ' → wipe σ' vs = wipe σ vs → Q' r' st' → Q σ' H'
def liftGs (T : List (Addr × Str)) (K : Frag) (vs : List Nat) (g : DTGs) : TGs := fun v σ H Q => ∃ M r st d Q', RS T K M st H ∧ RE K M H r σ ∧ RVs K M H d v ∧ g d r st Q' ∧
  ∀ M' H' σ' r' st', Grow M H M' H' → RS T K M' st' H' → RE K M' H' r' σ' → wipe σ' vs = wipe σ vs → Q' r' st' → Q σ' H'
theorem PG.imp {X : Cx} {e : Expr} {t t' : TG} (h : PG X e t) (i : ∀ v σ H Q, t' v σ H Q → t v σ H Q) : PG X e t' := ⟨fun pins s σ H v u Q I r z => h.run pins s σ H v u Q I r (i v σ H Q z)⟩
theorem PGs.imp {X : Cx} {e : List Expr} {t t' : TGs} (h : PGs X e t) (i : ∀ v σ H Q, t' v σ H Q → t v σ H Q) : PGs X e t' := ⟨fun pins s σ H v u Q I r z => h.run pins s σ H v u Q I r (i v σ H Q z)⟩
abbrev DG (T : List (Addr × Str)) (X : Cx) (vs : List Nat) (e : Expr) (g : DTG) : Prop := PG X e (liftG T X.K vs g)
abbrev DGs (T : List (Addr × Str)) (X : Cx) (vs : List Nat) (e : List Expr) (g : DTGs) : Prop := PGs X e (liftGs T X.K vs g)
theorem RE.set {K : Frag} {M : Pl} {H : Hp} {r : DEnv} {σ : L2.St} (h : RE K M H r σ) (i : Nat) {d : D} {v : V} (rv : RV K M H d v) : RE K M H (r.set i (some d)) (σ.set i (some v)) := by
  refine ⟨by rw [List.length_set, List.length_set]; exact h.len, fun j c e => ?_⟩
  by_cases q : j = i
  · subst q
    have lt : j < r.length := by
      have := (List.getElem?_eq_some_iff.mp e).1
      rw [List.length_set] at this
      exact this
    rw [List.getElem?_set_self lt] at e
    cases e
    exact ⟨v, List.getElem?_set_self (by rw [← h.len]; exact lt), rv⟩
  · rw [List.getElem?_set_ne (fun z => q z.symm)] at e ⊢
    exact h.at_ j c e
theorem wipe_set {σ : L2.St} {i : Nat} {x : Option V} : ∀ {vs : List Nat}, i ∈ vs → wipe (σ.set i x) vs = wipe σ vs
  | [], h => by cases h
  | v :: vs, h => by
    show (wipe (σ.set i x) vs).set v none = (wipe σ vs).set v none
    by_cases m : i ∈ vs
    · rw [wipe_set m]
    · rcases List.mem_cons.mp h with z | z
      · subst z
        have gen : ∀ (ws : List Nat) (τ : L2.St), i ∉ ws → wipe (τ.set i x) ws = (wipe τ ws).set i x := by
          intro ws
          induction ws with
          | nil => intro τ _; rfl
          | cons w ws ih =>
            intro τ hn
            rw [List.mem_cons, not_or] at hn
            show (wipe (τ.set i x) ws).set w none = ((wipe τ ws).set w none).set i x
            rw [ih τ hn.2, List.set_comm _ _ hn.1]
        rw [gen vs σ m, List.set_set]
      · exact absurd z m
def gNm (i : Nat) : DTG := fun d r st Q => Q (r.set i (some d)) st
def gsNil : DTGs := fun ds r st Q => match ds with | [] => Q r st | _ => False
def gsCons (g : DTG) (h : DTGs) : DTGs := fun ds r st Q => match ds with | d :: e => g d r st fun r1 st1 => h e r1 st1 Q | [] => False
def gTp (n : Nat) (g : DTGs) : DTG := fun d r st Q => match d with
  | .tup ds => ds.length = n ∧ g ds r st Q
  | .tuk ds => ds.length = n ∧ g ds r st Q
  | .lst ds => ds.length = n ∧ g ds r st Q
  | _ => False
theorem PG.or {X : Cx} {e : Expr} {t t' : TG} (h : PG X e t) (h' : PG X e t') : PG X e fun v σ H Q => t v σ H Q ∨ t' v σ H Q := ⟨fun pins s σ H v u Q I r z => by
  rcases z with z | z
  · exact h.run pins s σ H v u Q I r z
  · exact h'.run pins s σ H v u Q I r z⟩
section
variable {T : List (Addr × Str)} {X : Cx} {vs : List Nat} {pos : Pos}
theorem dg_name {i : Nat} {x : Str} (hN : X.N.Nodup) (hi : X.N[i]? = some x) (hx : Loc X.env.scope x) (m : i ∈ vs) (hf : X.fn x = true ∨ X.env.scope.names.lookup x = some .local := by first | exact .inl rfl | exact .inr rfl | assumption) : DG T X vs (.Name x pos) (gNm i) :=
  PG.imp (pg_name hN hi hx hf) fun v σ H Q ⟨M, r, st, d, Q', s, re, rv, h, k⟩ => k M H _ _ st (Grow.refl M H) s (re.set i rv) (wipe_set m) h
theorem dgs_nil : DGs T X vs [] gsNil := PGs.imp pgs_nil fun v σ H Q ⟨M, r, st, d, Q', s, re, rv, h, k⟩ => by
  cases d with
  | nil => cases rv; exact ⟨rfl, k M H σ r st (Grow.refl M H) s re rfl h⟩
  | cons _ _ => exact h.elim
theorem dgs_cons {e : Expr} {es : List Expr} {g : DTG} {h : DTGs} (h1 : DG T X vs e g) (h2 : DGs T X vs es h) (hs : (assignEach (e :: es) X.env).map (·.2) = assign e X.env :: (assignEach es X.env).map (·.2) := by rfl) : DGs T X vs (e :: es) (gsCons g h) :=
  PGs.imp (pgs_cons h1 h2 hs) fun v σ H Q ⟨M, r, st, d, Q', s, re, rv, h, k⟩ => by
    cases d with
    | nil => exact h.elim
    | cons d ds =>
      cases rv with
      | cons r1 rs => exact ⟨_, _, rfl, M, r, st, d, _, s, re, r1, h, fun M1 H1 σ1 r1' st1 g1 s1 re1 w1 q => ⟨M1, r1', st1, ds, Q', s1, re1, rs.grow g1, q, fun M2 H2 σ2 r2 st2 g2 s2 re2 w2 q2 => k M2 H2 σ2 r2 st2 (g1.trans g2) s2 re2 (w2.trans w1) q2⟩⟩
theorem dg_tup {es : List Expr} {k : Nat} {g : DTGs} {n : Nat} (hc : X.calm = true) (h : DGs T X vs es g) (hn : (assignEach es X.env).length = n := by rfl) (hst : (assignEach es X.env).findIdx? (·.1) = none := by rfl) : DG T X vs (.Tuple es k pos) (gTp n g) :=
  PG.imp (PG.or (pg_tup hc h hn hst) (pg_lst hc h hn hst)) fun v σ H Q ⟨M, r, st, d, Q', s, re, rv, hh, kk⟩ => by
    cases d with
    | tup ds => cases rv with | tup nn e q rs => exact .inl ⟨_, _, rfl, .inl (.inr ⟨_, e⟩), by rw [← rs.length]; exact hh.1, M, r, st, ds, Q', s, re, rs, hh.2, kk⟩
    | tuk ds => cases rv with | tuk nn e rs => exact .inl ⟨_, _, rfl, .inl (.inl e), by rw [← rs.length]; exact hh.1, M, r, st, ds, Q', s, re, rs, hh.2, kk⟩
    | lst ds => cases rv with | lst nn e rs => exact .inr ⟨_, _, rfl, .inl (.inl e), by rw [← rs.length]; exact hh.1, M, r, st, ds, Q', s, re, rs, hh.2, kk⟩
    | _ => exact hh.elim
def sSet (i : Nat) (f : DTE) : DTS := fun E r st => f r st fun d st1 => E.nx (r.set i (some d)) st1
theorem ds_set {i : Nat} {x : Str} {e : Expr} {f : DTE} {pos' : Pos} (hN : X.N.Nodup) (hi : X.N[i]? = some x) (hx : Loc X.env.scope x) (he : DE T X e f) (hs : swapsWith e (some (.Name x pos')) pos.line X.env = pure false := by rfl)
    (hf : X.fn x = true ∨ X.env.scope.names.lookup x = some .local := by first | exact .inl rfl | exact .inr rfl | assumption) : DSt1 T X (.Assign [.Name x pos'] e pos) (sSet i f) :=
  PS.imp (ps_set hN hi hx he hs hf) fun E σ H ⟨M, r, st, E', s, re, h, k⟩ => ⟨M, r, st, _, s, re, h, fun M1 H1 st1 d v g1 s1 r1 q => k.nx M1 H1 _ _ st1 g1 s1 ((re.grow g1).set i r1) q⟩
def sAsg (f : DTE) (g : DTG) : DTS := fun E r st => f r st fun d st1 => g d r st1 E.nx
theorem ds_asg {tg e : Expr} {f : DTE} {g : DTG} (he : DE T X e f) (hg : DG T X vs tg g) (hs : swapsWithSole [tg] e pos.line X.env = pure false := by rfl) (hw : swappedStores [tg] e X.env = pure none := by rfl) (h1 : (assignEach [tg] X.env).map (·.2) = [assign tg X.env] := by rfl) : DSt1 T X (.Assign [tg] e pos) (sAsg f g) :=
  PS.imp (ps_asg he hg hs hw h1) fun E σ H ⟨M, r, st, E', s, re, h, k⟩ => ⟨M, r, st, _, s, re, h, fun M1 H1 st1 d v g1 s1 r1 q =>
    ⟨M1, r, st1, d, _, s1, re.grow g1, r1, q, fun M2 H2 σ2 r2 st2 g2 s2 re2 _ q2 => k.nx M2 H2 σ2 r2 st2 (g1.trans g2) s2 re2 q2⟩⟩
def sPar (i j : Nat) (f : DTA) : DTS := fun E r st => f r st fun ds st1 => on2 ds fun d e => E.nx ((r.set i (some d)).set j (some e)) st1
theorem ds_par {i j : Nat} {x y : Str} {a b : Expr} {f : DTA} {px py pt : Pos} {kt k2 pt2} (hc : X.calm = true) (hN : X.N.Nodup) (hi : X.N[i]? = some x) (hj : X.N[j]? = some y) (hij : i ≠ j) (hx : X.env.scope.names.lookup x = some .local) (hy : X.env.scope.names.lookup y = some .local) (ha : DA T X [a, b] f)
    (hw : swappedStores [.Tuple [.Name x px, .Name y py] kt pt] (.Tuple [a, b] k2 pt2) X.env = pure (some [x, y])) (hs : swapsWithSole [.Tuple [.Name x px, .Name y py] kt pt] (.Tuple [a, b] k2 pt2) pos.line X.env = pure false := by rfl) :
    DSt1 T X (.Assign [.Tuple [.Name x px, .Name y py] kt pt] (.Tuple [a, b] k2 pt2) pos) (sPar i j f) :=
  PS.imp (ps_par hc hN hi hj hij hx hy ha hw hs) fun E σ H ⟨M, r, st, E', s, re, h, k⟩ => ⟨M, r, st, _, s, re, h, fun M1 H1 st1 ds vs g1 s1 r1 q => by
    obtain ⟨d, e, rfl, q⟩ := on2.of q
    obtain ⟨v, w, rfl, rv, rw'⟩ := r1.two
    exact ⟨v, w, rfl, k.nx M1 H1 _ _ st1 g1 s1 (((re.grow g1).set i rv).set j rw') q⟩⟩
def gSb (fo fi : DTE) : DTG := fun d r st Q => fo r st fun o st1 => fi r st1 fun i st2 => match o with
  | .ref n => onI i fun k => match st2[n]? with
    | some (.lst xs) => onO (ixN xs.length k) fun j => Q r (st2.set n (.lst (xs.set j d)))
    | _ => False
  | _ => False
theorem dg_sub {o i : Expr} {fo fi : DTE} (ho : DE T X o fo) (hi : DE T X i fi)
    (ha : ∀ v, assign (.Subscript o i pos) X.env v = (do let ov ← holding [v] (eval o X.env); let iv ← holding [v, ov] (eval i X.env); standAt pos; holding [v, ov, iv] (setItem ov iv v); release [v, ov, iv] []) := by intro _; rfl) : DG T X vs (.Subscript o i pos) (gSb fo fi) :=
  PG.imp (pg_sub ho hi set_list ha) fun v σ H Q ⟨M, r, st, d, Q', s, re, rv, h, k⟩ =>
    ⟨M, r, st, _, s, re, h, fun M1 H1 st1 o vo g1 s1 r1 q => ⟨M1, r, st1, _, s1, re.grow g1, q, fun M2 H2 st2 i vi g2 s2 r2 q2 => by
      cases o with
      | ref n =>
        obtain ⟨kk, rfl, q3⟩ := onI.of q2
        cases r2
        have r1' := r1.grow g2
        cases r1' with
        | ref hm =>
          split at q3
          · rename_i xs e1
            obtain ⟨j, e2, q4⟩ := onO.of q3
            obtain ⟨ys, hy, rs⟩ := s2.obj n _ _ hm e1
            refine ⟨_, ys, kk, j, rfl, rfl, hy, by rw [← rs.length]; exact e2, ?_⟩
            have gw : Grow M2 H2 M2 (upd H2 _ (.lst (ys.set j v))) := Grow.write s2.nd hm
            refine k M2 _ σ r _ ((g1.trans g2).trans gw) (s2.write (u := .lst (xs.set j d)) hm ⟨ys.set j v, upd_same, ?_⟩) ((re.grow (g1.trans g2)).grow gw) rfl q4
            exact ((rs.grow gw).set (((rv.grow g1).grow g2).grow gw) j)
          · exact q3.elim
      | _ => exact q2.elim⟩⟩
end
end DL
namespace DL
open PySem PySem.Spec PyProof.Rows L2 LamX PySem.W SL
structure Later (M : Pl) (H : Hp) (M' : Pl) (H' : Hp) : Prop where
  keep : ∀ a o, a ∉ M.m → H a = some o → (∀ ps, o ≠ .tbl ps) → H' a = some o
  get : ∀ n a, M.at_ n = some a → M'.at_ n = some a
  notin : ∀ a, a ∉ M.m → NT H a → a ∉ M'.m
theorem Grow.later {M M' : Pl} {H H' : Hp} (g : Grow M H M' H') : Later M H M' H' := ⟨g.keep, fun _ _ h => g.get h, fun _ h t => g.notin h t⟩
theorem Later.trans {M M1 M2 : Pl} {H H1 H2 : Hp} (a : Later M H M1 H1) (b : Later M1 H1 M2 H2) (th : ∀ a, NT H a → NT H1 a) : Later M H M2 H2 :=
  ⟨fun c o n h t => b.keep c o (a.notin c n ⟨o, h, t⟩) (a.keep c o n h t) t, fun n c h => b.get n c (a.get n c h), fun c n h => b.notin c (a.notin c n h) (th c h)⟩
theorem Rd.later {M M' : Pl} {H H' : Hp} (g : Later M H M' H') {a : Addr} {xs : List V} (n : a ∉ M.m) (r : Rd H a (.lst xs)) : Rd H' a (.lst xs) := by
  rcases r with r | ⟨o, r⟩
  · exact .inl (g.keep a _ n r (fun ps z => by cases z))
  · exact .inr ⟨o, g.keep a _ n r (fun ps z => by cases z)⟩
mutual
theorem RV.later {K : PySem.W.Frag} {M M' : Pl} {H H' : Hp} (g : Later M H M' H') : ∀ {d : D} {v : V}, RV K M H d v → RV K M' H' d v
  | _, _, .non => .non
  | _, _, .bl b => .bl b
  | _, _, .int i => .int i
  | _, _, .str x => .str x
  | _, _, .tup n h e r => .tup (g.notin _ n ⟨_, h, fun ps z => by cases z⟩) (g.keep _ _ n h (fun ps z => by cases z)) e (r.later g)
  | _, _, .tuk n h r => .tuk (g.notin _ n ⟨_, h, fun ps z => by cases z⟩) (g.keep _ _ n h (fun ps z => by cases z)) (r.later g)
  | _, _, .lst n h r => .lst (g.notin _ n ⟨_, h, fun ps z => by cases z⟩) (g.keep _ _ n h (fun ps z => by cases z)) (r.later g)
  | _, _, .scr n h r => .scr (g.notin _ n (Rd.there h)) (Rd.later g n h) (r.later g)
  | _, _, .lsk h r => .lsk h (r.later g)
  | _, _, .ref h => .ref (g.get _ _ h)
theorem RVs.later {K : PySem.W.Frag} {M M' : Pl} {H H' : Hp} (g : Later M H M' H') : ∀ {d : List D} {v : List V}, RVs K M H d v → RVs K M' H' d v
  | _, _, .nil => .nil
  | _, _, .cons h t => .cons (h.later g) (t.later g)
end
theorem RO.later {K : PySem.W.Frag} {M M' : Pl} {H H' : Hp} (g : Later M H M' H') {o : O} {a : Addr} (h : RO K M H o a) (e : H' a = H a) : RO K M' H' o a := by
  cases o with
  | lst ds => obtain ⟨xs, h1, h2⟩ := h; exact ⟨xs, e.trans h1, h2.later g⟩
  | dK kvs => obtain ⟨ys, h1, h2, h3⟩ := h; exact ⟨ys, e.trans h1, h2, h3.later g⟩
  | dT kvs => obtain ⟨ys, h1, h2, h3⟩ := h; exact ⟨ys, e.trans h1, h2, h3.later g⟩
def Pl.hide (M : Pl) (p : Addr) : Pl := ⟨M.h + 1, p :: M.m⟩
theorem Pl.hide_at (M : Pl) (p : Addr) (n : Nat) : (M.hide p).at_ n = M.at_ n := by
  unfold Pl.at_ Pl.hide
  show (p :: M.m)[M.h + 1 + n]? = M.m[M.h + n]?
  rw [show M.h + 1 + n = (M.h + n) + 1 by omega, List.getElem?_cons_succ]
theorem Pl.hide_app (M : Pl) (p : Addr) (m : List Addr) : (M.hide p).app m = (M.app m).hide p := rfl
theorem Pl.hide_inj {M N : Pl} {p : Addr} (h : M.hide p = N.hide p) : M = N := by
  cases M
  cases N
  unfold Pl.hide at h
  simp only [Pl.mk.injEq, List.cons.injEq, Nat.add_right_cancel_iff, true_and] at h
  rw [h.1, h.2]
theorem later_hide {M : Pl} {H : Hp} {p : Addr} {o : HO} (np : H p = none) : Later M H (M.hide p) (upd H p o) :=
  ⟨fun a u _ e _ => by rw [upd_ne (ne_of_none e np)]; exact e, fun n a h => by rw [Pl.hide_at]; exact h, fun a h t z => by
    rcases List.mem_cons.mp z with z | z
    · exact t.ne np z
    · exact h z⟩
theorem later_unhide {M : Pl} {H : Hp} {p : Addr} : Later (M.hide p) H M H :=
  ⟨fun _ _ _ e _ => e, fun n a h => by rw [← Pl.hide_at M p n]; exact h, fun a h _ z => h (List.mem_cons_of_mem _ z)⟩
theorem later_own {M : Pl} {H : Hp} {p : Addr} : Later (M.hide p) H (M.app [p]) H :=
  ⟨fun _ _ _ e _ => e, fun n a h => by
    rw [Pl.hide_at] at h
    unfold Pl.at_ at h ⊢
    show (M.m ++ [p])[M.h + n]? = some a
    rw [List.getElem?_append_left (List.getElem?_eq_some_iff.mp h).1]
    exact h, fun a h _ z => h (by
    rcases List.mem_append.mp z with z | z
    · exact List.mem_cons_of_mem _ z
    · rw [List.mem_singleton.mp z]; exact List.mem_cons_self)⟩
section
variable {T : List (Addr × Str)} {K : Frag} {M M' : Pl} {H H' : Hp} {st : DSt} {p : Addr}
theorem RS.hide (s : RS T K M st H) (np : H p = none) {xs : List V} : RS T K (M.hide p) st (upd H p (.lst xs)) := by
  refine ⟨by show (p :: M.m).length = M.h + 1 + st.length; rw [List.length_cons, s.len]; omega, List.nodup_cons.mpr ⟨s.notin np, s.nd⟩, fun n a o e1 e2 => ?_, tabs_upd s.tabs fun b u hb _ => ne_of_none hb np, fun a ha => ?_⟩
  · rw [Pl.hide_at] at e1
    exact (s.obj n a o e1 e2).later (later_hide np) (upd_ne fun z => s.notin np (by rw [← z]; exact Pl.at_mem e1))
  · have ha' : a ∈ (p :: M.m).take (M.h + 1) := ha
    rw [List.take_succ_cons] at ha'
    rcases List.mem_cons.mp ha' with z | z
    · rw [z]; exact ⟨xs, upd_same⟩
    · exact s.hid.upd np a z
theorem RS.unhide (s : RS T K (M.hide p) st H) : RS T K M st H := by
  have len : (p :: M.m).length = M.h + 1 + st.length := s.len
  rw [List.length_cons] at len
  refine ⟨by omega, (List.nodup_cons.mp s.nd).2, fun n a o e1 e2 => ?_, s.tabs, fun a ha => s.hid a ?_⟩
  · exact (s.obj n a o (by rw [Pl.hide_at]; exact e1) e2).later later_unhide rfl
  · show a ∈ (p :: M.m).take (M.h + 1)
    rw [List.take_succ_cons]
    exact List.mem_cons_of_mem _ ha
theorem RS.own {ds : List D} {xs : List V} (s : RS T K (M.hide p) st H) (hp : H p = some (.lst xs)) (r : RVs K (M.hide p) H ds xs) : RS T K (M.app [p]) (st ++ [.lst ds]) H := by
  have u := s.unhide
  refine ⟨?_, ?_, fun n a o e1 e2 => ?_, s.tabs, fun a ha => ?_⟩
  · show (M.m ++ [p]).length = M.h + (st ++ [O.lst ds]).length
    rw [List.length_append, List.length_append, u.len, Nat.add_assoc]
    rfl
  · show (M.m ++ [p]).Nodup
    rw [List.nodup_append]
    refine ⟨u.nd, by simp, fun a ha b hb => ?_⟩
    rw [List.mem_singleton.mp hb]
    exact fun z => (List.nodup_cons.mp s.nd).1 (z ▸ ha)
  · have e1' : (M.m ++ [p])[M.h + n]? = some a := e1
    by_cases lt : n < st.length
    · rw [List.getElem?_append_left (by rw [u.len]; omega)] at e1'
      rw [List.getElem?_append_left lt] at e2
      exact (s.obj n a o (by rw [Pl.hide_at]; exact e1') e2).later later_own rfl
    · rw [List.getElem?_append_right (by rw [u.len]; omega)] at e1'
      rw [List.getElem?_append_right (by omega)] at e2
      have n0 : M.h + n - M.m.length = 0 := by
        have := (List.getElem?_eq_some_iff.mp e1').1
        simp at this
        omega
      have n1 : n - st.length = 0 := by rw [u.len] at n0; omega
      rw [n0] at e1'
      rw [n1] at e2
      cases e1'
      cases e2
      exact ⟨xs, hp, r.later later_own⟩
  · have ha' : a ∈ (M.m ++ [p]).take M.h := ha
    rw [List.take_append_of_le_length (by rw [u.len]; omega)] at ha'
    exact u.hid a ha'
end
structure DIt where
  items : List D
  src : Option (Nat × List D)
def okI (I : DIt) (st : DSt) (P : Prop) : Prop := match I.src with | none => P | some (n, xs) => st[n]? = some (.lst xs) ∧ P
def okS (I : DIt) (st : DSt) : Prop := I.src = none ∨ ∃ n xs, I.src = some (n, xs) ∧ st[n]? = some (.lst xs)
theorem okI.of {I : DIt} {st : DSt} {P : Prop} (h : okI I st P) : okS I st ∧ P := by
  unfold okI at h
  cases q : I.src with
  | none => rw [q] at h; exact ⟨.inl q, h⟩
  | some n => rw [q] at h; exact ⟨.inr ⟨n.1, n.2, q, h.1⟩, h.2⟩
structure ItOk (T : List (Addr × Str)) (K : Frag) (M : Pl) (H : Hp) (J : It) (I : DIt) : Prop where
  go : ∀ M' H' st', Later M H M' H' → RS T K M' st' H' → okS I st' → ∀ (i : Nat) (d : D), I.items[i]? = some d → J.go i H' ∧ ∀ x H'', J.yld i H' x H'' → Grow M' H' M' H'' ∧ RS T K M' st' H'' ∧ RV K M' H'' d x
  stop : ∀ M' H' st', Later M H M' H' → RS T K M' st' H' → okS I st' → J.stop I.items.length H'
abbrev DTI := DEnv → DSt → (DIt → DSt → Prop) → Prop
def liftI (T : List (Addr × Str)) (K : Frag) (f : DTI) : TI := fun σ H R => ∃ M r st R', RS T K M st H ∧ RE K M H r σ ∧ f r st R' ∧ ∀ M' H' st' J I, Grow M H M' H' → RS T K M' st' H' → R' I st' → ItOk T K M' H' J I → R J H'
theorem PI.imp {X : Cx} {tg e : Expr} {t t' : TI} (h : PI X tg e t) (i : ∀ σ H Q, t' σ H Q → t σ H Q) : PI X tg e t' := ⟨fun pins s σ H Q I z => h.run pins s σ H Q I (i σ H Q z)⟩
abbrev DI (T : List (Addr × Str)) (X : Cx) (tg e : Expr) (f : DTI) : Prop := PI X tg e (liftI T X.K f)
def iSeq (K : Frag) (tl : TE) : TI := fun σ H R => tl σ H fun x H1 => ∃ a, x = .ref a ∧ (((∃ xs, SqL K H1 a xs) ∧ R (Itl K a) H1) ∨ ((∃ xs, SqT K H1 a xs) ∧ R (Itt K a) H1))
section
variable {T : List (Addr × Str)} {X : Cx} {tg : Expr}
theorem pi_seq {l : Expr} {tl : TE} (hl : PE X l tl) : PI X tg l (iSeq X.K tl) := by
  refine ⟨fun pins s σ H R I h => ?_⟩
  refine thn (hl.run pins s σ H _ I h) fun v s1 ⟨x, H1, I1, r1, q1⟩ => ?_
  obtain ⟨a, e, q1⟩ := q1
  subst e
  cases r1
  rcases q1 with ⟨⟨xs, hq⟩, q⟩ | ⟨⟨xs, hq⟩, q⟩
  · obtain ⟨its, rv, p, hz⟩ := I1.list hq
    refine wpAny_pyIter_list p.isList ?_
    refine ⟨s1.heap.objs.size, [s1.heap.objs.size], _, _, H1, rfl, I1.kept (t' := s1.toks) fun b o e => Heap.get?_push_of_some _ e, turn_list a _, ⟨_, Heap.get?_push_size _ rfl, rfl, rfl⟩, fun b hb => ?_, q⟩
    have e : b = s1.heap.objs.size := by simpa using hb
    subst e
    exact I1.fpOk (Nat.le_refl _) (I1.hok.fresh (Nat.le_refl _))
  · obtain ⟨its, rv, p, hz⟩ := I1.tuple hq
    refine wpAny_pyIter_tuple (show s1.heap.IsTuple a its.toArray from p) ?_
    refine ⟨s1.heap.objs.size, [s1.heap.objs.size], _, _, H1, rfl, I1.kept (t' := s1.toks) fun b o e => Heap.get?_push_of_some _ e, turn_tuple a _, ⟨_, Heap.get?_push_size _ rfl, rfl, rfl⟩, fun b hb => ?_, q⟩
    have e : b = s1.heap.objs.size := by simpa using hb
    subst e
    exact I1.fpOk (Nat.le_refl _) (I1.hok.fresh (Nat.le_refl _))
end
def itOf (st : DSt) : D → Option DIt
  | .tup ds => some ⟨ds, none⟩
  | .tuk ds => some ⟨ds, none⟩
  | .lst ds => some ⟨ds, none⟩
  | .scr ds => some ⟨ds, none⟩
  | .ref n => match st[n]? with | some (.lst ds) => some ⟨ds, some (n, ds)⟩ | _ => none
  | _ => none
def wSeq (f : DTE) : DTI := fun r st R => f r st fun d st1 => onO (itOf st1 d) fun I => R I st1
inductive SrcAt (K : Frag) (M : Pl) (H : Hp) (I : DIt) (a : Addr) : Prop
  | lst {xs : List V} : (∀ M' H', Later M H M' H' → SqL K H' a xs) → RVs K M H I.items xs → I.src = none → SrcAt K M H I a
  | tup {xs : List V} : (∀ M' H', Later M H M' H' → SqT K H' a xs) → RVs K M H I.items xs → I.src = none → SrcAt K M H I a
  | ref {n : Nat} : M.at_ n = some a → I.src = some (n, I.items) → SrcAt K M H I a
section
variable {T : List (Addr × Str)} {K : Frag} {M : Pl} {H : Hp} {st : DSt}
theorem itOf.src {d : D} {v : V} {I : DIt} (s : RS T K M st H) (r : RV K M H d v) (e : itOf st d = some I) : ∃ a, v = .ref a ∧ SrcAt K M H I a ∧ okS I st := by
  cases r with
  | tup n h q rs => cases e; exact ⟨_, rfl, .tup (fun M' H' l => .inl (.inr ⟨_, l.keep _ _ n h (fun ps z => by cases z)⟩)) rs rfl, .inl rfl⟩
  | tuk n h rs => cases e; exact ⟨_, rfl, .tup (fun M' H' l => .inl (.inl (l.keep _ _ n h (fun ps z => by cases z)))) rs rfl, .inl rfl⟩
  | lst n h rs => cases e; exact ⟨_, rfl, .lst (fun M' H' l => .inl (Rd.later l n (.inl h))) rs rfl, .inl rfl⟩
  | scr n h rs => cases e; exact ⟨_, rfl, .lst (fun M' H' l => .inl (Rd.later l n h)) rs rfl, .inl rfl⟩
  | lsk h rs => cases e; exact ⟨_, rfl, .lst (fun M' H' l => h H') rs rfl, .inl rfl⟩
  | ref h =>
    obtain ⟨o, e1, ro⟩ := s.atM h
    unfold itOf at e
    simp only [e1] at e
    cases o with
    | lst xs => cases e; exact ⟨_, rfl, .ref h rfl, .inr ⟨_, _, rfl, e1⟩⟩
    | dK _ => cases e
    | dT _ => cases e
  | _ => cases e
theorem SrcAt.rd {I : DIt} {a : Addr} (h : SrcAt K M H I a) {M' : Pl} {H' : Hp} {st' : DSt} (l : Later M H M' H') (s : RS T K M' st' H') (ok : okS I st') :
    ∃ xs, RVs K M' H' I.items xs ∧ (SqL K H' a xs ∨ SqT K H' a xs) := by
  cases h with
  | lst h r e => exact ⟨_, r.later l, .inl (h M' H' l)⟩
  | tup h r e => exact ⟨_, r.later l, .inr (h M' H' l)⟩
  | ref h e =>
    rcases ok with z | ⟨n', ys, z, q⟩
    · rw [e] at z; cases z
    · rw [e] at z
      cases z
      obtain ⟨xs, e1, e2⟩ := s.obj _ a _ (l.get _ _ h) q
      exact ⟨xs, e2, .inl (.inl (.inl e1))⟩
end
end DL
namespace DL
open PySem PySem.Spec PyProof.Rows L2 LamX PySem.W SL
section
variable {T : List (Addr × Str)} {K : Frag} {M : Pl} {H : Hp} {st : DSt} {I : DIt} {a : Addr}
def IsL (T : List (Addr × Str)) (K : Frag) (M : Pl) (H : Hp) (I : DIt) (a : Addr) : Prop := ∀ M' H' st', Later M H M' H' → RS T K M' st' H' → okS I st' → ∃ xs, RVs K M' H' I.items xs ∧ SqL K H' a xs
def IsT (T : List (Addr × Str)) (K : Frag) (M : Pl) (H : Hp) (I : DIt) (a : Addr) : Prop := ∀ M' H' st', Later M H M' H' → RS T K M' st' H' → okS I st' → ∃ xs, RVs K M' H' I.items xs ∧ SqT K H' a xs
theorem SrcAt.lt (h : SrcAt K M H I a) : IsL T K M H I a ∨ IsT T K M H I a := by
  cases h with
  | lst h r e => exact .inl fun M' H' st' l s ok => ⟨_, r.later l, h M' H' l⟩
  | tup h r e => exact .inr fun M' H' st' l s ok => ⟨_, r.later l, h M' H' l⟩
  | ref h e =>
    refine .inl fun M' H' st' l s ok => ?_
    rcases ok with z | ⟨n', ys, z, q⟩
    · rw [e] at z; cases z
    · rw [e] at z
      cases z
      obtain ⟨xs, e1, e2⟩ := s.obj _ a _ (l.get _ _ h) q
      exact ⟨xs, e2, .inl (.inl e1)⟩
theorem IsL.it (h : IsL T K M H I a) : ItOk T K M H (Itl K a) I := by
  refine ⟨fun M' H' st' l s ok i d e => ?_, fun M' H' st' l s ok => ?_⟩
  · obtain ⟨xs, r, q⟩ := h M' H' st' l s ok
    obtain ⟨v, e1, rv⟩ := r.get e
    refine ⟨⟨xs, v, q, e1⟩, fun x H'' y => ?_⟩
    obtain ⟨rfl, y⟩ := y
    have z := y xs q
    rw [e1] at z
    cases z
    exact ⟨Grow.refl _ _, s, rv⟩
  · obtain ⟨xs, r, q⟩ := h M' H' st' l s ok
    exact ⟨xs, q, by rw [r.length]; exact Nat.le_refl _⟩
theorem IsT.it (h : IsT T K M H I a) : ItOk T K M H (Itt K a) I := by
  refine ⟨fun M' H' st' l s ok i d e => ?_, fun M' H' st' l s ok => ?_⟩
  · obtain ⟨xs, r, q⟩ := h M' H' st' l s ok
    obtain ⟨v, e1, rv⟩ := r.get e
    refine ⟨⟨xs, v, q, e1⟩, fun x H'' y => ?_⟩
    obtain ⟨rfl, y⟩ := y
    have z := y xs q
    rw [e1] at z
    cases z
    exact ⟨Grow.refl _ _, s, rv⟩
  · obtain ⟨xs, r, q⟩ := h M' H' st' l s ok
    exact ⟨xs, q, by rw [r.length]; exact Nat.le_refl _⟩
end
theorem Later.refl (M : Pl) (H : Hp) : Later M H M H := (Grow.refl M H).later
section
variable {T : List (Addr × Str)} {X : Cx} {tg e : Expr} {f fa fb : DTE} {pos p : Pos}
theorem di_seq (he : DE T X e f) : DI T X tg e (wSeq f) := PI.imp (pi_seq he) fun σ H R ⟨M, r, st, R', s, re, h, k⟩ => ⟨M, r, st, _, s, re, h, fun M1 H1 st1 d v g1 s1 r1 q => by
  obtain ⟨I, e, q⟩ := onO.of q
  obtain ⟨a, rfl, src, ok⟩ := itOf.src s1 r1 e
  rcases src.lt (T := T) with l | l
  · obtain ⟨xs, _, sq⟩ := l M1 H1 st1 (Later.refl _ _) s1 ok
    exact ⟨a, rfl, .inl ⟨⟨xs, sq⟩, k M1 H1 st1 _ I g1 s1 q l.it⟩⟩
  · obtain ⟨xs, _, sq⟩ := l M1 H1 st1 (Later.refl _ _) s1 ok
    exact ⟨a, rfl, .inr ⟨⟨xs, sq⟩, k M1 H1 st1 _ I g1 s1 q l.it⟩⟩⟩
def rgD (lo : Int) (n : Nat) : List D := (List.range n).map fun i => D.int (lo + (i : Nat))
theorem rgD_get {lo : Int} {n i : Nat} {d : D} (h : (rgD lo n)[i]? = some d) : i < n ∧ d = .int (lo + (i : Nat)) := by
  unfold rgD at h
  rw [List.getElem?_map] at h
  cases q : (List.range n)[i]? with
  | none => rw [q] at h; cases h
  | some j =>
    rw [q] at h
    obtain ⟨l, e⟩ := List.getElem?_eq_some_iff.mp q
    rw [List.getElem_range] at e
    rw [List.length_range] at l
    subst e
    cases h
    exact ⟨l, rfl⟩
theorem rgD_length (lo : Int) (n : Nat) : (rgD lo n).length = n := by unfold rgD; rw [List.length_map, List.length_range]
theorem itok_range {K : Frag} {M : Pl} {H : Hp} {lo : Int} {n : Nat} : ItOk T K M H (Itr lo n) ⟨rgD lo n, none⟩ := by
  refine ⟨fun M' H' st' l s ok i d e => ?_, fun M' H' st' l s ok => ?_⟩
  · obtain ⟨lt, rfl⟩ := rgD_get e
    refine ⟨lt, fun x H'' y => ?_⟩
    obtain ⟨rfl, rfl⟩ := y
    exact ⟨Grow.refl _ _, s, .int _⟩
  · show n ≤ (rgD lo n).length
    rw [rgD_length]
    exact Nat.le_refl _
def wRng1 (fs : DTA) : DTI := fun r st R => fs r st fun ds st1 => on1 ds fun x => onI x fun j => (-(2 ^ 62) ≤ j ∧ j < 2 ^ 62) ∧ R ⟨rgD 0 j.toNat, none⟩ st1
def wRng2 (fs : DTA) : DTI := fun r st R => fs r st fun ds st1 => on2 ds fun x y => onI x fun i => onI y fun j => (-(2 ^ 62) ≤ i ∧ i < 2 ^ 62 ∧ -(2 ^ 62) ≤ j ∧ j < 2 ^ 62) ∧ R ⟨rgD i (j - i).toNat, none⟩ st1
theorem di_range1 {a : Expr} {fs : DTA} (hg : Gl X "range") (hm : X.mg "range" = none) (ha : DA T X [a] fs) (hs : starEach [a] X.env = [(false, eval a X.env)] := by rfl) : DI T X tg (.Call (.Name "range" p) [a] [] pos) (wRng1 fs) :=
  PI.imp (pi_range1 hg hm ha hs) fun σ H R ⟨M, r, st, R', s, re, h, k⟩ => ⟨M, r, st, _, s, re, h, fun M1 H1 st1 ds vs g1 s1 r1 q => by
    obtain ⟨x, rfl, q⟩ := on1.of q
    obtain ⟨j, rfl, b, q⟩ := onI.of q
    obtain ⟨v, rfl, rv⟩ := r1.one
    cases rv
    exact ⟨j, rfl, b.1, b.2, k M1 H1 st1 _ _ g1 s1 q itok_range⟩⟩
end
mutual
def clo (n : Nat) : D → Bool
  | .tup ds => clos n ds
  | .tuk ds => clos n ds
  | .lst ds => clos n ds
  | .scr ds => clos n ds
  | .ref k => decide (k < n)
  | _ => true
def clos (n : Nat) : List D → Bool
  | [] => true
  | d :: ds => clo n d && clos n ds
end
def cloO (n : Nat) : O → Bool
  | .lst ds => clos n ds
  | .dK kvs => clos n (kvs.map (·.2))
  | .dT kvs => clos n (kvs.map (·.2))
def cloR (n : Nat) (r : DEnv) : Prop := ∀ (i : Nat) (d : D), r[i]? = some (some d) → clo n d = true
def cloS (st0 : DSt) (n : Nat) (st : DSt) : Prop := ∀ (i : Nat) (o : O), i < n → st[i]? = some o → st0[i]? = some o ∨ cloO n o = true
def Less (r r' : DEnv) : Prop := r.length = r'.length ∧ ∀ (i : Nat) (d : D), r[i]? = some (some d) → r'[i]? = some (some d)
theorem Less.refl (r : DEnv) : Less r r := ⟨rfl, fun _ _ h => h⟩
def Pl.cut (M : Pl) (n : Nat) : Pl := ⟨M.h, M.m.take (M.h + n)⟩
section
variable {T : List (Addr × Str)} {K : Frag} {M : Pl} {H : Hp} {st : DSt}
theorem cut_at {n k : Nat} {a : Addr} (h : M.at_ k = some a) (lt : k < n) : (M.cut n).at_ k = some a := by
  unfold Pl.at_ Pl.cut
  show (M.m.take (M.h + n))[M.h + k]? = some a
  rw [List.getElem?_take, if_pos (by omega)]
  exact h
theorem cut_notin {n : Nat} {a : Addr} (h : a ∉ M.m) : a ∉ (M.cut n).m := fun z => h (List.mem_of_mem_take z)
mutual
theorem RV.cut {n : Nat} : ∀ {d : D} {v : V}, RV K M H d v → clo n d = true → RV K (M.cut n) H d v
  | _, _, .non, _ => .non
  | _, _, .bl b, _ => .bl b
  | _, _, .int i, _ => .int i
  | _, _, .str x, _ => .str x
  | _, _, .tup nn h e r, c => .tup (cut_notin nn) h e (r.cut (by simpa [clo] using c))
  | _, _, .tuk nn h r, c => .tuk (cut_notin nn) h (r.cut (by simpa [clo] using c))
  | _, _, .lst nn h r, c => .lst (cut_notin nn) h (r.cut (by simpa [clo] using c))
  | _, _, .scr nn h r, c => .scr (cut_notin nn) h (r.cut (by simpa [clo] using c))
  | _, _, .lsk h r, c => .lsk h (r.cut (by simpa [clo] using c))
  | _, _, .ref h, c => .ref (cut_at h (by simpa [clo] using c))
theorem RVs.cut {n : Nat} : ∀ {d : List D} {v : List V}, RVs K M H d v → clos n d = true → RVs K (M.cut n) H d v
  | _, _, .nil, _ => .nil
  | _, _, .cons h t, c => by
    simp only [clos, Bool.and_eq_true] at c
    exact .cons (h.cut c.1) (t.cut c.2)
end
theorem RO.cut {n : Nat} {o : O} {a : Addr} (h : RO K M H o a) (c : cloO n o = true) : RO K (M.cut n) H o a := by
  cases o with
  | lst ds => obtain ⟨xs, h1, h2⟩ := h; exact ⟨xs, h1, h2.cut c⟩
  | dK kvs => obtain ⟨ys, h1, h2, h3⟩ := h; exact ⟨ys, h1, h2, h3.cut c⟩
  | dT kvs => obtain ⟨ys, h1, h2, h3⟩ := h; exact ⟨ys, h1, h2, h3.cut c⟩
mutual
theorem clo_mono {n m : Nat} (l : n ≤ m) : ∀ {d : D}, clo n d = true → clo m d = true
  | .non, _ => by simp [clo]
  | .bl _, _ => by simp [clo]
  | .int _, _ => by simp [clo]
  | .str _, _ => by simp [clo]
  | .tup ds, h => by simp only [clo] at h ⊢; exact clos_mono l h
  | .tuk ds, h => by simp only [clo] at h ⊢; exact clos_mono l h
  | .lst ds, h => by simp only [clo] at h ⊢; exact clos_mono l h
  | .scr ds, h => by simp only [clo] at h ⊢; exact clos_mono l h
  | .ref k, h => by
    simp only [clo, decide_eq_true_eq] at h ⊢
    omega
theorem clos_mono {n m : Nat} (l : n ≤ m) : ∀ {d : List D}, clos n d = true → clos m d = true
  | [], _ => by simp [clos]
  | d :: ds, h => by
    simp only [clos, Bool.and_eq_true] at h ⊢
    exact ⟨clo_mono l h.1, clos_mono l h.2⟩
end
theorem cloO_mono {n m : Nat} (l : n ≤ m) {o : O} (h : cloO n o = true) : cloO m o = true := by
  cases o <;> exact clos_mono l h
mutual
theorem RV.clo {n : Nat} (len : M.m.length = M.h + n) : ∀ {d : D} {v : V}, RV K M H d v → DL.clo n d = true
  | _, _, .non => by simp [DL.clo]
  | _, _, .bl b => by simp [DL.clo]
  | _, _, .int i => by simp [DL.clo]
  | _, _, .str x => by simp [DL.clo]
  | _, _, .tup nn h e r => by simp only [DL.clo]; exact RVs.clo len r
  | _, _, .tuk nn h r => by simp only [DL.clo]; exact RVs.clo len r
  | _, _, .lst nn h r => by simp only [DL.clo]; exact RVs.clo len r
  | _, _, .scr nn h r => by simp only [DL.clo]; exact RVs.clo len r
  | _, _, .lsk h r => by simp only [DL.clo]; exact RVs.clo len r
  | _, _, .ref h => by
    have := (List.getElem?_eq_some_iff.mp h).1
    simp only [DL.clo, decide_eq_true_eq]
    omega
theorem RVs.clo {n : Nat} (len : M.m.length = M.h + n) : ∀ {d : List D} {v : List V}, RVs K M H d v → DL.clos n d = true
  | _, _, .nil => by simp [DL.clos]
  | _, _, .cons h t => by
    simp only [DL.clos, Bool.and_eq_true]
    exact ⟨RV.clo len h, RVs.clo len t⟩
end
theorem RS.clo (s : RS T K M st H) {i : Nat} {o : O} (e : st[i]? = some o) : cloO st.length o = true := by
  obtain ⟨a, _, ro⟩ := s.addr e
  cases o with
  | lst ds => obtain ⟨xs, h1, h2⟩ := ro; exact h2.clo s.len
  | dK kvs => obtain ⟨ys, h1, h2, h3⟩ := ro; exact h3.clo s.len
  | dT kvs => obtain ⟨ys, h1, h2, h3⟩ := ro; exact h3.clo s.len
theorem cloS.all {M0 : Pl} {H0 : Hp} {st0 : DSt} {n : Nat} (h : cloS st0 n st) (s0 : RS T K M0 st0 H0) (l : st0.length ≤ n) : ∀ (i : Nat) (o : O), i < n → st[i]? = some o → cloO n o = true := fun i o lt e => by
  rcases h i o lt e with q | q
  · exact cloO_mono l (s0.clo q)
  · exact q
theorem RS.cut {n : Nat} (s : RS T K M st H) (l : n ≤ st.length) (c : ∀ (i : Nat) (o : O), i < n → st[i]? = some o → cloO n o = true) : RS T K (M.cut n) (st.take n) H := by
  refine ⟨?_, List.Nodup.sublist (List.take_sublist _ _) s.nd, fun k a o e1 e2 => ?_, s.tabs, fun a ha => s.hid a ?_⟩
  · show (M.m.take (M.h + n)).length = M.h + (st.take n).length
    rw [List.length_take, List.length_take, s.len]
    omega
  · have lt : k < n := by
      have := (List.getElem?_eq_some_iff.mp e2).1
      rw [List.length_take] at this
      omega
    rw [List.getElem?_take, if_pos lt] at e2
    have e1' : (M.m.take (M.h + n))[M.h + k]? = some a := e1
    rw [List.getElem?_take, if_pos (by omega)] at e1'
    exact (s.obj k a o e1' e2).cut (c k o lt e2)
  · have ha' : a ∈ (M.m.take (M.h + n)).take M.h := ha
    rw [List.take_take, Nat.min_eq_left (by omega)] at ha'
    exact ha'
theorem RE.cut {n : Nat} {r r' : DEnv} {σ : L2.St} (re : RE K M H r σ) (l : Less r' r) (c : cloR n r') : RE K (M.cut n) H r' σ :=
  ⟨l.1.trans re.len, fun i d e => by
    obtain ⟨v, e1, e2⟩ := re.at_ i d (l.2 i d e)
    exact ⟨v, e1, e2.cut (c i d e)⟩⟩
theorem Grow.cut {M0 : Pl} {H0 : Hp} {st0 : DSt} {n : Nat} (g : Grow M0 H0 M H) (s0 : RS T K M0 st0 H0) (l : st0.length ≤ n) : Grow M0 H0 (M.cut n) H := by
  refine ⟨?_, g.keep, g.there, g.hid⟩
  obtain ⟨m, rfl, f⟩ := g.more
  refine ⟨m.take (n - st0.length), ?_, fun a ha => f a (List.mem_of_mem_take ha)⟩
  unfold Pl.cut Pl.app
  show Pl.mk M0.h ((M0.m ++ m).take (M0.h + n)) = _
  rw [List.take_append, List.take_of_length_le (by rw [s0.len]; omega), s0.len, show M0.h + n - (M0.h + st0.length) = n - st0.length by omega]
end
def Wk (b : DSt) (P : DEnv → DSt → Prop) : DEnv → DSt → Prop := fun r st => P r st ∨ ∃ r' n, b.length ≤ n ∧ n ≤ st.length ∧ Less r' r ∧ cloR n r' ∧ cloS b n st ∧ P r' (st.take n)
theorem Wk.sound {T : List (Addr × Str)} {K : Frag} {M M0 : Pl} {H H0 : Hp} {st st0 : DSt} {r : DEnv} {σ : L2.St} {P : DEnv → DSt → Prop} (h : Wk st0 P r st) (s0 : RS T K M0 st0 H0) (g : Grow M0 H0 M H) (s : RS T K M st H) (re : RE K M H r σ) :
    ∃ M' r' st', Grow M0 H0 M' H ∧ RS T K M' st' H ∧ RE K M' H r' σ ∧ P r' st' := by
  rcases h with h | ⟨r', n, h1, h2, h3, h4, h5, h6⟩
  · exact ⟨M, r, st, g, s, re, h⟩
  · exact ⟨M.cut n, r', st.take n, g.cut s0 h1, s.cut h2 (h5.all s0 h1), re.cut h3 h4, h6⟩
def forL (I : DIt) (g : DTG) (F : DTS) (E : DEnds) (b : DSt) : List D → DEnv → DSt → Prop
  | [], r, st => okI I st (E.nx r st)
  | d :: ds, r, st => okI I st (g d r st fun r1 st1 => F { nx := Wk b (forL I g F E b ds), rt := E.rt, bk := E.nx, ct := Wk b (forL I g F E b ds) } r1 st1)
def sFor (f : DTI) (g : DTG) (F : DTS) : DTS := fun E r st => f r st fun I st1 => forL I g F E st1 I.items r st1
section
variable {T : List (Addr × Str)} {X : Cx} {tg iter : Expr} {f : DTI} {g : DTG} {F : DTS} {pos : Pos} {vs : List Nat}
theorem ds_for {body : List Stmt} (hp : PassesOwn (model X.prog X.w) X.A X.env X.xe) (hc : X.calm = true) (hi : DI T X tg iter f) (hg : DG T X vs tg g) (hb : DSs T X body F) (hs : ∀ x, foldedSetIterable iter X.env x = pure x := by intro _; rfl) :
    DSt1 T X (.For tg iter body [] pos) (sFor f g F) :=
  PS.imp (ps_for hp hc hi hg hb hs) fun E σ H ⟨M, r, st, E', s, re, h, k⟩ => ⟨M, r, st, _, s, re, h, fun M1 H1 st1 J I g1 s1 q it => by
    refine ⟨fun i m σ' H' => ∃ M' r' st', Grow M1 H1 M' H' ∧ RS T X.K M' st' H' ∧ RE X.K M' H' r' σ' ∧ i ≤ I.items.length ∧ m = I.items.length - i ∧ forL I g F E' st1 (I.items.drop i) r' st', ⟨I.items.length, M1, r, st1, Grow.refl _ _, s1, re.grow g1, Nat.zero_le _, rfl, q⟩, fun i m σ' H' w => ?_⟩
    obtain ⟨M', r', st', gr, s', re', le, rfl, fl⟩ := w
    cases e : I.items.drop i with
    | nil =>
      rw [e] at fl
      obtain ⟨ok, q⟩ := okI.of fl
      have ei : i = I.items.length := by
        have := List.drop_eq_nil_iff.mp e
        omega
      refine .inl ⟨?_, k.nx M' H' σ' r' st' (g1.trans gr) s' re' q⟩
      rw [ei]
      exact it.stop M' H' st' gr.later s' ok
    | cons d ds =>
      rw [e] at fl
      obtain ⟨ok, q⟩ := okI.of fl
      have at_ : I.items[i]? = some d := by
        have z : (I.items.drop i)[0]? = some d := by rw [e]; rfl
        rw [List.getElem?_drop, Nat.add_zero] at z
        exact z
      have lt : i < I.items.length := (List.getElem?_eq_some_iff.mp at_).1
      have ds_ : I.items.drop (i + 1) = ds := by
        have z : (I.items.drop i).drop 1 = ds := by rw [e]; rfl
        rw [List.drop_drop] at z
        exact z
      obtain ⟨go, yl⟩ := it.go M' H' st' gr.later s' ok i d at_
      refine .inr ⟨go, fun σ2 H2 => ∃ M2 r2 st2, Grow M1 H1 M2 H2 ∧ RS T X.K M2 st2 H2 ∧ RE X.K M2 H2 r2 σ2 ∧ forL I g F E' st1 ds r2 st2, fun σ2 H2 ⟨M2, r2, st2, g2, s2, re2, q2⟩ => ⟨I.items.length - (i + 1), by omega, M2, r2, st2, g2, s2, re2, lt, rfl, by rw [ds_]; exact q2⟩, fun x H2 y => ?_⟩
      obtain ⟨g2, s2, r2⟩ := yl x H2 y
      refine ⟨M', r', st', d, _, s2, re'.grow g2, r2, q, fun M3 H3 σ3 r3 st3 g3 s3 re3 _ q3 => ?_⟩
      refine ⟨M3, r3, st3, _, s3, re3, q3, ?_⟩
      have g13 : Grow M1 H1 M3 H3 := (gr.trans g2).trans g3
      refine ⟨fun M4 H4 σ4 r4 st4 g4 s4 re4 q4 => ?_, (k.rt.grow g1).grow g13, (k.nx.grow g1).grow g13, fun M4 H4 σ4 r4 st4 g4 s4 re4 q4 => ?_⟩
      · exact (Wk.sound q4 s1 (g13.trans g4) s4 re4)
      · exact (Wk.sound q4 s1 (g13.trans g4) s4 re4)⟩
end
end DL
namespace DL
open PySem PySem.Spec PyProof.Rows L2 LamX PySem.W SL
def wipeD (r : DEnv) : List Nat → DEnv
  | [] => r
  | v :: vs => (wipeD r vs).set v none
theorem RE.forget {K : Frag} {M : Pl} {H : Hp} {r : DEnv} {σ : L2.St} (h : RE K M H r σ) (i : Nat) (x : Option V) : RE K M H (r.set i none) (σ.set i x) := by
  refine ⟨by rw [List.length_set, List.length_set]; exact h.len, fun j c e => ?_⟩
  by_cases q : j = i
  · subst q
    have lt : j < r.length := by
      have := (List.getElem?_eq_some_iff.mp e).1
      rw [List.length_set] at this
      exact this
    rw [List.getElem?_set_self lt] at e
    cases e
  · rw [List.getElem?_set_ne (fun z => q z.symm)] at e ⊢
    exact h.at_ j c e
theorem RE.wipe {K : Frag} {M : Pl} {H : Hp} {r : DEnv} {σ : L2.St} (h : RE K M H r σ) : ∀ vs : List Nat, RE K M H (wipeD r vs) (L2.wipe σ vs)
  | [] => h
  | v :: vs => (RE.wipe h vs).forget v none
theorem RE.later {K : Frag} {M M' : Pl} {H H' : Hp} {r : DEnv} {σ : L2.St} (h : RE K M H r σ) (g : Later M H M' H') : RE K M' H' r σ :=
  ⟨h.len, fun i d e => by obtain ⟨v, e1, e2⟩ := h.at_ i d e; exact ⟨v, e1, e2.later g⟩⟩
def dtYes : DTT := fun _ st Q => Q true st
def compL (I : DIt) (g : DTG) (tt : DTT) (te : DTE) (r : DEnv) (Q : List D → DSt → Prop) : List D → List D → DSt → Prop
  | [], acc, st => okI I st (Q acc st)
  | d :: ds, acc, st => okI I st (g d r st fun r2 st2 => tt r2 st2 fun b st3 => if b = true then te r2 st3 fun y st4 => compL I g tt te r Q ds (acc ++ [y]) st4 else compL I g tt te r Q ds acc st3)
def dLcG (f : DTI) (g : DTG) (tt : DTT) (te : DTE) (vs : List Nat) (fin : (D → DSt → Prop) → List D → DSt → Prop) : DTE := fun r st Q => f r st fun I st1 => I.items.length ≤ sizeLine ∧ compL I g tt te (wipeD r vs) (fin Q) I.items [] st1
def finT (Q : D → DSt → Prop) (acc : List D) (st : DSt) : Prop := Q (.lst acc) st
def finN (Q : D → DSt → Prop) (acc : List D) (st : DSt) : Prop := Q (.ref st.length) (st ++ [.lst acc])
def FinOk (T : List (Addr × Str)) (K : Frag) (fin : (D → DSt → Prop) → List D → DSt → Prop) : Prop := ∀ (M M' : Pl) (H H' : Hp) (st' : DSt) (p : Addr) (acc : List D) (xs : List V) (Q' : DK) (Q : VK), H p = none → Grow M H M' H' → RS T K (M'.hide p) st' H' →
  H' p = some (.lst xs) → RVs K (M'.hide p) H' acc xs → Kn T K M H Q' Q → fin Q' acc st' → Q (.ref p) H'
theorem finT_ok {T : List (Addr × Str)} {K : Frag} : FinOk T K finT := by
  intro M M' H H' st' p acc xs Q' Q np g s' hp r k q
  exact k M' H' st' (.lst acc) (.ref p) g s'.unhide (.lst (List.nodup_cons.mp s'.nd).1 hp (r.later later_unhide)) q
theorem Grow.step {T : List (Addr × Str)} {K : Frag} {M M1 M2 : Pl} {H H1 H2 : Hp} {st : DSt} {p : Addr} {o : HO} (g : Grow M H M1 H1) (s : RS T K M st H) (np : H p = none) (g2 : Grow (M1.hide p) H1 (M2.hide p) H2) : Grow M H M2 (upd H2 p o) := by
  refine ⟨?_, fun a u n e t => ?_, fun a t => ?_, fun a ha => ?_⟩
  · obtain ⟨m1, rfl, f1⟩ := g.more
    obtain ⟨m2, e, f2⟩ := g2.more
    rw [Pl.hide_app] at e
    have e := Pl.hide_inj e
    subst e
    refine ⟨m1 ++ m2, by unfold Pl.app; simp, fun a ha => ?_⟩
    rcases List.mem_append.mp ha with z | z
    · exact f1 a z
    · exact fun q => f2 a z (g.there a q)
  · have ne : a ≠ p := ne_of_none e np
    rw [upd_ne ne]
    refine g2.keep a u (fun z => ?_) (g.keep a u n e t) t
    rcases List.mem_cons.mp z with z | z
    · exact ne z
    · exact g.notin n ⟨u, e, t⟩ z
  · exact (g2.there a (g.there a t)).upd (t.ne np)
  · obtain ⟨xs, e⟩ := s.hid a ha
    have ne : a ≠ p := ne_of_none e np
    rw [upd_ne ne]
    refine (g2.hid a ?_).trans (g.hid a ha)
    show a ∈ (p :: M1.m).take (M1.h + 1)
    rw [List.take_succ_cons]
    obtain ⟨m1, rfl, f1⟩ := g.more
    exact List.mem_cons_of_mem _ (take_app ha)
theorem upd_self {H : Hp} {p : Addr} {o : HO} (h : H p = some o) : upd H p o = H := by
  funext a
  by_cases z : a = p
  · rw [z, upd_same, h]
  · rw [upd_ne z]
theorem Grow.lateHide {M M' : Pl} {H H' : Hp} {p : Addr} (g : Grow M H M' H') (np : H p = none) : Later M H (M'.hide p) H' := by
  refine ⟨g.keep, fun n a h => by rw [Pl.hide_at]; exact g.get h, fun a n t z => ?_⟩
  rcases List.mem_cons.mp z with z | z
  · exact t.ne np z
  · exact g.notin n t z
theorem hidden_at {M : Pl} {p : Addr} : p ∈ (M.hide p).m.take (M.hide p).h := by
  show p ∈ (p :: M.m).take (M.h + 1)
  rw [List.take_succ_cons]
  exact List.mem_cons_self
theorem grow_hide {M M2 : Pl} {H H2 : Hp} {p : Addr} (g : Grow (M.hide p) H M2 H2) : ∃ N : Pl, M2 = N.hide p := by
  obtain ⟨m, rfl, _⟩ := g.more
  exact ⟨M.app m, Pl.hide_app M p m⟩
theorem RS.push {T : List (Addr × Str)} {K : Frag} {M : Pl} {H : Hp} {st : DSt} {p : Addr} {xs ys : List V} (s : RS T K (M.hide p) st H) (hp : H p = some (.lst xs)) : RS T K (M.hide p) st (upd H p (.lst ys)) ∧ Later (M.hide p) H (M.hide p) (upd H p (.lst ys)) := by
  have l : Later (M.hide p) H (M.hide p) (upd H p (.lst ys)) := ⟨fun a o n e _ => by
    rw [upd_ne fun z => n (by rw [z]; exact List.mem_cons_self)]
    exact e, fun _ _ h => h, fun _ h _ => h⟩
  refine ⟨⟨s.len, s.nd, fun n a o e1 e2 => ?_, tabs_upd s.tabs fun b u hb z => ?_, fun a ha => ?_⟩, l⟩
  · refine (s.obj n a o e1 e2).later l (upd_ne fun z => ?_)
    rw [Pl.hide_at] at e1
    exact (List.nodup_cons.mp s.nd).1 (by rw [← z]; exact Pl.at_mem e1)
  · exact (s.tabNe List.mem_cons_self hb z).symm
  · by_cases z : a = p
    · rw [z]; exact ⟨ys, upd_same⟩
    · rw [upd_ne z]; exact s.hid a ha
theorem wipe_wipe (σ : L2.St) (vs : List Nat) : L2.wipe (L2.wipe σ vs) vs = L2.wipe σ vs := by
  have no : ∀ (ws : List Nat) (τ : L2.St) (i : Nat), (L2.wipe τ ws).set i none = L2.wipe (τ.set i none) ws := by
    intro ws
    induction ws with
    | nil => intro τ i; rfl
    | cons w ws ih =>
      intro τ i
      show ((L2.wipe τ ws).set w none).set i none = (L2.wipe (τ.set i none) ws).set w none
      rw [← ih τ i]
      by_cases e : w = i
      · rw [e]
      · rw [List.set_comm _ _ e]
  induction vs generalizing σ with
  | nil => rfl
  | cons v vs ih =>
    show (L2.wipe ((L2.wipe σ vs).set v none) vs).set v none = (L2.wipe σ vs).set v none
    rw [← no vs (L2.wipe σ vs) v, ih, List.set_set]
theorem lift_lc {T : List (Addr × Str)} {K : Frag} {f : DTI} {g : DTG} {tt : DTT} {te : DTE} {vs : List Nat} {fin : (D → DSt → Prop) → List D → DSt → Prop} (fo : FinOk T K fin) {σ : L2.St} {H : Hp} {Q : VK} (h : lift T K (dLcG f g tt te vs fin) σ H Q) :
    tLc (liftI T K f) (liftG T K vs g) (liftT T K tt) (lift T K te) vs σ H Q := by
  obtain ⟨M, r, st, Q', s, re, h, k⟩ := h
  refine ⟨M, r, st, _, s, re, h, fun M1 H1 st1 J I g1 s1 q it p np => ?_⟩
  obtain ⟨few, q⟩ := q
  refine ⟨fun i m H' => ∃ (M' : Pl) (acc : List D) (xs : List V) (st' : DSt), Grow M1 H1 M' H' ∧ RS T K (M'.hide p) st' H' ∧ H' p = some (.lst xs) ∧ RVs K (M'.hide p) H' acc xs ∧ acc.length ≤ i ∧ i ≤ I.items.length ∧ m = I.items.length - i ∧
      compL I g tt te (wipeD r vs) (fin Q') (I.items.drop i) acc st', ⟨I.items.length, M1, [], [], st1, Grow.new s1.hid np, s1.hide np, upd_same, .nil, Nat.le_refl _, Nat.zero_le _, rfl, q⟩, fun i m H' w => ?_⟩
  obtain ⟨M', acc, xs, st', gr, s', hp, rs, la, le, rfl, cl⟩ := w
  have lat := gr.lateHide np
  have reN : RE K (M'.hide p) H' (wipeD r vs) (L2.wipe σ vs) := ((re.grow g1).wipe vs).later lat
  cases e : I.items.drop i with
  | nil =>
    rw [e] at cl
    obtain ⟨ok, q⟩ := okI.of cl
    have ei : i = I.items.length := by
      have := List.drop_eq_nil_iff.mp e
      omega
    exact .inl ⟨by rw [ei]; exact it.stop _ H' st' lat s' ok, fo M1 M' H1 H' st' p acc xs Q' Q np gr s' hp rs (k.grow g1) q⟩
  | cons d ds =>
    rw [e] at cl
    obtain ⟨ok, q⟩ := okI.of cl
    have at_ : I.items[i]? = some d := by
      have z : (I.items.drop i)[0]? = some d := by rw [e]; rfl
      rw [List.getElem?_drop, Nat.add_zero] at z
      exact z
    have lt : i < I.items.length := (List.getElem?_eq_some_iff.mp at_).1
    have ds_ : I.items.drop (i + 1) = ds := by
      have z : (I.items.drop i).drop 1 = ds := by rw [e]; rfl
      rw [List.drop_drop] at z
      exact z
    obtain ⟨go, yl⟩ := it.go _ H' st' lat s' ok i d at_
    refine .inr ⟨go, fun H2 => ∃ (M2 : Pl) (acc2 : List D) (xs2 : List V) (st2 : DSt), Grow M1 H1 M2 H2 ∧ RS T K (M2.hide p) st2 H2 ∧ H2 p = some (.lst xs2) ∧ RVs K (M2.hide p) H2 acc2 xs2 ∧ acc2.length ≤ i + 1 ∧ compL I g tt te (wipeD r vs) (fin Q') ds acc2 st2,
      fun H2 ⟨M2, acc2, xs2, st2, a1, a2, a3, a4, a5, a6⟩ => ⟨I.items.length - (i + 1), by omega, M2, acc2, xs2, st2, a1, a2, a3, a4, a5, lt, rfl, by rw [ds_]; exact a6⟩, fun x H2 y => ?_⟩
    obtain ⟨g2, s2, r2⟩ := yl x H2 y
    refine ⟨_, wipeD r vs, st', d, _, s2, reN.grow g2, r2, q, fun M3 H3 σ3 r3 st3 g3 s3 re3 w3 q3 => ⟨w3.trans (wipe_wipe σ vs), M3, r3, st3, _, s3, re3, q3, fun M4 H4 st4 b g4 s4 q4 => ?_⟩⟩
    have g24 := (g2.trans g3).trans g4
    cases b with
    | true =>
      rw [if_pos rfl] at q4
      refine iteT ?_
      refine ⟨M4, r3, st4, _, s4, re3.grow g4, q4, fun M5 H5 st5 z vz g5 s5 r5 q5 => ?_⟩
      have g25 := g24.trans g5
      obtain ⟨N5, rfl⟩ := grow_hide g25
      have hp5 : H5 p = some (.lst xs) := (g25.hid p hidden_at).trans hp
      obtain ⟨s6, l6⟩ := s5.push (ys := xs ++ [vz]) hp5
      refine ⟨xs, hp5, ?_, N5, acc ++ [z], xs ++ [vz], st5, gr.step s1 np g25, s6, upd_same, ?_, by rw [List.length_append]; simp; omega, q5⟩
      · rw [← rs.length]; omega
      · exact ((rs.grow g25).later l6).append (.cons (r5.later l6) .nil)
    | false =>
      rw [if_neg (by decide)] at q4
      refine iteF ?_
      obtain ⟨N4, rfl⟩ := grow_hide g24
      have hp4 : H4 p = some (.lst xs) := (g24.hid p hidden_at).trans hp
      refine ⟨N4, acc, xs, st4, ?_, s4, hp4, rs.grow g24, by omega, q4⟩
      have z := gr.step (o := .lst xs) s1 np g24
      rw [upd_self hp4] at z
      exact z
theorem PTs.imp {X : Cx} {e : List Expr} {t t' : TT} (h : PTs X e t) (i : ∀ σ H Q, t' σ H Q → t σ H Q) : PTs X e t' := ⟨fun pins s σ H Q I z => h.run pins s σ H Q I (i σ H Q z)⟩
abbrev DTs (T : List (Addr × Str)) (X : Cx) (e : List Expr) (f : DTT) : Prop := PTs X e (liftT T X.K f)
section
variable {T : List (Addr × Str)} {X : Cx}
theorem dts_nil : DTs T X [] dtYes := PTs.imp pts_nil fun σ H Q ⟨M, r, st, Q', s, re, h, k⟩ => k M H st true (Grow.refl M H) s h
theorem dts_one {c : Expr} {t : DTT} (h : DT T X c t) : DTs T X [c] t := pts_one h
variable {elt tg iter : Expr} {ifs : List Expr} {scope : Scope} {own : List (Str × Nat)} {pos : Pos} {f : DTI} {g : DTG} {tt : DTT} {te : DTE}
theorem de_lcG {fin : (D → DSt → Prop) → List D → DSt → Prop} (fo : FinOk T X.K fin) (hc : X.calm = true) (hN : X.N.Nodup) (hi : DI T X tg iter f) (ok : BlkOk X.N X.env.scope scope own)
    (hg : ∀ (s : Shared) (H : Hp) (C : Addr) (cl : List (Str × Addr)) (fp : List Addr), DG T (X.blk s H scope (compEnvC scope cl C X.env) fp) (own.map (·.2)) tg g) (ht : ∀ (s : Shared) (H : Hp) (C : Addr) (cl : List (Str × Addr)) (fp : List Addr), DTs T (X.blk s H scope (compEnvC scope cl C X.env) fp) ifs tt)
    (he : ∀ (s : Shared) (H : Hp) (C : Addr) (cl : List (Str × Addr)) (fp : List Addr), DE T (X.blk s H scope (compEnvC scope cl C X.env) fp) elt te) (hs : ∀ x, foldedSetIterable iter X.env x = pure x := by intro _; rfl) :
    DE T X (.ListComp elt [⟨tg, iter, ifs, 0⟩] scope pos) (dLcG f g tt te (own.map (·.2)) fin) :=
  PE.imp (pe_lc hc hN hi ok hg ht he hs) fun _ _ _ h => lift_lc fo h
end
end DL
namespace DL
open PySem PySem.Spec PyProof.Rows L2 LamX PySem.W SL
def spD (T : List (Addr × Str)) (K : Frag) (n : Nat) (g : DRs) : Sp := fun vs H Q _ => vs.length = n ∧ ∃ M st ds Q', RS T K M st H ∧ RVs K M H ds vs ∧ g ds st Q' ∧ Kn T K M H Q' Q
structure FnD (P : Program) (w : World) (K : Frag) (mg : Str → Option Value) (base : Heap) (T : List (Addr × Str)) (k : Nat) (f : Addr) (fd : FuncData) (ps : List Str) (g : DRs) : Prop where
  fn : FnG P w K mg base k f fd ps (spD T K ps.length g)
  ar : ∀ ds st Q, g ds st Q → ds.length = ps.length
mutual
/-- .. its own lists become lists that nobody writes to, at any depth -/
inductive Fz (st : DSt) (n : Nat) : D → D → Prop
  | same {d : D} : clo n d = true → Fz st n d d
  | tup {ds es : List D} : Fzs st n ds es → Fz st n (.tup ds) (.tup es)
  | tuk {ds es : List D} : Fzs st n ds es → Fz st n (.tuk ds) (.tuk es)
  | lst {ds es : List D} : Fzs st n ds es → Fz st n (.lst ds) (.lst es)
  | own {k : Nat} {ds es : List D} : n ≤ k → st[k]? = some (.lst ds) → Fzs st n ds es → Fz st n (.ref k) (.lst es)
inductive Fzs (st : DSt) (n : Nat) : List D → List D → Prop
  | nil : Fzs st n [] []
  | cons {d e : D} {ds es : List D} : Fz st n d e → Fzs st n ds es → Fzs st n (d :: ds) (e :: es)
end
theorem Fzs.same {st : DSt} {n : Nat} : ∀ {ds : List D}, clos n ds = true → Fzs st n ds ds
  | [], _ => .nil
  | d :: ds, h => by
    simp only [clos, Bool.and_eq_true] at h
    exact .cons (.same h.1) (Fzs.same h.2)
theorem notin_cut {T : List (Addr × Str)} {K : Frag} {M : Pl} {H : Hp} {st : DSt} {n m : Nat} {a : Addr} (s : RS T K M st H) (hr : M.at_ n = some a) (le : m ≤ n) : a ∉ (M.cut m).m := by
  intro z
  obtain ⟨i, hi⟩ := List.mem_iff_getElem?.mp z
  have hi' : (M.m.take (M.h + m))[i]? = _ := hi
  rw [List.getElem?_take] at hi'
  split at hi'
  · obtain ⟨l1, q1⟩ := List.getElem?_eq_some_iff.mp hi'
    obtain ⟨l2, q2⟩ := List.getElem?_eq_some_iff.mp hr
    have := (List.getElem_inj s.nd).mp (q1.trans q2.symm)
    omega
  · cases hi'
section
variable {T : List (Addr × Str)} {K : Frag} {M : Pl} {H : Hp} {st : DSt}
mutual
theorem Fz.rv (s : RS T K M st H) {n : Nat} : ∀ {d e : D} {v : V}, Fz st n d e → RV K M H d v → RV K (M.cut n) H e v
  | _, _, _, .same c, r => r.cut c
  | _, _, _, .tup f, .tup a b c r => .tup (cut_notin a) b c (f.rvs s r)
  | _, _, _, .tuk f, .tuk a b r => .tuk (cut_notin a) b (f.rvs s r)
  | _, _, _, .lst f, .lst a b r => .lst (cut_notin a) b (f.rvs s r)
  | _, _, _, .own (ds := ds) le e f, .ref hr => by
    obtain ⟨xs, e1, e2⟩ := s.obj _ _ _ hr e
    exact .lst (notin_cut s hr le) e1 (f.rvs s e2)
theorem Fzs.rvs (s : RS T K M st H) {n : Nat} : ∀ {d e : List D} {v : List V}, Fzs st n d e → RVs K M H d v → RVs K (M.cut n) H e v
  | _, _, _, .nil, .nil => .nil
  | _, _, _, .cons f fs, .cons r rs => .cons (f.rv s r) (fs.rvs s rs)
end
end
def Rt (b : DSt) (Q : DK) : DK := fun d st => Q d st ∨ (∃ n, b.length ≤ n ∧ n ≤ st.length ∧ clo n d = true ∧ cloS b n st ∧ Q d (st.take n)) ∨
  (∃ n d', b.length ≤ n ∧ n ≤ st.length ∧ Fz st n d d' ∧ cloS b n st ∧ Q d' (st.take n))
theorem Rt.sound {T : List (Addr × Str)} {K : Frag} {M M0 : Pl} {H H0 : Hp} {st st0 : DSt} {d : D} {v : V} {Q' : DK} {Q : VK} (h : Rt st0 Q' d st) (s0 : RS T K M0 st0 H0) (k : Kn T K M0 H0 Q' Q) (g : Grow M0 H0 M H) (s : RS T K M st H) (r : RV K M H d v) : Q v H := by
  rcases h with h | ⟨n, h1, h2, h3, h4, h5⟩ | ⟨n, d', h1, h2, h3, h4, h5⟩
  · exact k M H st d v g s r h
  · exact k (M.cut n) H (st.take n) d v (g.cut s0 h1) (s.cut h2 (h4.all s0 h1)) (r.cut h3) h5
  · exact k (M.cut n) H (st.take n) d' v (g.cut s0 h1) (s.cut h2 (h4.all s0 h1)) (h3.rv s r) h5
def startD (n : Nat) (ds : List D) : DEnv := ds.map some ++ List.replicate (n - ds.length) none
theorem RE.start {K : Frag} {M : Pl} {H : Hp} {ds : List D} {vs : List V} (r : RVs K M H ds vs) (N : List Str) : RE K M H (startD N.length ds) (L2.start N vs) := by
  unfold startD L2.start
  refine ⟨by simp [r.length], fun i d e => ?_⟩
  by_cases lt : i < ds.length
  · rw [List.getElem?_append_left (by rw [List.length_map]; exact lt), List.getElem?_map] at e
    rw [List.getElem?_append_left (by rw [List.length_map, ← r.length]; exact lt), List.getElem?_map]
    cases q : ds[i]? with
    | none => rw [q] at e; cases e
    | some y =>
      rw [q] at e
      cases e
      obtain ⟨v, e1, e2⟩ := r.get q
      exact ⟨v, by rw [e1]; rfl, e2⟩
  · rw [List.getElem?_append_right (by rw [List.length_map]; omega), List.getElem?_replicate] at e
    split at e <;> cases e
section
variable {P : Program} {w : World} {K : Frag} {mg : Str → Option Value} {base : Heap} {T : List (Addr × Str)}
theorem fnD_mk {x qual : Str} {st : Stmt} {f : Addr} {fd : FuncData} {N ps : List Str} {k : Nat} {g : DRs} {F' : DTS} (F : Fun K x qual st f fd) (sc : FnScope N ps (defScope st)) (ar : ∀ ds st Q, g ds st Q → ds.length = ps.length)
    (body : ∀ (cdv : Value) (A : Around) (outer : List Env) (s : Shared) (H : Hp) (E : XK), A.guards = some [] → Room k (A.deeper (envOfC qual (defScope st) s.heap.objs.size f cdv)) → DSs T (cxOf CX0 P w K mg base N qual (defScope st) f cdv A outer s H E).nox (defBody st) F')
    (sem : ∀ ds st Q, g ds st Q → F' { nx := fun _ st' => Rt st Q .non st', rt := Rt st Q } (startD N.length ds) st) : FnD P w K mg base T (k + 1) f fd ps g := by
  refine ⟨fnG_mk F sc (fun vs H Q E h => h.1) (fun cdv A outer s H vs Q E gd room h => ⟨_, body cdv A outer s H E gd room, ?_⟩), ar⟩
  obtain ⟨_, M, st', ds, Q', rs, rv, hg, kn⟩ := h
  refine ⟨M, startD N.length ds, st', _, rs, RE.start rv N, sem ds st' Q' hg, ?_⟩
  exact ⟨fun M1 H1 σ1 r1 st1 g1 s1 re1 q => Rt.sound q rs kn g1 s1 .non, fun M1 H1 st1 d v g1 s1 r1 q => Rt.sound q rs kn g1 s1 r1, fun _ _ _ _ _ _ _ _ q => q.elim, fun _ _ _ _ _ _ _ _ q => q.elim⟩
theorem FnD.mono {j k : Nat} {f : Addr} {fd : FuncData} {ps : List Str} {g : DRs} (F : FnD P w K mg base T j f fd ps g) (h : j ≤ k) : FnD P w K mg base T k f fd ps g :=
  ⟨⟨F.fn.size, fun A outer s H args us vs Q E gd room => F.fn.go A outer s H args us vs Q E gd (room.mono h)⟩, F.ar⟩
theorem FnD.imp {k : Nat} {f : Addr} {fd : FuncData} {ps : List Str} {g g' : DRs} (F : FnD P w K mg base T k f fd ps g) (h : ∀ ds st Q, g' ds st Q → g ds st Q) : FnD P w K mg base T k f fd ps g' :=
  ⟨⟨fun vs H Q E q => q.1, fun A outer s H args us vs Q E gd room e0 bd rel q => by
    obtain ⟨l, M, st, ds, Q', rs, rv, hg, kn⟩ := q
    exact F.fn.go A outer s H args us vs Q E gd room e0 bd rel ⟨l, M, st, ds, Q', rs, rv, h _ _ _ hg, kn⟩⟩, fun ds st Q q => F.ar ds st Q (h _ _ _ q)⟩
end
section
variable {T : List (Addr × Str)} {X : Cx} {a b : Expr} {fa fb : DTE} {pos : Pos}
theorem de_call {k : Nat} {f : Addr} {fd : FuncData} {ps : List Str} {g : DRs} {x : Str} {p : Pos} {e : Expr} {es : List Expr} {fs : DTA}
    (F : FnD X.prog X.w X.K X.mg X.base T k f fd ps g) (gd : X.A.guards = some []) (room : Room k X.A) (gl : Gl X x)
    (at_ : X.mg x = some (.ref f)) (keep : PySem.W.keepIn X.K (.ref f) = true) (bd : Binds X.K fd ps []) (args : DA T X (e :: es) fs)
    (h1 : (x == ("__debug__" : Str)) = false := by decide)
    (h2 : starEach (e :: es) X.env = (false, eval e X.env) :: starEach es X.env := by rfl)
    (h3 : (backTo pos (starEach es X.env)).any (·.1) = false := by rfl) :
    DE T X (.Call (.Name x p) (e :: es) [] pos) (dCB g fs) :=
  PE.imp (pe_callG F.fn gd room gl at_ keep bd args h1 h2 h3) fun σ H Q ⟨M, r, st, Q', s, re, h, k⟩ => ⟨M, r, st, _, s, re, h, fun M1 H1 st1 ds vs g1 s1 r1 q => by
    show spD T X.K ps.length g (vs ++ []) H1 Q E0
    rw [List.append_nil]
    exact ⟨by rw [← r1.length]; exact F.ar _ _ _ q, M1, st1, ds, Q', s1, r1, q, k.grow g1⟩⟩
def onL (st : DSt) (d : D) (k : Nat → List D → Prop) : Prop := match d with
  | .ref n => match st[n]? with | some (.lst xs) => k n xs | _ => False
  | _ => False
theorem onL.of {st : DSt} {d : D} {k : Nat → List D → Prop} (h : onL st d k) : ∃ n xs, d = .ref n ∧ st[n]? = some (.lst xs) ∧ k n xs := by
  cases d with
  | ref n =>
    unfold onL at h
    simp only at h
    split at h
    · rename_i xs e; exact ⟨n, xs, rfl, e, h⟩
    · exact h.elim
  | _ => exact h.elim
theorem onL.rd {T : List (Addr × Str)} {K : Frag} {M : Pl} {H : Hp} {st : DSt} {n : Nat} {xs : List D} {v : V} (s : RS T K M st H) (r : RV K M H (.ref n) v) (e : st[n]? = some (.lst xs)) : ∃ a ys, v = .ref a ∧ M.at_ n = some a ∧ H a = some (.lst ys) ∧ RVs K M H xs ys := by
  cases r with
  | ref hm =>
    obtain ⟨ys, e1, e2⟩ := s.obj n _ _ hm e
    exact ⟨_, ys, rfl, hm, e1, e2⟩
theorem Kn.setL {T : List (Addr × Str)} {K : Frag} {M : Pl} {H : Hp} {st : DSt} {Q' : DK} {Q : VK} {n : Nat} {a : Addr} {ds : List D} {ys : List V} {d : D} {v : V} (k : Kn T K M H Q' Q) (s : RS T K M st H) (hm : M.at_ n = some a) (r : RVs K M H ds ys) (rv : RV K M H d v) (q : Q' d (st.set n (.lst ds))) : Q v (upd H a (.lst ys)) := by
  have gw : Grow M H M (upd H a (.lst ys)) := Grow.write s.nd hm
  exact k M _ _ d v gw (s.write (u := .lst ds) hm ⟨ys, upd_same, r.grow gw⟩) (rv.grow gw) q
def MtD (T : List (Addr × Str)) (K : Frag) (r : V → List V → Hp → VK → Prop) (r' : D → List D → DSt → DK → Prop) : Prop := ∀ (M : Pl) (H : Hp) (st : DSt) (x : D) (ds : List D) (v : V) (vs : List V) (Q' : DK) (Q : VK), RS T K M st H → RV K M H x v → RVs K M H ds vs → r' x ds st Q' → Kn T K M H Q' Q → r v vs H Q
def LstD (st : DSt) (x : D) : Prop := match x with | .lst _ => True | .ref n => (match st[n]? with | some (.lst _) => True | _ => False) | _ => False
theorem LstD.ty {K : Frag} {M : Pl} {H : Hp} {st : DSt} {x : D} {v : V} (s : RS T K M st H) (r : RV K M H x v) (h : LstD st x) : tyV K "list" v H := by
  cases r with
  | lst n e rs => exact .inl ⟨rfl, _, .inl (.inl e)⟩
  | scr n e rs => exact h.elim
  | lsk e rs => exact h.elim
  | ref hm =>
    obtain ⟨o, e1, ro⟩ := s.atM hm
    unfold LstD at h
    simp only [e1] at h
    cases o with
    | lst xs => obtain ⟨ys, e2, _⟩ := ro; exact .inl ⟨rfl, ys, .inl (.inl e2)⟩
    | dK _ => exact h.elim
    | dT _ => exact h.elim
  | _ => exact h.elim
def dMtL (r' : D → List D → DSt → DK → Prop) (fo : DTE) (fs : DTA) : DTE := fun r st Q => fo r st fun x st1 => LstD st1 x ∧ fs r st1 fun ds st2 => r' x ds st2 Q
theorem de_bmL {o e : Expr} {es : List Expr} {name : Str} {apos cpos : Pos} {id : String} {r : V → List V → Hp → VK → Prop} {r' : D → List D → DSt → DK → Prop} {fo : DTE} {fs : DTA} (slot : Slot "list" name id) (hty : typeOf (.builtin id) = pure (.type "method_descriptor")) (hm : MtR X id r) (hd : MtD T X.K r r') (ho : DE T X o fo) (ha : DA T X (e :: es) fs)
    (h1 : attributeBase o name X.env (eval o X.env) = eval o X.env := by rfl)
    (h2 : ((backTo cpos (starEach (e :: es) X.env)).all (fun x => !x.1) && (backToKw cpos (keywordEach [] X.env)).all (fun x => x.1.isSome) && decide ((e :: es).length + ([] : List Keyword).length + (if ([] : List Keyword).isEmpty then 0 else 1) < 30)) = true := by rfl)
    (h3 : (apos.endLine == cpos.line) = true := by rfl) (h4 : starEach (e :: es) X.env = (false, eval e X.env) :: starEach es X.env := by rfl) (h5 : (backTo cpos (starEach es X.env)).any (·.1) = false := by rfl) :
    DE T X (.Call (.Attribute o name apos) (e :: es) [] cpos) (dMtL r' fo fs) :=
  PE.imp (pe_bm PySem.F.plainAttrs_list slot hty hm ho ha h1 h2 h3 h4 h5) fun σ H Q ⟨M, ρ, st, Q', s, re, h, k⟩ => ⟨M, ρ, st, _, s, re, h, fun M1 H1 st1 x v g1 s1 r1 q => ⟨q.1.ty s1 r1, M1, ρ, st1, _, s1, re.grow g1, q.2, fun M2 H2 st2 ds vs g2 s2 r2 q2 =>
    hd M2 H2 st2 x ds v vs Q' Q s2 (r1.grow g2) r2 q2 ((k.grow g1).grow g2)⟩⟩
def mAppend : D → List D → DSt → DK → Prop := fun x ds st Q => on1 ds fun y => onL st x fun n xs => xs.length < sizeLine ∧ Q .non (st.set n (.lst (xs ++ [y])))
theorem mtD_append {K : Frag} : MtD T K rAppend mAppend := by
  intro M H st x ds v vs Q' Q s rx rs h k
  obtain ⟨y, rfl, h⟩ := on1.of h
  obtain ⟨n, xs, rfl, e, lt, q⟩ := onL.of h
  obtain ⟨w, rfl, rw'⟩ := rs.one
  obtain ⟨a, ys, rfl, hm, e1, e2⟩ := onL.rd s rx e
  exact ⟨a, ys, w, rfl, rfl, e1, by rw [← e2.length]; exact lt, k.setL s hm (e2.append (.cons rw' .nil)) .non q⟩
def intsD : List D → Option (List Int)
  | [] => some []
  | .int b :: r => (intsD r).map (b :: ·)
  | _ => none
theorem intsD_of : ∀ {ds : List D} {bs : List Int}, intsD ds = some bs → ds = bs.map D.int
  | [], bs, h => by cases h; rfl
  | .int b :: r, bs, h => by
    unfold intsD at h
    cases q : intsD r with
    | none => rw [q] at h; cases h
    | some cs => rw [q] at h; cases h; rw [intsD_of q]; rfl
  | .non :: r, bs, h => by cases h
  | .bl _ :: r, bs, h => by cases h
  | .str _ :: r, bs, h => by cases h
  | .tup _ :: r, bs, h => by cases h
  | .tuk _ :: r, bs, h => by cases h
  | .lst _ :: r, bs, h => by cases h
  | .scr _ :: r, bs, h => by cases h
  | .ref _ :: r, bs, h => by cases h
theorem intsD_map {α : Type} (g : α → Int) : ∀ xs : List α, intsD (xs.map fun x => D.int (g x)) = some (xs.map g)
  | [] => rfl
  | x :: r => by rw [List.map_cons, List.map_cons]; unfold intsD; rw [intsD_map g r]; rfl
theorem intsD_ints (ns : List Int) : intsD (ns.map D.int) = some ns := by
  have z := intsD_map (fun i : Int => i) ns
  rw [List.map_id'] at z
  exact z
def ixOf (z : Int) : List Int → Option Nat
  | [] => none
  | x :: r => if x = z then some 0 else (ixOf z r).map (· + 1)
theorem ixOf_spec {z : Int} : ∀ {ns : List Int} {j : Nat}, ixOf z ns = some j → ns[j]? = some z ∧ ∀ m, m < j → ns[m]? ≠ some z
  | [], j, h => by cases h
  | x :: r, j, h => by
    unfold ixOf at h
    by_cases e : x = z
    · rw [if_pos e] at h
      cases h
      exact ⟨by rw [e]; rfl, fun m lt => absurd lt (Nat.not_lt_zero m)⟩
    · rw [if_neg e] at h
      cases q : ixOf z r with
      | none => rw [q] at h; cases h
      | some k =>
        rw [q] at h
        cases h
        obtain ⟨a, b⟩ := ixOf_spec q
        refine ⟨a, fun m lt => ?_⟩
        cases m with
        | zero => intro w; cases w; exact e rfl
        | succ m => exact fun w => b m (Nat.lt_of_succ_lt_succ lt) (by simpa using w)
theorem ixOf_mem {z : Int} : ∀ {ns : List Int}, z ∈ ns → ∃ j, ixOf z ns = some j
  | x :: r, h => by
    unfold ixOf
    by_cases e : x = z
    · rw [if_pos e]; exact ⟨0, rfl⟩
    · rw [if_neg e]
      obtain ⟨j, q⟩ := ixOf_mem (List.mem_of_ne_of_mem (fun w => e w.symm) h)
      exact ⟨j + 1, by rw [q]; rfl⟩
def IdxD (st : DSt) (x : D) : Prop := match x with
  | .tup _ => True
  | .lst _ => True
  | .ref n => (match st[n]? with | some (.lst _) => True | _ => False)
  | _ => False
def ixS (st : DSt) : D → Option (List D)
  | .tup xs => some xs
  | .lst xs => some xs
  | .ref n => match st[n]? with | some (.lst ds) => some ds | _ => none
  | _ => none
def mIndex : D → List D → DSt → DK → Prop := fun x ds st Q => on1 ds fun y => onI y fun z => onO (ixS st x) fun xs => onO (intsD xs) fun ns => onO (ixOf z ns) fun j => Q (.int (j : Nat)) st
def dIndex (fo : DTE) (fs : DTA) : DTE := fun r st Q => fo r st fun x st1 => IdxD st1 x ∧ fs r st1 fun ds st2 => mIndex x ds st2 Q
end
end DL
namespace DL
open PySem PySem.Spec PyProof.Rows L2 LamX PySem.W SL
theorem mulOne (l : Addr) (its : Array Value) (n : Nat) (dd : Option Addr) (sl : Array (Option Value)) (u : Tok) :
    Meets (Builtin.«tuple.__mul__» ⟨[.ref l, .int 1 u], []⟩) (fun _ R s => s.heap.get? l = some ⟨.type "tuple", dd, .seq its n, sl⟩ ∧ R (.ok (.ret (.ref l))) s) :=
  .of_wp fun prog w A R s h => by
    obtain ⟨hp, g, d, tk, os⟩ := s
    obtain ⟨hl, q⟩ := h
    have f1 := AutoSeq1.idx_int
    wp_walk using wpAny_loadPart' hl
    exact ⟨_, rfl, q⟩
def rRepF (K : Frag) : R2 := fun x y H Q => ∃ (l : Addr) (k : Nat) (xs : List V), x = .ref l ∧ y = .int k ∧ SqT K H l xs ∧ xs ≠ [] ∧ 1 ≤ k ∧ k ≤ 1000 ∧ xs.length ≤ 1000 ∧
  (k = 1 → Q (.ref l) H) ∧ (2 ≤ k → ∀ (p : Addr) (ob : Obj), H p = none → ob.dict = none → Q (.ref p) (upd H p (.frz ob (.tup (List.replicate k xs).flatten))))
theorem op_repF {X : Cx} : OpR X (binaryOp .Mult) (rRepF X.K) := by
  intro pins s σ H x y v u Q I rx ry h
  obtain ⟨l, k, xs, rfl, rfl, hT, hne, k1, k2, hz, q1, q2⟩ := h
  cases rx
  obtain ⟨t, rfl⟩ := ry
  obtain ⟨its, r, ⟨⟨cls, dd, data, sl⟩, ho, hc, n, hd⟩, hs⟩ := I.tuple hT
  simp only at hc hd
  subst hc hd
  have le : its.length = xs.length := r.length.symm
  by_cases e : k = 1
  · subst e
    exact wpAny_binaryOp_repeat_ref (T := "tuple") (U := "int") (by decide)
      ⟨_, ho, rfl⟩ (fun s' => typeIs_int s' _ t) noFill_tuple_mul F.fills_int_mul
      F.slot_int_rmul repeat_tuple F.slot_int_index.lookup
      (call_meets F.slot_int_rmul (typeIs_int s _ t) F.entry_int_rmul
        (F.args_int_rmul_2 _ _) (int_rmul_tuple _ t l its.toArray n dd sl)
        ⟨ho, rfl, ⟨_, ho, rfl⟩, call_meets F.slot_tuple_mul ⟨_, ho, rfl⟩
          F.entry_tuple_mul (F.args_tuple_mul_2 _ _) (mulOne l its.toArray n dd sl t) ⟨ho, .ref l, H, I, rfl, q1 rfl⟩⟩)
  · have two : 2 ≤ k := by omega
    have ne : its.toArray.isEmpty = false := by
      cases its with
      | nil => exact absurd (List.eq_nil_of_length_eq_zero le.symm) hne
      | cons _ _ => rfl
    have sz : its.toArray.size = xs.length := by rw [List.size_toArray, le]
    have nat : xs.length * k ≤ 1000000 := Nat.le_trans (Nat.mul_le_mul hz k2) (by decide)
    have big : ((its.toArray.size : Nat) : Int) * (k : Int) ≤ 1000000 := by
      rw [sz]
      rw [← Int.natCast_mul]
      exact Int.ofNat_le.mpr nat
    have fl : (List.replicate k its).flatten.length ≤ sizeLine := by
      rw [lm_len_rep_flat, le, sizeLine_eq, Nat.mul_comm]
      omega
    have z0 : (decide ((k : Int) < -(2 ^ 63)) || decide ((k : Int) ≥ 2 ^ 63)) = false := by
      rw [Bool.or_eq_false_iff]
      exact ⟨decide_eq_false (by omega), decide_eq_false (by omega)⟩
    have z1 : (its.toArray.isEmpty || (k : Int) == 1) = false := by
      rw [ne]
      exact beq_eq_false_iff_ne.mpr (by omega)
    have z2 : (decide ((k : Int) ≤ 0) || its.toArray.isEmpty) = false := by
      rw [ne, decide_eq_false (by omega)]
      rfl
    have z4 : Builtin.Tuple.tupleTooMany (((its.toArray.size : Nat) : Int) * (k : Int)) = false := by
      unfold Builtin.Tuple.tupleTooMany
      refine decide_eq_false ?_
      rw [sizeLine_eq]
      omega
    refine wpAny_binaryOp_repeat_ref (T := "tuple") (U := "int") (by decide)
      ⟨_, ho, rfl⟩ (fun s' => typeIs_int s' _ t) noFill_tuple_mul F.fills_int_mul
      F.slot_int_rmul repeat_tuple F.slot_int_index.lookup
      (call_meets F.slot_int_rmul (typeIs_int s _ t) F.entry_int_rmul
        (F.args_int_rmul_2 _ _) (int_rmul_tuple _ t l its.toArray n dd sl)
        ⟨ho, rfl, ⟨_, ho, rfl⟩, call_meets F.slot_tuple_mul ⟨_, ho, rfl⟩
          F.entry_tuple_mul (F.args_tuple_mul_2 _ _) (tuple_mulW l its.toArray n dd sl _ t z0 z1 z2 (by omega) z4 (by rw [size_rep, List.size_toArray]; exact fl)) ⟨ho, ?_⟩⟩)
    rw [size_rep]
    refine ⟨.ref s.heap.objs.size, _, I.laid (t' := s.toks) (o := .frz { cls := .type "tuple", data := .seq (List.replicate (k : Int).toNat its).flatten.toArray } (.tup (List.replicate k xs).flatten))
      (fun b ob q => Heap.get?_push_of_some _ q) (Nat.le_refl _) ?_, rfl, q2 two _ _ (I.hok.fresh (Nat.le_refl _)) rfl⟩
    exact ⟨Heap.get?_push_size _ rfl, by rw [lm_len_rep_flat, ← le, ← lm_len_rep_flat]; exact fl, _, r.rep k, IsTup.new _ _⟩
end DL
namespace DL
open PySem PySem.Spec PyProof.Rows L2 LamX PySem.W SL
def lstS (st : DSt) : D → Option (List D)
  | .lst ds => some ds
  | .ref n => match st[n]? with | some (.lst ds) => some ds | _ => none
  | _ => none
section
variable {T : List (Addr × Str)} {X : Cx} {K : Frag} {M : Pl} {H : Hp} {st : DSt}
theorem lstS.rd {d : D} {v : V} {ds : List D} (s : RS T K M st H) (r : RV K M H d v) (e : lstS st d = some ds) : ∃ a xs, v = .ref a ∧ H a = some (.lst xs) ∧ RVs K M H ds xs := by
  cases r with
  | lst n h rs => cases e; exact ⟨_, _, rfl, h, rs⟩
  | ref h =>
    obtain ⟨o, e1, ro⟩ := s.atM h
    unfold lstS at e
    simp only [e1] at e
    cases o with
    | lst xs => cases e; obtain ⟨ys, q, rs⟩ := ro; exact ⟨_, ys, rfl, q, rs⟩
    | dK _ => cases e
    | dT _ => cases e
  | _ => cases e
theorem fin_new' {fin : DK → List D → DSt → Prop} (fo : fin = finT ∨ fin = finN) {ds : List D} {xs : List V} {Q' : DK} {Q : VK} {q : Addr} (k : Kn T K M H Q' Q) (s : RS T K M st H) (r : RVs K M H ds xs) (nq : H q = none) (h : fin Q' ds st) : Q (.ref q) (upd H q (.lst xs)) := by
  rcases fo with rfl | rfl
  · exact k.lst s r nq h
  · exact k.own s r nq h
theorem RVs.dropLast {ds : List D} {vs : List V} (r : RVs K M H ds vs) : RVs K M H ds.dropLast vs.dropLast := by
  rw [List.dropLast_eq_take, List.dropLast_eq_take, ← r.length]
  exact r.take _
end
end DL
namespace DL
open PySem PySem.Spec PyProof.Rows L2 LamX PySem.W SL
section
variable {T : List (Addr × Str)} {X : Cx} {a b c e : Expr} {es : List Expr} {fa fb fc f : DTE} {fs : DTA} {pos p : Pos} {K : Frag}
def dAddG (fin : DK → List D → DSt → Prop) : DR2 := fun x y st Q => match x, y with
  | .int i, .int j => Q (.int (i + j)) st
  | .tup xs, .tup ys => xs.length + ys.length ≤ sizeLine ∧ Q (.tup (xs ++ ys)) st
  | .str i, .str j => i.length + j.length ≤ sizeLine ∧ Q (.str (i ++ j)) st
  | x, y => onO (lstS st x) fun xs => onO (lstS st y) fun ys => xs.length + ys.length ≤ sizeLine ∧ fin Q (xs ++ ys) st
abbrev dAdd : DR2 := dAddG finT
def rAdd (K : Frag) : R2 := fun x y H Q => ((rI0 fun i j => .int (i + j)) x y H Q ∨ rCatF K x y H Q) ∨ ((∃ i j, x = .str i ∧ y = .str j ∧ i.length + j.length ≤ sizeLine ∧ Q (.str (i ++ j)) H) ∨ rCat x y H Q)
theorem op_addA : OpR X (binaryOp .Add) (rAdd X.K) := OpR.or (OpR.or op_add op_catF) (OpR.or op_add_str op_cat)
theorem opD_add {fin : DK → List D → DSt → Prop} (fo : fin = finT ∨ fin = finN) : OpD T K (rAdd K) (dAddG fin) := by
  intro M H st x y vx vy Q' Q s rx ry h k
  unfold dAddG at h
  split at h
  · cases rx
    cases ry
    exact .inl (.inl ⟨_, _, rfl, rfl, k.here s (.int _) h⟩)
  · obtain ⟨le, q⟩ := h
    have rx' := rx
    have ry' := ry
    cases rx with
    | tup n1 e1 d1 r1 =>
      cases ry with
      | tup n2 e2 d2 r2 =>
        refine .inl (.inr ⟨_, _, _, _, rfl, rfl, .inl (.inr ⟨_, e1⟩), .inl (.inr ⟨_, e2⟩), by rw [← r1.length, ← r2.length]; exact le, fun z => ?_, fun z1 z => ?_, fun z1 z2 p ob np hd => k.tup s (r1.append r2) np hd q⟩)
        · have zz := r1.nil_iff.mpr z
          subst zz
          exact k.here s ry' q
        · have zz := r2.nil_iff.mpr z
          subst zz
          rw [List.append_nil] at q
          exact k.here s rx' q
  · cases rx
    cases ry
    exact .inr (.inl ⟨_, _, rfl, rfl, h.1, k.here s (.str _) h.2⟩)
  · obtain ⟨xs, e1, h⟩ := onO.of h
    obtain ⟨ys, e2, le, q⟩ := onO.of h
    obtain ⟨a, us, rfl, ha, ru⟩ := lstS.rd s rx e1
    obtain ⟨b, ws, rfl, hb, rw'⟩ := lstS.rd s ry e2
    exact .inr (.inr ⟨a, b, us, ws, rfl, rfl, ha, hb, by rw [← ru.length, ← rw'.length]; exact le, fun p np => fin_new' fo k s (ru.append rw') np q⟩)
theorem de_add (ha : DE T X a fa) (hb : DE T X b fb) : DE T X (.BinOp a .Add b pos) (dOp dAdd fa fb) := de_op op_addA (opD_add (.inl rfl)) ha hb
theorem RVs.reverse {M : Pl} {H : Hp} : ∀ {ds : List D} {xs : List V}, RVs K M H ds xs → RVs K M H ds.reverse xs.reverse
  | _, _, .nil => .nil
  | _, _, .cons h t => by
    rw [List.reverse_cons, List.reverse_cons]
    exact (RVs.reverse t).append (.cons h .nil)
theorem RVs.rep {M : Pl} {H : Hp} {ds : List D} {xs : List V} (r : RVs K M H ds xs) : ∀ n : Nat, RVs K M H (List.replicate n ds).flatten (List.replicate n xs).flatten
  | 0 => .nil
  | n + 1 => by
    rw [List.replicate_succ, List.replicate_succ, List.flatten_cons, List.flatten_cons]
    exact r.append (RVs.rep r n)
def dMulG (fin : DK → List D → DSt → Prop) : DR2 := fun x y st Q => match x, y with
  | .int i, .int j => CMul i j ∧ Q (.int (i * j)) st
  | .tup xs, .int k => xs ≠ [] ∧ 1 ≤ k ∧ k ≤ 1000 ∧ xs.length ≤ 1000 ∧ Q (.tup (List.replicate k.toNat xs).flatten) st
  | x, .int k => onO (lstS st x) fun xs => (-1000 ≤ k ∧ xs.length * k.toNat ≤ 1000 ∧ k ≤ 100000000) ∧ fin Q (List.replicate k.toNat xs).flatten st
  | _, _ => False
abbrev dMul : DR2 := dMulG finT
def rMulA (K : Frag) : R2 := fun x y H Q => ((rI CMul fun i j => .int (i * j)) x y H Q ∨ rRepF K x y H Q) ∨ rRep x y H Q
theorem op_mulA : OpR X (binaryOp .Mult) (rMulA X.K) := OpR.or (OpR.or op_mul op_repF) op_rep
theorem opD_mul {fin : DK → List D → DSt → Prop} (fo : fin = finT ∨ fin = finN) : OpD T K (rMulA K) (dMulG fin) := by
  intro M H st x y vx vy Q' Q s rx ry h k
  unfold dMulG at h
  split at h
  · cases rx
    cases ry
    exact .inl (.inl ⟨_, _, rfl, rfl, h.1, k.here s (.int _) h.2⟩)
  · rename_i ds m
    obtain ⟨h1, h2, h3, h4, q⟩ := h
    have rx' := rx
    cases ry
    cases rx with
    | tup n1 e1 d1 r1 =>
      have em : ((m.toNat : Nat) : Int) = m := by omega
      refine .inl (.inr ⟨_, m.toNat, _, rfl, by rw [em], .inl (.inr ⟨_, e1⟩), fun z => h1 (r1.nil_iff.mpr z), by omega, by omega, by rw [← r1.length]; exact h4, fun z => ?_, fun _ p ob np hd => k.tup s (r1.rep m.toNat) np hd q⟩)
      rw [z, List.replicate_one, List.flatten_singleton] at q
      exact k.here s rx' q
  · obtain ⟨xs, e1, ⟨h1, h2, h3⟩, q⟩ := onO.of h
    obtain ⟨a, us, rfl, ha, ru⟩ := lstS.rd s rx e1
    cases ry
    have big : (1000 : Nat) ≤ sizeLine := by decide
    exact .inr ⟨a, _, us, rfl, rfl, ha, by omega, by omega, by rw [← ru.length]; omega, fun p np => fin_new' fo k s (ru.rep _) np q⟩
  · exact h.elim
theorem de_mul (ha : DE T X a fa) (hb : DE T X b fb) : DE T X (.BinOp a .Mult b pos) (dOp dMul fa fb) := de_op op_mulA (opD_mul (.inl rfl)) ha hb
def dRevV (x : D) (st : DSt) (Q : DK) : Prop := match x with
  | .tup xs => Q (.tup xs.reverse) st
  | _ => False
def dRev (f : DTE) : DTE := fun r st Q => f r st fun x st1 => dRevV x st1 Q
abbrev DTO := DEnv → DSt → (Option Int → DSt → Prop) → Prop
def liftO (T : List (Addr × Str)) (K : Frag) (f : DTO) : TO := fun σ H Q => ∃ M r st Q', RS T K M st H ∧ RE K M H r σ ∧ f r st Q' ∧ ∀ M' H' st' o, Grow M H M' H' → RS T K M' st' H' → Q' o st' → Q o H'
abbrev DO (T : List (Addr × Str)) (X : Cx) (e : Option Expr) (f : DTO) : Prop := PO X e (liftO T X.K f)
theorem PO.imp {e : Option Expr} {t t' : TO} (h : PO X e t) (i : ∀ σ H Q, t' σ H Q → t σ H Q) : PO X e t' := ⟨fun pins s σ H Q I z => h.run pins s σ H Q I (i σ H Q z)⟩
def oNone : DTO := fun _ st Q => Q none st
def oSome (f : DTE) : DTO := fun r st Q => f r st fun d st1 => onI d fun i => Q (some i) st1
theorem do_none : DO T X none oNone := PO.imp po_none fun σ H Q ⟨M, r, st, Q', s, re, h, k⟩ => k M H st none (Grow.refl M H) s h
theorem do_some (he : DE T X e f) : DO T X (some e) (oSome f) := PO.imp (po_some he) fun σ H Q ⟨M, r, st, Q', s, re, h, k⟩ => ⟨M, r, st, _, s, re, h, fun M1 H1 st1 d v g1 s1 r1 q => by
  obtain ⟨i, rfl, q⟩ := onI.of q
  cases r1
  exact ⟨i, rfl, k M1 H1 st1 _ g1 s1 q⟩⟩
def cutD (xs : List D) (lo hi : Option Int) : List D := (xs.drop (HT.sIx xs.length 0 lo)).take (HT.sIx xs.length xs.length hi - HT.sIx xs.length 0 lo)
theorem RVs.cutV {M : Pl} {H : Hp} {ds : List D} {vs : List V} (r : RVs K M H ds vs) (lo hi : Option Int) : RVs K M H (cutD ds lo hi) (L2.cutV vs lo hi) := by
  unfold cutD L2.cutV
  rw [r.length]
  exact (r.drop _).take _
def dSlV (fin : DK → List D → DSt → Prop) : D → Option Int → Option Int → DSt → DK → Prop := fun x lo hi st Q => match x with
  | .tup xs => Q (.tup (cutD xs lo hi)) st
  | .lst xs => fin Q (cutD xs lo hi) st
  | .ref n => onO (seqS st (.ref n)) fun xs => fin Q (cutD xs lo hi) st
  | _ => False
def dSlG (fin : DK → List D → DSt → Prop) (f : DTE) (lo hi : DTO) : DTE := fun r st Q => f r st fun x st1 => lo r st1 fun l st2 => hi r st2 fun u st3 => dSlV fin x l u st3 Q
def rSl2 (K : Frag) : V → Option Int → Option Int → Hp → VK → Prop := fun x lo hi H Q => rSlF K x lo hi H Q ∨ rSlL K x lo hi H Q
theorem sl_2 : SlR X (rSl2 X.K) := SlR.or sl_F sl_list
theorem fin_new {fin : DK → List D → DSt → Prop} (fo : fin = finT ∨ fin = finN) {M : Pl} {H : Hp} {st : DSt} {ds : List D} {xs : List V} {Q' : DK} {Q : VK} {q : Addr} (k : Kn T K M H Q' Q) (s : RS T K M st H) (r : RVs K M H ds xs) (nq : H q = none) (h : fin Q' ds st) : Q (.ref q) (upd H q (.lst xs)) := by
  rcases fo with rfl | rfl
  · exact k.lst s r nq h
  · exact k.own s r nq h
theorem cut_whole {xs : List D} {lo hi : Option Int} (h : HT.sIx xs.length 0 lo = 0 ∧ HT.sIx xs.length xs.length hi = xs.length) : cutD xs lo hi = xs := by
  unfold cutD
  rw [h.1, h.2]
  simp
theorem de_slice {fin : DK → List D → DSt → Prop} (fo : fin = finT ∨ fin = finN) {lo hi : Option Expr} {flo fhi : DTO} {p2 : Pos} (he : DE T X e f) (hl : DO T X lo flo) (hu : DO T X hi fhi) : DE T X (.Subscript e (.Slice lo hi none p2) pos) (dSlG fin f flo fhi) :=
  PE.imp (pe_slice sl_2 he hl hu) fun σ H Q ⟨M, r, st, Q', s, re, h, k⟩ => ⟨M, r, st, _, s, re, h, fun M1 H1 st1 x vx g1 s1 r1 q1 => ⟨M1, r, st1, _, s1, re.grow g1, q1, fun M2 H2 st2 l g2 s2 q2 => ⟨M2, r, st2, _, s2, (re.grow g1).grow g2, q2, fun M3 H3 st3 u g3 s3 q3 => by
    have rx := (r1.grow g2).grow g3
    have k3 := ((k.grow g1).grow g2).grow g3
    unfold dSlV at q3
    split at q3
    · have rx' := rx
      cases rx with
      | tup n e0 d0 rs =>
        refine .inl ⟨_, _, rfl, .inl (.inr ⟨_, e0⟩), fun wh => ?_, fun _ p ob np hd => k3.tup s3 (rs.cutV l u) np hd q3⟩
        rw [← rs.length] at wh
        rw [cut_whole wh] at q3
        exact k3.here s3 rx' q3
    · cases rx with
      | lst n e0 rs => exact .inr ⟨_, _, rfl, .inl (.inl e0), fun q nq => fin_new fo k3 s3 (rs.cutV l u) nq q3⟩
    · obtain ⟨xs, e0, q3⟩ := onO.of q3
      cases rx with
      | ref hm =>
        obtain ⟨o, e1, ro⟩ := s3.atM hm
        unfold seqS at e0
        simp only [e1] at e0
        cases o with
        | lst zs => cases e0; obtain ⟨ys, q, rs⟩ := ro; exact .inr ⟨_, ys, rfl, .inl (.inl q), fun q nq => fin_new fo k3 s3 (rs.cutV l u) nq q3⟩
        | dK _ => cases e0
        | dT _ => cases e0
    · exact q3.elim⟩⟩⟩
def dLRg1 (fin : DK → List D → DSt → Prop) (f : DTE) : DTE := fun r st Q => f r st fun x st1 => onI x fun j => RgOk 0 j ∧ fin Q (rgD 0 j.toNat) st1
theorem RVs.of_rg {M : Pl} {H : Hp} (lo : Int) (n : Nat) : RVs K M H (rgD lo n) ((List.range n).map fun i => V.int (lo + (i : Nat))) := by
  unfold rgD
  generalize List.range n = l
  induction l with
  | nil => exact .nil
  | cons i l ih => exact .cons (.int _) ih
theorem de_listRg1 {fin : DK → List D → DSt → Prop} (fo : fin = finT ∨ fin = finN) {p2 pos2 : Pos} (hc : X.calm = true) (hg : Gl X "list") (hm : X.mg "list" = none) (hg2 : Gl X "range") (hm2 : X.mg "range" = none) (ha : DE T X a f)
    (na : starEach [a] X.env = (false, eval a X.env) :: starEach [] X.env := by rfl) (nb : starEach [Expr.Call (.Name "range" p2) [a] [] pos2] X.env = (false, eval (Expr.Call (.Name "range" p2) [a] [] pos2) X.env) :: starEach [] X.env := by rfl) :
    DE T X (.Call (.Name "list" p) [.Call (.Name "range" p2) [a] [] pos2] [] pos) (dLRg1 fin f) :=
  PE.imp (pe_listRg hc hg hm (prg_1 hg2 hm2 ha na) nb) fun σ H Q ⟨M, r, st, Q', s, re, h, k⟩ => ⟨M, r, st, _, s, re, h, fun M1 H1 st1 x vx g1 s1 r1 q1 => by
    obtain ⟨j, rfl, ok, q2⟩ := onI.of q1
    cases r1
    refine ⟨j, rfl, ok, fun q nq => fin_new fo (k.grow g1) s1 ?_ nq q2⟩
    unfold rgV
    rw [Int.sub_zero]
    exact RVs.of_rg 0 j.toNat⟩
def tyN (st : DSt) : D → Option String
  | .non => some "NoneType" | .bl _ => some "bool" | .int _ => some "int" | .str _ => some "str" | .lst _ => some "list" | .scr _ => some "list" | .tup _ => some "tuple" | .tuk _ => some "tuple"
  | .ref n => match st[n]? with | some (.lst _) => some "list" | some (.dK _) => some "dict" | some (.dT _) => some "dict" | none => none
theorem RV.ty {M : Pl} {H : Hp} {st : DSt} {d : D} {v : V} {t : String} (s : RS T K M st H) (r : RV K M H d v) (h : DL.tyN st d = some t) : TyX K H v (.type t) := by
  cases r with
  | non => cases h; exact .base .non
  | bl b => cases h; exact .base (.bl b)
  | int i => cases h; exact .base (.int i)
  | str x => cases h; exact .base (.str x)
  | tup n e d rs => cases h; exact .fTuple e
  | tuk n e rs => cases h; exact .base (.tup e)
  | lst n e rs => cases h; exact .base (.lst e)
  | scr n e rs =>
    cases h
    rcases e with e | ⟨o, e⟩
    · exact .base (.lst e)
    · exact .base (.frz e)
  | lsk e rs =>
    cases h
    rcases e (fun _ => none) with (z | ⟨o, z⟩) | ⟨o, its, n, h1, h2, _⟩
    · cases z
    · cases z
    · exact .kList h1 h2
  | ref hm =>
    obtain ⟨o, e1, ro⟩ := s.atM hm
    unfold DL.tyN at h
    simp only [e1] at h
    cases o with
    | lst zs => cases h; obtain ⟨ys, q, rs⟩ := ro; exact .base (.lst q)
    | dK zs => cases h; obtain ⟨ys, q, rs⟩ := ro; exact .base (.dK q)
    | dT zs => cases h; obtain ⟨ys, q, rs⟩ := ro; exact .base (.dT q)
def subTy (t u : String) : Bool := decide (t = u) || (decide (t = "bool") && decide (u = "int"))
def dIsi (u : String) (f : DTE) : DTE := fun r st Q => f r st fun x st1 => onO (DL.tyN st1 x) fun t => Q (.bl (subTy t u)) st1
end
theorem grow_ext {T : List (Addr × Str)} {K : Frag} {M : Pl} {st : DSt} {H H' : Hp} (s : RS T K M st H) (e : ExtN H H') : Grow M H M H' :=
  ⟨⟨[], (Pl.app_nil M).symm, fun _ h => nomatch h⟩, fun a o _ h t => e a o h t, fun a ⟨o, h, t⟩ => ⟨o, e a o h t, t⟩, fun a ha => by
    obtain ⟨xs, q⟩ := s.hid a ha
    rw [q]
    exact e a _ q (fun ps z => by cases z)⟩
theorem RS.ext {T : List (Addr × Str)} {K : Frag} {M : Pl} {st : DSt} {H H' : Hp} (s : RS T K M st H) (e : ExtN H H') (t : Tabs T H') : RS T K M st H' := by
  refine ⟨s.len, s.nd, fun n a o e1 e2 => ?_, t, s.hid.keep (grow_ext s e)⟩
  have ro := s.obj n a o e1 e2
  refine ro.stay (grow_ext s e) ?_
  rcases ro.mut with ⟨xs, q⟩ | ⟨xs, q⟩ | ⟨xs, q⟩ <;> (rw [q]; exact e _ _ q (fun ps z => by cases z))
theorem RS.same {T : List (Addr × Str)} {K : Frag} {M : Pl} {st : DSt} {H H' : Hp} (s : RS T K M st H) (e : Same H H') : RS T K M st H' := s.ext (ExtN.of e) (s.tabs.ext e)
section
variable {T : List (Addr × Str)} {X : Cx} {a b : Expr} {fa fb : DPE} {pos p : Pos}
end
end DL
namespace DL
open PySem PySem.Spec PyProof.Rows L2 LamX PySem.W SL
section
variable {T : List (Addr × Str)} {X : Cx} {a b c e : Expr} {es : List Expr} {fa fb fc f : DTE} {fs : DTA} {pos p : Pos} {K : Frag}
def dLtG : DR2 := fun x y st Q => match x, y with
  | .int i, .int j => Q (.bl (decide (i < j))) st
  | .tup xs, .tup ys => onO (intsD xs) fun ns => onO (intsD ys) fun ms => Q (.bl (HT.lexLt ns ms)) st
  | _, _ => False
def rLtG (K : Frag) : R2 := fun x y H Q => (rI0 fun i j => .bl (decide (i < j))) x y H Q ∨ rLtT K x y H Q
theorem op_ltG (hu : X.A.units < cLine) : OpR X (compareOp .Lt) (rLtG X.K) := OpR.or op_lt (op_ltT hu)
theorem opD_ltG : OpD T K (rLtG K) dLtG := by
  intro M H st x y vx vy Q' Q s rx ry h k
  unfold dLtG at h
  split at h
  · cases rx
    cases ry
    exact .inl ⟨_, _, rfl, rfl, k.here s (.bl _) h⟩
  · rename_i xs ys
    obtain ⟨ns, e1, h1⟩ := onO.of h
    obtain ⟨ms, e2, h2⟩ := onO.of h1
    have e1 := intsD_of e1
    have e2 := intsD_of e2
    subst e1
    subst e2
    cases rx with
    | tup n1 e1 d1 r1 =>
      cases ry with
      | tup n2 e2 d2 r2 =>
        have z1 := r1.ints
        have z2 := r2.ints
        subst z1
        subst z2
        exact .inr ⟨_, _, ns, ms, rfl, rfl, .inl (.inr ⟨_, e1⟩), .inl (.inr ⟨_, e2⟩), k.here s (.bl _) h2⟩
  · exact h.elim
def perm {α : Type} (ix : List Nat) (xs : List α) : List α := ix.filterMap (xs[·]?)
theorem RVs.perm {M : Pl} {H : Hp} {ds : List D} {vs : List V} (r : RVs K M H ds vs) : ∀ ix : List Nat, RVs K M H (DL.perm ix ds) (DL.perm ix vs)
  | [] => .nil
  | i :: ix => by
    unfold DL.perm
    rw [List.filterMap_cons, List.filterMap_cons]
    cases q : ds[i]? with
    | none =>
      have z : vs[i]? = none := by
        rw [List.getElem?_eq_none_iff] at q ⊢
        rw [← r.length]
        exact q
      rw [z]
      exact RVs.perm r ix
    | some d =>
      obtain ⟨v, e, rv⟩ := r.get q
      rw [e]
      exact .cons rv (RVs.perm r ix)
abbrev DKw (T : List (Addr × Str)) (X : Cx) (kws : List Keyword) (f : DTA) : Prop := PK X kws (liftA T X.K f)
theorem PK.imp {kws : List Keyword} {t t' : TA} (h : PK X kws t) (i : ∀ σ H Q, t' σ H Q → t σ H Q) : PK X kws t' := ⟨fun pos pins s σ H Q I z => h.run pos pins s σ H Q I (i σ H Q z)⟩
theorem dk_nil : DKw T X [] daNil := PK.imp pk_nil fun σ H Q ⟨M, ρ, st, Q', s, re, hf, k⟩ => k M H st [] [] (Grow.refl M H) s .nil hf
theorem dk_cons {nm : Option Str} {kpos : Pos} {kws : List Keyword} {g : DTA} (ha : DE T X e f) (hr : DKw T X kws g) : DKw T X (⟨nm, e, kpos⟩ :: kws) (daCons f g) :=
  PK.imp (pk_cons ha hr) fun σ H Q ⟨M, ρ, st, Q', s, re, hf, k⟩ =>
    ⟨M, ρ, st, _, s, re, hf, fun M1 H1 st1 x vx g1 s1 r1 h1 => ⟨M1, ρ, st1, _, s1, re.grow g1, h1, fun M2 H2 st2 ds vs g2 s2 r2 h2 => k M2 H2 st2 _ _ (g1.trans g2) s2 (.cons (r1.grow g2) r2) h2⟩⟩
end
end DL
namespace SL
open PySem PySem.Spec PyProof.Rows L2
section
open PySem.AutoSeq1 (wpAny_loadPart')
end
section
variable {prog : Program} {w : World} {A : Around} {E : Value → Shared → Prop} {s : Shared}
end
end SL
namespace DL
open PySem PySem.Spec PyProof.Rows L2 LamX PySem.W SL RZ
def enumD (xs : List D) : List D := xs.zipIdx.map fun p => D.tuk [.int (p.2 : Nat), p.1]
section
variable {T : List (Addr × Str)} {K : Frag} {M : Pl} {H : Hp} {st : DSt} {I : DIt} {a : Addr}
end
def itL (st : DSt) : D → Option DIt
  | .lst ds => some ⟨ds, none⟩
  | .scr ds => some ⟨ds, none⟩
  | .ref n => match st[n]? with | some (.lst ds) => some ⟨ds, some (n, ds)⟩ | _ => none
  | _ => none
def itT : D → Option DIt
  | .tup ds => some ⟨ds, none⟩
  | .tuk ds => some ⟨ds, none⟩
  | _ => none
section
variable {T : List (Addr × Str)} {K : Frag} {M : Pl} {H : Hp} {st : DSt}
end
def wEnum (fs : DTA) : DTI := fun r st R => fs r st fun ds st1 => on1 ds fun x => onO (itOf st1 x) fun I => R ⟨enumD I.items, I.src⟩ st1
def zipD (xs ys : List D) : List D := (xs.zip ys).map fun p => D.tuk [p.1, p.2]
def wZip (fs : DTA) : DTI := fun r st R => fs r st fun ds st1 => on2 ds fun x y => onO (itT x) fun I => onO (itT y) fun J => R ⟨zipD I.items J.items, none⟩ st1
section
variable {T : List (Addr × Str)} {X : Cx} {e e2 : Expr} {fs : DTA} {p pos tpos : Pos} {elts : List Expr} {kk : Nat}
end
end DL
namespace DL
open PySem PySem.Spec PyProof.Rows L2 LamX PySem.W SL
def compI (I : DIt) (g : DTG) (tt : DTT) (te : DTE) (r : DEnv) (Nx : List D → DSt → Prop) : List D → List D → DSt → Prop
  | [], acc, st => okI I st (Nx acc st)
  | d :: ds, acc, st => okI I st (g d r st fun r2 st2 => tt r2 st2 fun b st3 => if b = true then te r2 st3 fun y st4 => acc.length < sizeLine ∧ compI I g tt te r Nx ds (acc ++ [y]) st4 else compI I g tt te r Nx ds acc st3)
def comp2 (I : DIt) (g : DTG) (tt : DTT) (f1 : DTI) (g1 : DTG) (tt1 : DTT) (te : DTE) (r : DEnv) (vs1 : List Nat) (Q : List D → DSt → Prop) : List D → List D → DSt → Prop
  | [], acc, st => okI I st (Q acc st)
  | d :: ds, acc, st => okI I st (g d r st fun r2 st2 => tt r2 st2 fun b st3 => if b = true then f1 r2 st3 fun I1 st4 => compI I1 g1 tt1 te (wipeD r2 vs1) (comp2 I g tt f1 g1 tt1 te r vs1 Q ds) I1.items acc st4 else comp2 I g tt f1 g1 tt1 te r vs1 Q ds acc st3)
def dLc2G (f : DTI) (g : DTG) (tt : DTT) (f1 : DTI) (g1 : DTG) (tt1 : DTT) (te : DTE) (vs vs1 : List Nat) (fin : (D → DSt → Prop) → List D → DSt → Prop) : DTE := fun r st Q => f r st fun I st1 => comp2 I g tt f1 g1 tt1 te (wipeD r vs) vs1 (fin Q) I.items [] st1
def Mk (T : List (Addr × Str)) (K : Frag) (M1 : Pl) (H1 : Hp) (p : Addr) (N : Pl) (acc : List D) (st : DSt) (H : Hp) : Prop := Grow M1 H1 N H ∧ RS T K (N.hide p) st H ∧ ∃ xs, H p = some (.lst xs) ∧ RVs K (N.hide p) H acc xs
theorem Mk.go {T : List (Addr × Str)} {K : Frag} {M1 N : Pl} {H1 H H2 : Hp} {st1 st st2 : DSt} {p : Addr} {acc : List D} {M2 : Pl} (m : Mk T K M1 H1 p N acc st H) (s1 : RS T K M1 st1 H1) (np : H1 p = none) (g : Grow (N.hide p) H M2 H2) (s2 : RS T K M2 st2 H2) :
    ∃ N2, M2 = N2.hide p ∧ Mk T K M1 H1 p N2 acc st2 H2 ∧ Later (N.hide p) H (N2.hide p) H2 := by
  obtain ⟨gr, s, xs, hp, rs⟩ := m
  obtain ⟨N2, rfl⟩ := grow_hide g
  have hp2 : H2 p = some (.lst xs) := (g.hid p hidden_at).trans hp
  refine ⟨N2, rfl, ⟨?_, s2, xs, hp2, rs.grow g⟩, g.later⟩
  have z := gr.step (o := .lst xs) s1 np g
  rw [upd_self hp2] at z
  exact z
theorem Mk.push {T : List (Addr × Str)} {K : Frag} {M1 N : Pl} {H1 H : Hp} {st1 st : DSt} {p : Addr} {acc : List D} {y : D} {v : V} (m : Mk T K M1 H1 p N acc st H) (s1 : RS T K M1 st1 H1) (np : H1 p = none) (rv : RV K (N.hide p) H y v) :
    ∃ xs, H p = some (.lst xs) ∧ xs.length = acc.length ∧ Mk T K M1 H1 p N (acc ++ [y]) st (upd H p (.lst (xs ++ [v]))) ∧ Later (N.hide p) H (N.hide p) (upd H p (.lst (xs ++ [v]))) := by
  obtain ⟨gr, s, xs, hp, rs⟩ := m
  obtain ⟨s2, l⟩ := s.push (ys := xs ++ [v]) hp
  exact ⟨xs, hp, rs.length.symm, ⟨gr.step s1 np (Grow.refl _ _), s2, xs ++ [v], upd_same, (rs.later l).append (.cons (rv.later l) .nil)⟩, l⟩
theorem drop_cons {α : Type} {l ds : List α} {d : α} {i : Nat} (e : l.drop i = d :: ds) : l[i]? = some d ∧ i < l.length ∧ l.drop (i + 1) = ds := by
  have z : (l.drop i)[0]? = some d := by rw [e]; rfl
  rw [List.getElem?_drop, Nat.add_zero] at z
  refine ⟨z, (List.getElem?_eq_some_iff.mp z).1, ?_⟩
  have z : (l.drop i).drop 1 = ds := by rw [e]; rfl
  rw [List.drop_drop] at z
  exact z
theorem lift_lc2 {T : List (Addr × Str)} {K : Frag} {f f1 : DTI} {g g1 : DTG} {tt tt1 : DTT} {te : DTE} {vs vs1 : List Nat} {fin : (D → DSt → Prop) → List D → DSt → Prop} (fo : FinOk T K fin) {σ : L2.St} {H : Hp} {Q : VK} (h : lift T K (dLc2G f g tt f1 g1 tt1 te vs vs1 fin) σ H Q) :
    tLc2 (liftI T K f) (liftG T K vs g) (liftT T K tt) (liftI T K f1) (liftG T K vs1 g1) (liftT T K tt1) (lift T K te) vs vs1 σ H Q := by
  obtain ⟨M, r, st, Q', s, re, h, k⟩ := h
  refine ⟨M, r, st, _, s, re, h, fun M1 H1 st1 J I gr1 s1 q it p np => ?_⟩
  refine ⟨fun i m H' => ∃ (N : Pl) (acc : List D) (st' : DSt), Mk T K M1 H1 p N acc st' H' ∧ i ≤ I.items.length ∧ m = I.items.length - i ∧ comp2 I g tt f1 g1 tt1 te (wipeD r vs) vs1 (fin Q') (I.items.drop i) acc st', ⟨I.items.length, M1, [], st1, ⟨Grow.new s1.hid np, s1.hide np, [], upd_same, .nil⟩, Nat.zero_le _, rfl, q⟩, fun i m H' w => ?_⟩
  obtain ⟨N, acc, st', mk, le, rfl, cl⟩ := w
  have lat := mk.1.lateHide np
  have reN : RE K (N.hide p) H' (wipeD r vs) (L2.wipe σ vs) := ((re.grow gr1).wipe vs).later lat
  cases e : I.items.drop i with
  | nil =>
    rw [e] at cl
    obtain ⟨ok, q⟩ := okI.of cl
    have ei : i = I.items.length := by
      have := List.drop_eq_nil_iff.mp e
      omega
    obtain ⟨gr, s', xs, hp, rs⟩ := mk
    exact .inl ⟨by rw [ei]; exact it.stop _ H' st' lat s' ok, fo M1 N H1 H' st' p acc xs Q' Q np gr s' hp rs (k.grow gr1) q⟩
  | cons d ds =>
    rw [e] at cl
    obtain ⟨ok, q⟩ := okI.of cl
    obtain ⟨at_, lt, ds_⟩ := drop_cons e
    obtain ⟨go, yl⟩ := it.go _ H' st' lat mk.2.1 ok i d at_
    refine .inr ⟨go, fun H2 => ∃ (N2 : Pl) (acc2 : List D) (st2 : DSt), Mk T K M1 H1 p N2 acc2 st2 H2 ∧ comp2 I g tt f1 g1 tt1 te (wipeD r vs) vs1 (fin Q') ds acc2 st2,
      fun H2 ⟨N2, acc2, st2, a1, a2⟩ => ⟨I.items.length - (i + 1), by omega, N2, acc2, st2, a1, lt, rfl, by rw [ds_]; exact a2⟩, fun x H2 y => ?_⟩
    obtain ⟨g2, s2, r2⟩ := yl x H2 y
    refine ⟨_, wipeD r vs, st', d, _, s2, reN.grow g2, r2, q, fun M3 H3 σ3 r3 st3 g3 s3 re3 w3 q3 => ⟨w3.trans (wipe_wipe σ vs), M3, r3, st3, _, s3, re3, q3, fun M4 H4 st4 b g4 s4 q4 => ?_⟩⟩
    have g24 := (g2.trans g3).trans g4
    have re4 := re3.grow g4
    cases b with
    | false =>
      rw [if_neg (by decide)] at q4
      refine iteF ?_
      obtain ⟨N4, rfl, mk4, _⟩ := mk.go s1 np g24 s4
      exact ⟨N4, acc, st4, mk4, q4⟩
    | true =>
      rw [if_pos rfl] at q4
      refine iteT ?_
      refine ⟨M4, r3, st4, _, s4, re4, q4, fun M5 H5 st5 J1 I1 g5 s5 q5 it1 => ?_⟩
      obtain ⟨N5, rfl, mk5, _⟩ := mk.go s1 np (g24.trans g5) s5
      have re5 := (re4.grow g5).wipe vs1
      refine ⟨fun j kk G => ∃ (N6 : Pl) (acc6 : List D) (st6 : DSt), Mk T K M1 H1 p N6 acc6 st6 G ∧ Later (N5.hide p) H5 (N6.hide p) G ∧ (∀ a, NT H5 a → NT G a) ∧ j ≤ I1.items.length ∧ kk = I1.items.length - j ∧ compI I1 g1 tt1 te (wipeD r3 vs1) (comp2 I g tt f1 g1 tt1 te (wipeD r vs) vs1 (fin Q') ds) (I1.items.drop j) acc6 st6,
        ⟨I1.items.length, N5, acc, st5, mk5, Later.refl _ _, fun _ h => h, Nat.zero_le _, rfl, q5⟩, fun j kk G w => ?_⟩
      obtain ⟨N6, acc6, st6, mk6, l6, nt6, le6, rfl, cl6⟩ := w
      have re6 : RE K (N6.hide p) G (wipeD r3 vs1) (L2.wipe σ3 vs1) := re5.later l6
      cases e6 : I1.items.drop j with
      | nil =>
        rw [e6] at cl6
        obtain ⟨ok6, q6⟩ := okI.of cl6
        have ej : j = I1.items.length := by
          have := List.drop_eq_nil_iff.mp e6
          omega
        exact .inl ⟨by rw [ej]; exact it1.stop _ G st6 l6 mk6.2.1 ok6, N6, acc6, st6, mk6, q6⟩
      | cons d1 ds1 =>
        rw [e6] at cl6
        obtain ⟨ok6, q6⟩ := okI.of cl6
        obtain ⟨at6, lt6, ds6⟩ := drop_cons e6
        obtain ⟨go6, yl6⟩ := it1.go _ G st6 l6 mk6.2.1 ok6 j d1 at6
        refine .inr ⟨go6, fun G2 => ∃ (N7 : Pl) (acc7 : List D) (st7 : DSt), Mk T K M1 H1 p N7 acc7 st7 G2 ∧ Later (N5.hide p) H5 (N7.hide p) G2 ∧ (∀ a, NT H5 a → NT G2 a) ∧ compI I1 g1 tt1 te (wipeD r3 vs1) (comp2 I g tt f1 g1 tt1 te (wipeD r vs) vs1 (fin Q') ds) ds1 acc7 st7,
          fun G2 ⟨N7, acc7, st7, a1, a2, a3, a4⟩ => ⟨I1.items.length - (j + 1), by omega, N7, acc7, st7, a1, a2, a3, lt6, rfl, by rw [ds6]; exact a4⟩, fun x1 G2 y1 => ?_⟩
        obtain ⟨g7, s7, r7⟩ := yl6 x1 G2 y1
        refine ⟨_, wipeD r3 vs1, st6, d1, _, s7, re6.grow g7, r7, q6, fun M8 H8 σ8 r8 st8 g8 s8 re8 w8 q8 => ⟨w8.trans (wipe_wipe σ3 vs1), M8, r8, st8, _, s8, re8, q8, fun M9 H9 st9 b9 g9 s9 q9 => ?_⟩⟩
        have g79 := (g7.trans g8).trans g9
        cases b9 with
        | false =>
          rw [if_neg (by decide)] at q9
          refine iteF ?_
          obtain ⟨N9, rfl, mk9, l9⟩ := mk6.go s1 np g79 s9
          exact ⟨N9, acc6, st9, mk9, l6.trans l9 nt6, fun a h => g79.there a (nt6 a h), q9⟩
        | true =>
          rw [if_pos rfl] at q9
          refine iteT ?_
          refine ⟨M9, r8, st9, _, s9, re8.grow g9, q9, fun Ma Ha sta z vz ga sa ra qa => ?_⟩
          have g7a := g79.trans ga
          obtain ⟨Na, rfl, mka, la⟩ := mk6.go s1 np g7a sa
          obtain ⟨xs, hp, lx, mkb, lb⟩ := mka.push s1 np ra
          have nta : ∀ a, NT H5 a → NT Ha a := fun a h => g7a.there a (nt6 a h)
          refine ⟨xs, hp, by rw [lx]; exact qa.1, Na, acc6 ++ [z], sta, mkb, (l6.trans la nt6).trans lb nta, fun a h => ?_, qa.2⟩
          by_cases zz : a = p
          · rw [zz]; exact ⟨_, upd_same, fun ps w => by cases w⟩
          · exact (nta a h).upd zz
section
variable {T : List (Addr × Str)} {X : Cx} {elt tg iter tg1 iter1 : Expr} {ifs ifs1 : List Expr} {scope : Scope} {own : List (Str × Nat)} {vs1 : List Nat} {pos : Pos} {f f1 : DTI} {g g1 : DTG} {tt tt1 : DTT} {te : DTE}
theorem de_lc2G {fin : (D → DSt → Prop) → List D → DSt → Prop} (fo : FinOk T X.K fin) (hc : X.calm = true) (hN : X.N.Nodup) (hi : DI T X tg iter f) (ok : BlkOk X.N X.env.scope scope own) (hv : ∀ i ∈ vs1, i ∈ own.map (·.2))
    (hg : ∀ (s : Shared) (H : Hp) (C : Addr) (cl : List (Str × Addr)) (fp : List Addr), DG T (X.blk s H scope (compEnvC scope cl C X.env) fp) (own.map (·.2)) tg g) (ht : ∀ (s : Shared) (H : Hp) (C : Addr) (cl : List (Str × Addr)) (fp : List Addr), DTs T (X.blk s H scope (compEnvC scope cl C X.env) fp) ifs tt)
    (hi1 : ∀ (s : Shared) (H : Hp) (C : Addr) (cl : List (Str × Addr)) (fp : List Addr), DI T (X.blk s H scope (compEnvC scope cl C X.env) fp) tg1 iter1 f1)
    (hg1 : ∀ (s : Shared) (H : Hp) (C : Addr) (cl : List (Str × Addr)) (fp : List Addr), DG T (X.blk s H scope (compEnvC scope cl C X.env) fp) vs1 tg1 g1) (ht1 : ∀ (s : Shared) (H : Hp) (C : Addr) (cl : List (Str × Addr)) (fp : List Addr), DTs T (X.blk s H scope (compEnvC scope cl C X.env) fp) ifs1 tt1)
    (he : ∀ (s : Shared) (H : Hp) (C : Addr) (cl : List (Str × Addr)) (fp : List Addr), DE T (X.blk s H scope (compEnvC scope cl C X.env) fp) elt te) (hs : ∀ x, foldedSetIterable iter X.env x = pure x := by intro _; rfl) (hs1 : ∀ (env : Env) x, foldedSetIterable iter1 env x = pure x := by intro _ _; rfl) :
    DE T X (.ListComp elt [⟨tg, iter, ifs, 0⟩, ⟨tg1, iter1, ifs1, 0⟩] scope pos) (dLc2G f g tt f1 g1 tt1 te (own.map (·.2)) vs1 fin) :=
  PE.imp (pe_lc2 hc hN hi ok hv hg ht hi1 hg1 ht1 he hs hs1) fun _ _ _ h => lift_lc2 fo h
end
end DL
namespace DL
open PySem PySem.Spec PyProof.Rows L2 LamX PySem.W SL
section
variable {P : Program} {w : World} {K : Frag} {mg : Str → Option Value} {base : Heap} {T : List (Addr × Str)}
theorem fnG_code {x qual : Str} {st : Stmt} {f : Addr} {fd : FuncData} {N ps : List Str} {k : Nat} {sp : Sp}
    (F : Fun K x qual st f fd) (sc : FnScope N ps (defScope st)) (size : ∀ vs H Q E, sp vs H Q E → vs.length = ps.length)
    (body : ∀ (A : Around) (outer : List Env) (s : Shared) (H : Hp) (vs : List V) (Q : VK) (E : XK),
      A.guards = some [] → Room k (A.deeper (envOfC qual (defScope st) s.heap.objs.size f fd.code)) → sp vs H Q E →
      ∃ t, PSs (cxOf CX0 P w K mg base N qual (defScope st) f fd.code A outer s H E).nox (defBody st) t ∧
        t { nx := fun _ H' => Q .non H', rt := Q } (start N vs) H) : FnG P w K mg base (k + 1) f fd ps sp := by
  obtain ⟨oc, od, kV, doc, pm, an, cdv, ct, osl, rfl, look, code⟩ := F.ex
  constructor
  · exact size
  · intro A outer s H args us vs Q E hgd room env bound rel prom
    have many := size _ _ _ _ prom
    have inK : K.In s.heap := env.mod.kin.keeps fun b o q => (env.bs b o q).1
    have free : s.heap.NoLimit := env.mod.nolimit.keeps fun b o q => (env.bs b o q).1
    refine codeAny_call_function room.depth (inK _ _ look) rfl sc.co sc.gen rfl (PySem.W.codeRec_of inK code)
      (bound _ _ _ _ ?_)
    refine wpAny_newFunctionEnv_cells sc.kind ?kinds fun env' same s1 fresh => ?_
    case kinds =>
      rintro ⟨n, v⟩ here
      rcases sc.par n (List.of_mem_zip here).1 with q | q
      · exact Or.inl q
      · exact Or.inr ⟨q, PySem.W.cellsFrom_some _ _ _ (Or.inl q)⟩
    subst same
    refine ⟨free.keeps fresh.toInCall.keep, codeAny_func ?_⟩
    obtain ⟨t, der, reading⟩ := body A outer s H vs Q E hgd (room.deeper _) prom
    have I := inv_start (CX := CX0) (E := E) sc room.hd env many rel fresh
    refine wpAny_mono (der.nox.run [] s1 (start N vs) H _ I reading) (fun fl s' e => ?_) fun _ _ e => e
    cases fl with
    | ret u => obtain ⟨v, σ', H', J, r', q⟩ := e; exact ⟨v, H', J.os, J.bare, J.base, J.hok, r', q⟩
    | next => obtain ⟨σ', H', J, q⟩ := e; exact ⟨.non, H', J.os, J.bare, J.base, J.hok, rfl, q⟩
    | brk => obtain ⟨_, _, _, q⟩ := e; exact False.elim q
    | cont => obtain ⟨_, _, _, q⟩ := e; exact False.elim q
theorem fnD_code {x qual : Str} {st : Stmt} {f : Addr} {fd : FuncData} {N ps : List Str} {k : Nat} {g : DRs} {F' : DTS} (F : Fun K x qual st f fd) (sc : FnScope N ps (defScope st)) (ar : ∀ ds st Q, g ds st Q → ds.length = ps.length)
    (body : ∀ (A : Around) (outer : List Env) (s : Shared) (H : Hp) (E : XK), A.guards = some [] → Room k (A.deeper (envOfC qual (defScope st) s.heap.objs.size f fd.code)) → DSs T (cxOf CX0 P w K mg base N qual (defScope st) f fd.code A outer s H E).nox (defBody st) F')
    (sem : ∀ ds st Q, g ds st Q → F' { nx := fun _ st' => Rt st Q .non st', rt := Rt st Q } (startD N.length ds) st) : FnD P w K mg base T (k + 1) f fd ps g := by
  refine ⟨fnG_code F sc (fun vs H Q E h => h.1) (fun A outer s H vs Q E gd room h => ⟨_, body A outer s H E gd room, ?_⟩), ar⟩
  obtain ⟨_, M, st', ds, Q', rs, rv, hg, kn⟩ := h
  refine ⟨M, startD N.length ds, st', _, rs, RE.start rv N, sem ds st' Q' hg, ?_⟩
  exact ⟨fun M1 H1 σ1 r1 st1 g1 s1 re1 q => Rt.sound q rs kn g1 s1 .non, fun M1 H1 st1 d v g1 s1 r1 q => Rt.sound q rs kn g1 s1 r1, fun _ _ _ _ _ _ _ _ q => q.elim, fun _ _ _ _ _ _ _ _ q => q.elim⟩
theorem _root_.L2.Fun.bindsK {x qual : Str} {st : Stmt} {f : Addr} {fd : FuncData} {s : Shared} {args : Args} {bs : List (Str × Value)} (F : Fun K x qual st f fd)
    (h : ∀ (kV doc pm : Value) (an : Option Addr) (cdv ct : Value), bindArgs (PySem.W.fnOf x qual (defArgs st) (defBody st) (defScope st) .none kV doc pm an cdv ct) args = pure bs) : BindsTo s fd args bs := by
  obtain ⟨oc, od, kV, doc, pm, an, cdv, ct, osl, rfl, lk, hcd⟩ := F.ex
  exact .of_eq (h kV doc pm an cdv ct)
theorem _root_.L2.Fun.one {x qual x' qual' : Str} {st st' : Stmt} {f : Addr} {fd fd' : FuncData} (F : Fun K x qual st f fd) (G : Fun K x' qual' st' f fd') : fd = fd' := by
  obtain ⟨_, _, _, _, _, _, _, _, _, _, l1, _⟩ := F.ex
  obtain ⟨_, _, _, _, _, _, _, _, _, _, l2, _⟩ := G.ex
  rw [l1] at l2
  cases l2
  rfl
def Scr (ns : List Int) (x : D) : Prop := x = .scr (ns.map D.int)
theorem Scr.seq {ns : List Int} {x : D} (h : Scr ns x) (st : DSt) : seqS st x = some (ns.map D.int) := by rw [show x = _ from h]; rfl
theorem law_start {cs : List (Addr × Addr)} {H : Hp} {a : Addr} {ns : List Int} {g : DRs} (hT : ∀ p ∈ T, ∃ q ∈ cs, q.2 = p.1) (em : ∀ p ∈ cs, H p.2 = some (.tbl #[])) (hS : SqL K H a (ns.map V.int)) (h : ∀ x, Scr ns x → g [x] [] fun d _ => d = .bl true) :
    spD T K 1 g [.ref a] H (fun v _ => v = .bl true) E0 := by
  obtain ⟨x, hx, rx⟩ : ∃ x, Scr ns x ∧ RV K ⟨0, []⟩ H x (.ref a) := by
    rcases hS with hS | hS
    · exact ⟨_, rfl, .scr (by simp) hS (RVs.of_ints ns)⟩
    · exact ⟨_, rfl, .lsk (fun G => .inr hS) (RVs.of_ints ns)⟩
  refine ⟨rfl, ⟨0, []⟩, [], [x], _, ⟨rfl, List.nodup_nil, fun n a o e => by simp [Pl.at_] at e, fun p hp => ?_, fun a ha => by simp at ha⟩, .cons rx .nil, h x hx, fun M' H' st' d v g s r q => ?_⟩
  · obtain ⟨q, hq, e⟩ := hT p hp
    have z := TabS.nil (q := p.2) (em q hq)
    rw [e] at z
    exact z
  · subst q
    cases r
    rfl
end
end DL
namespace DL
open PySem PySem.Spec PyProof.Rows L2 LamX PySem.W SL
section
variable {T : List (Addr × Str)} {X : Cx} {a b c e : Expr} {es : List Expr} {fa fb fc f : DTE} {fs : DTA} {pos p : Pos} {K : Frag}
def dIsB : DR2 := fun x y st Q => onB x fun a => onB y fun b => Q (.bl (decide (a = b))) st
def dNotB : DR2 := fun x y st Q => onB x fun a => onB y fun b => Q (.bl (!decide (a = b))) st
def truD (st : DSt) : D → Option Bool
  | .bl b => some b
  | .non => some false
  | .int i => some (i != 0)
  | .tup xs => some (!xs.isEmpty)
  | .tuk xs => some (!xs.isEmpty)
  | .lst xs => some (!xs.isEmpty)
  | .scr xs => some (!xs.isEmpty)
  | .ref n => match st[n]? with | some (.lst xs) => some (!xs.isEmpty) | some (.dK kvs) => some (!kvs.isEmpty) | _ => none
  | _ => none
def dTruth (f : DTE) : DTT := fun r st Q => f r st fun x st1 => onO (truD st1 x) fun c => Q c st1
end
end DL
namespace DL
open PySem PySem.Spec PyProof.Rows L2 LamX PySem.W SL
section
variable {prog : Program} {w : World} {A : Around} {E : Value → Shared → Prop} {s : Shared} {l : Addr} {its : List Value} {ns : List Int} {Q : Value → Shared → Prop}
theorem tup_fp {vs : Array Value} (hl : s.heap.IsTuple l vs) (o : Obj) : l < s.heap.objs.size ∧ ∀ b ∈ [s.heap.objs.size, l], b < (s.heap.push o).objs.size := by
  have hlt : l < s.heap.objs.size := by obtain ⟨_, e, _⟩ := hl; exact Heap.lt_size e
  refine ⟨hlt, fun b hb => ?_⟩
  rw [Heap.size_push]
  rcases List.mem_cons.mp hb with rfl | hb
  · exact Nat.lt_succ_self _
  · rcases List.mem_cons.mp hb with rfl | hb
    · exact Nat.lt_succ_of_lt hlt
    · cases hb
theorem old_keptT {o : Obj} {h' : Heap} (hk : ∀ b u, b ∉ [s.heap.objs.size] → (s.heap.push o).get? b = some u → h'.get? b = some u) : ∀ b u, s.heap.get? b = some u → h'.get? b = some u := fun b u e =>
  hk b u (fun z => by rw [List.mem_singleton] at z; subst z; exact Nat.lt_irrefl _ (Heap.lt_size e)) (Heap.get?_push_of_some _ e)
theorem sum_rawT (hh : A.handled = none) (hl : s.heap.IsTuple l its.toArray) (hi : IntsAre its ns)
    (h : ∀ h' tk t', (∀ b o, s.heap.get? b = some o → h'.get? b = some o) → Q (.int ns.sum t') { s with heap := h', toks := tk }) : wpAny (model prog w) A (call (.builtin "sum") [.ref l]) Q E s := by
  obtain ⟨xs, e⟩ := hi.allInts.items
  have hn : numsOf (intItems xs).toList = ns := by rw [← e]; exact hi.numsOf
  rw [nums_intItems] at hn
  rw [e] at hl
  obtain ⟨hlt, fp⟩ := tup_fp hl { cls := .type "tuple_iterator", data := .fields #[.ref l, .int 0 0] }
  refine call_sum_walkG (wpAny_pyIter_tuple hl ?_)
  refine ⟨s.heap.objs.size, [s.heap.objs.size, l], [s.heap.objs.size], _, _, _, numAt xs, rfl, Walks.tuple (A := A.in1) hh _ l (Nat.ne_of_lt hlt) (intItems xs), ⟨⟨_, Heap.get?_push_size _ rfl, rfl, rfl⟩, hl.push _⟩, fp, fun _ _ => intItems_at, fun h' tk t' hk => ?_⟩
  have := h h' tk t' (old_keptT hk)
  have e2 : (intItems xs).size = xs.size := by simp [intItems]
  rw [e2, preSum_eq, List.take_of_length_le (by simp), hn]
  exact this
theorem max_rawT (hh : A.handled = none) (hl : s.heap.IsTuple l its.toArray) (hi : IntsAre its ns) (hne : 0 < ns.length)
    (h : ∀ h' tk M t', (∀ b o, s.heap.get? b = some o → h'.get? b = some o) → M ∈ ns → (∀ a, a ∈ ns → a ≤ M) → Q (.int M t') { s with heap := h', toks := tk }) : wpAny (model prog w) A (call (.builtin "max") [.ref l]) Q E s := by
  obtain ⟨xs, e⟩ := hi.allInts.items
  have hn : numsOf (intItems xs).toList = ns := by rw [← e]; exact hi.numsOf
  rw [nums_intItems] at hn
  subst hn
  rw [e] at hl
  have hsz : 0 < xs.size := by simpa using hne
  obtain ⟨hlt, fp⟩ := tup_fp hl { cls := .type "tuple_iterator", data := .fields #[.ref l, .int 0 0] }
  refine call_max_walk (wpAny_pyIter_tuple hl ?_)
  refine ⟨s.heap.objs.size, [s.heap.objs.size, l], [s.heap.objs.size], _, _, _, _, rfl, Walks.tuple (A := A.in1) hh _ l (Nat.ne_of_lt hlt) (intItems xs), ⟨⟨_, Heap.get?_push_size _ rfl, rfl, rfl⟩, hl.push _⟩, fp, by simpa [intItems] using hsz, CmpOf.ints_gt (numAt xs) (fun _ _ => intItems_at), fun v h' tk hv hk => ?_⟩
  have hv' : (intItems xs)[argBest (fun i j => decide (numAt xs i > numAt xs j)) (xs.size - 1)]? = some v := by simpa [intItems] using hv
  obtain ⟨t, rfl⟩ := intItems_at hv'
  obtain ⟨h1, h2⟩ := argBest_gt (numAt xs) (xs.size - 1)
  refine h h' tk _ t (old_keptT hk) ?_ fun a ha => ?_
  · rw [numAt_eq]; exact PySem.getD_mem (by rw [List.length_map, Array.length_toList]; omega)
  · obtain ⟨j, hj, rfl⟩ := mem_getD ha
    rw [List.length_map, Array.length_toList] at hj
    rw [← numAt_eq]; exact h2 j (by omega)
end
section
variable {X : Cx} {T : List (Addr × Str)} {K : Frag}
def rSum2 (K : Frag) : List V → Hp → VK → Prop := fun vs H Q => ∃ (a : Addr) (ns : List Int), vs = [V.ref a] ∧ (SqL K H a (ns.map V.int) ∨ SqT K H a (ns.map V.int)) ∧ Q (.int ns.sum) H
theorem cr_sum2 (hc : X.calm = true) : CallR X (.builtin "sum") (rSum2 X.K) := by
  intro pins s σ H vs us Q I r h
  obtain ⟨a, ns, rfl, hs, q⟩ := h
  rw [Vals.ref1 r]
  rcases hs with hs | hs
  · obtain ⟨its, rv, hl, _⟩ := I.list hs
    exact sum_raw (I.ok.hd hc) hl.isList rv.ints fun h' tk t' hk => ⟨.int _, H, I.kept hk, ⟨_, rfl⟩, q⟩
  · obtain ⟨its, rv, hl, _⟩ := I.tuple hs
    exact sum_rawT (I.ok.hd hc) hl rv.ints fun h' tk t' hk => ⟨.int _, H, I.kept hk, ⟨_, rfl⟩, q⟩
def rMax2' (K : Frag) : List V → Hp → VK → Prop := fun vs H Q => ∃ (a : Addr) (ns : List Int), vs = [V.ref a] ∧ (SqL K H a (ns.map V.int) ∨ SqT K H a (ns.map V.int)) ∧ 0 < ns.length ∧ ∀ m, m ∈ ns → (∀ y, y ∈ ns → y ≤ m) → Q (.int m) H
theorem cr_max2' (hc : X.calm = true) : CallR X (.builtin "max") (rMax2' X.K) := by
  intro pins s σ H vs us Q I r h
  obtain ⟨a, ns, rfl, hs, hne, q⟩ := h
  rw [Vals.ref1 r]
  rcases hs with hs | hs
  · obtain ⟨its, rv, hl, _⟩ := I.list hs
    exact max_raw (I.ok.hd hc) hl.isList rv.ints hne fun h' tk m t' hk h1 h2 => ⟨.int _, H, I.kept hk, ⟨_, rfl⟩, q m h1 h2⟩
  · obtain ⟨its, rv, hl, _⟩ := I.tuple hs
    exact max_rawT (I.ok.hd hc) hl rv.ints hne fun h' tk m t' hk h1 h2 => ⟨.int _, H, I.kept hk, ⟨_, rfl⟩, q m h1 h2⟩
def onNs (st : DSt) (x : D) (k : List Int → Prop) : Prop := onO (seqS st x) fun xs => onO (intsD xs) k
theorem onNs.of {st : DSt} {x : D} {k : List Int → Prop} (h : onNs st x k) : ∃ ns, seqS st x = some (ns.map D.int) ∧ k ns := by
  obtain ⟨xs, e, h⟩ := onO.of h
  obtain ⟨ns, e2, h⟩ := onO.of h
  exact ⟨ns, by rw [e, intsD_of e2], h⟩
def dSum : DRs := fun ds st Q => on1 ds fun x => onNs st x fun ns => Q (.int ns.sum) st
theorem callD_sum : CallD T K (rSum2 K) dSum := by
  intro M H st ds vs Q' Q s r h k
  obtain ⟨x, rfl, h⟩ := on1.of h
  obtain ⟨ns, e, h⟩ := onNs.of h
  obtain ⟨v, rfl, rv⟩ := r.one
  obtain ⟨p, ys, rfl, sq, rs⟩ := seqS.rd s rv e
  have z := rs.ints
  subst z
  exact ⟨p, ns, rfl, sq, k.here s (.int _) h⟩
def dMaxL : DRs := fun ds st Q => on1 ds fun x => onNs st x fun ns => 0 < ns.length ∧ ∀ m, m ∈ ns → (∀ y, y ∈ ns → y ≤ m) → Q (.int m) st
def dMinL : DRs := fun ds st Q => on1 ds fun x => onNs st x fun ns => 0 < ns.length ∧ ∀ m, m ∈ ns → (∀ y, y ∈ ns → m ≤ y) → Q (.int m) st
def dInt : DRs := fun ds st Q => on1 ds fun x => match x with
  | .int i => Q (.int i) st
  | .bl b => Q (.int (if b then 1 else 0)) st
  | _ => False
end
end DL
namespace DL
open PySem PySem.Spec PyProof.Rows L2 LamX PySem.W SL
theorem ints_reads {h : Heap} : ∀ {its : List Value} {ns : List Int}, IntsAre its ns → ∃ as, ReadsAll h its (ns.map PyData.int) as
  | _, _, .nil => ⟨_, .nil⟩
  | _, _, .cons n t r => by
    obtain ⟨as, e⟩ := ints_reads (h := h) r
    exact ⟨_, .cons (.int n t) e⟩
theorem ints_alike (ns : List Int) : AlikeAll (ns.map PyData.int) := by
  refine ⟨fun x hx y hy => ?_, fun x hx => ?_⟩
  · obtain ⟨a, _, rfl⟩ := List.mem_map.mp hx
    obtain ⟨b, _, rfl⟩ := List.mem_map.mp hy
    rfl
  · obtain ⟨a, _, rfl⟩ := List.mem_map.mp hx
    intro z
    cases z
theorem ints_depth : ∀ ns : List Int, PyData.depthAll (ns.map PyData.int) = 0
  | [] => by simp [PyData.depthAll]
  | n :: ns => by simp [PyData.depthAll, PyData.depth, ints_depth ns]
theorem fmax_spec : ∀ (ns : List Int) (n : Int), (ns.foldl max n ∈ n :: ns) ∧ ∀ y ∈ n :: ns, y ≤ ns.foldl max n
  | [], n => ⟨by simp, by simp⟩
  | k :: r, n => by
    obtain ⟨h1, h2⟩ := fmax_spec r (max n k)
    rw [List.foldl_cons]
    constructor
    · rcases List.mem_cons.mp h1 with z | z
      · rw [z]
        rcases Int.le_total n k with w | w
        · rw [Int.max_eq_right w]; simp
        · rw [Int.max_eq_left w]; simp
      · exact List.mem_cons_of_mem _ (List.mem_cons_of_mem _ z)
    · intro y hy
      have m := h2 (max n k) List.mem_cons_self
      rcases List.mem_cons.mp hy with z | z
      · subst z; exact Int.le_trans (Int.le_max_left _ _) m
      · rcases List.mem_cons.mp z with z | z
        · subst z; exact Int.le_trans (Int.le_max_right _ _) m
        · exact h2 y (List.mem_cons_of_mem _ z)
section
variable {X : Cx} {T : List (Addr × Str)} {K : Frag}
def rMaxDef (K : Frag) : List V → List V → Hp → VK → Prop := fun vs zs H Q => ∃ (a : Addr) (ns : List Int) (d : V), vs = [V.ref a] ∧ zs = [d] ∧ (SqL K H a (ns.map V.int) ∨ SqT K H a (ns.map V.int)) ∧
  (ns = [] → Q d H) ∧ ∀ m, m ∈ ns → (∀ y, y ∈ ns → y ≤ m) → Q (.int m) H
theorem cr_maxDef (hu : X.A.units + 1 < cLine) (hc : X.calm = true) : CallRK X (.builtin "max") ["default"] (rMaxDef X.K) := by
  intro pins s σ H vs zs us ws Q I r r2 h
  obtain ⟨a, ns, d, rfl, rfl, hs, q0, q1⟩ := h
  rw [Vals.ref1 r]
  obtain ⟨u, rfl, ru⟩ := r2.one
  show wpAny _ _ (call (.builtin "max") [.ref a] [(Str.ofString "default", u)]) _ _ _
  have fin : ∀ (its : List Value), Vals (ns.map V.int) its → ∀ (y : PyData) (ys : List PyData) (i : Nat) (v : Value) (h' : Heap) (tk : Tok) (bs : List Addr), ns.map PyData.int = y :: ys → its.toArray[i]? = some v → Reads h' v (maxD y ys) bs →
      (∀ b o, s.heap.get? b = some o → h'.get? b = some o) → EP X pins σ Q v { s with heap := h', toks := tk } := by
    intro its rv y ys i v h' tk bs e hv rd hk
    cases ns with
    | nil => cases e
    | cons n ns =>
      cases e
      rw [maxD_ints] at rd
      cases rd
      obtain ⟨m1, m2⟩ := fmax_spec ns n
      exact ⟨.int _, H, I.kept hk, ⟨_, rfl⟩, q1 _ m1 m2⟩
  rcases hs with hs | hs
  · obtain ⟨its, rv, hl, _⟩ := I.list hs
    obtain ⟨as, rd⟩ := ints_reads (h := s.heap) rv.ints
    refine max_list_default (I.ok.hd hc) hl.isList (by simpa using rd) (ints_alike ns) (by rw [ints_depth]; exact hu) (fun e h' tk hk => ?_) (fin its rv)
    exact ⟨d, H, I.kept hk, ru, q0 (by cases ns with | nil => rfl | cons _ _ => cases e)⟩
  · obtain ⟨its, rv, hl, _⟩ := I.tuple hs
    obtain ⟨as, rd⟩ := ints_reads (h := s.heap) rv.ints
    refine max_tuple_default (I.ok.hd hc) hl (by simpa using rd) (ints_alike ns) (by rw [ints_depth]; exact hu) (fun e h' tk hk => ?_) (fin its rv)
    exact ⟨d, H, I.kept hk, ru, q0 (by cases ns with | nil => rfl | cons _ _ => cases e)⟩
def dMaxDef (fs : DTE) (fd : DTE) : DTE := fun r st Q => fs r st fun x st1 => fd r st1 fun d st2 => onNs st2 x fun ns => (ns = [] → Q d st2) ∧ ∀ m, m ∈ ns → (∀ y, y ∈ ns → y ≤ m) → Q (.int m) st2
theorem de_maxDef {a b : Expr} {fa fb : DTE} {p pos kpos : Pos} (hu : X.A.units + 1 < cLine) (hc : X.calm = true) (hg : Gl X "max") (hm : X.mg "max" = none) (ha : DE T X a fa) (hb : DE T X b fb)
    (hs : starEach [a] X.env = (false, eval a X.env) :: starEach [] X.env := by rfl)
    (he : backTo pos (starEach [a] X.env) = (false, eval a X.env) :: backTo pos (starEach [] X.env) := by rfl) (hpl : (backTo pos (starEach [a] X.env)).any (·.1) = false := by rfl)
    (hall : (backToKw pos (keywordEach [⟨some "default", b, kpos⟩] X.env)).all (·.1.isSome) = true := by rfl) (hnone : (backToKw pos (keywordEach [⟨some "default", b, kpos⟩] X.env)).any (·.1.isNone) = false := by rfl) (hks : (backToKw pos (keywordEach [⟨some "default", b, kpos⟩] X.env)).filterMap (·.1) = [("default" : Str)] := by rfl) :
    DE T X (.Call (.Name "max" p) [a] [⟨some "default", b, kpos⟩] pos) (dMaxDef fa fb) :=
  PE.imp (pe_callBK (cr_maxDef hu hc) hg hm (by decide +kernel) (da_cons ha da_nil hs) (dk_cons hb dk_nil) (by decide) (by decide) he hpl hall hnone hks) fun σ H Q ⟨M, r, st, Q', s, re, h, k⟩ => by
    refine ⟨M, r, st, fun ds st1 => on1 ds fun x => fb r st1 fun d st2 => onNs st2 x fun ns => (ns = [] → Q' d st2) ∧ ∀ m, m ∈ ns → (∀ y, y ∈ ns → y ≤ m) → Q' (.int m) st2, s, re, h, fun M1 H1 st1 ds vs g1 s1 r1 h1 => ?_⟩
    obtain ⟨x, rfl, h1⟩ := on1.of h1
    obtain ⟨v, rfl, rv⟩ := r1.one
    refine ⟨M1, r, st1, fun ds st2 => on1 ds fun d => onNs st2 x fun ns => (ns = [] → Q' d st2) ∧ ∀ m, m ∈ ns → (∀ y, y ∈ ns → y ≤ m) → Q' (.int m) st2, s1, re.grow g1, h1, fun M2 H2 st2 ds2 vs2 g2 s2 r2 h2 => ?_⟩
    obtain ⟨d, rfl, h2⟩ := on1.of h2
    obtain ⟨u, rfl, ru⟩ := r2.one
    obtain ⟨ns, e, q0, q1⟩ := onNs.of h2
    obtain ⟨p, ys, rfl, sq, rs⟩ := seqS.rd s2 (rv.grow g2) e
    have z := rs.ints
    subst z
    have k2 := (k.grow g1).grow g2
    exact ⟨p, ns, u, rfl, rfl, sq, fun e => k2.here s2 ru (q0 e), fun m h1 h2 => k2.here s2 (.int _) (q1 m h1 h2)⟩
end
end DL
namespace DL
open PySem PySem.Spec PyProof.Rows L2 LamX PySem.W SL
end DL
namespace DL
open PySem PySem.Spec PyProof.Rows L2 LamX PySem.W SL
def keyD : D → Option Key
  | .int i => some (.inl i)
  | .str x => some (.inr x)
  | _ => none
theorem RV.key {K : Frag} {M : Pl} {H : Hp} {d : D} {v : V} {k : Key} (r : RV K M H d v) (h : keyD d = some k) : v = kV k := by
  cases r <;> first | (cases h; rfl) | cases h
def valD {κ : Type} [DecidableEq κ] (kvs : List (κ × D)) (k : κ) : Option D := (kvs.find? fun kv => decide (kv.1 = k)).map (·.2)
def putD {κ : Type} [DecidableEq κ] (kvs : List (κ × D)) (k : κ) (v : D) : List (κ × D) :=
  if (kvs.any fun kv => decide (kv.1 = k)) = true then kvs.map (fun kv => if kv.1 = k then (kv.1, v) else kv) else kvs ++ [(k, v)]
structure KVs {κ : Type} (K : Frag) (M : Pl) (H : Hp) (kvs : List (κ × D)) (ys : List (κ × V)) : Prop where
  ks : kvs.map (·.1) = ys.map (·.1)
  vs : RVs K M H (kvs.map (·.2)) (ys.map (·.2))
section
variable {κ : Type} [DecidableEq κ] {K : Frag} {M : Pl} {H : Hp}
theorem KVs.nil : KVs K M H ([] : List (κ × D)) [] := ⟨rfl, .nil⟩
theorem KVs.cons {k : κ} {d : D} {v : V} {kvs : List (κ × D)} {ys : List (κ × V)} (h : RV K M H d v) (t : KVs K M H kvs ys) : KVs K M H ((k, d) :: kvs) ((k, v) :: ys) := ⟨by rw [List.map_cons, List.map_cons, t.ks], .cons h t.vs⟩
theorem KVs.un {k : κ} {d : D} {kvs : List (κ × D)} {ys : List (κ × V)} (h : KVs K M H ((k, d) :: kvs) ys) : ∃ v zs, ys = (k, v) :: zs ∧ RV K M H d v ∧ KVs K M H kvs zs := by
  obtain ⟨h1, h2⟩ := h
  cases ys with
  | nil => cases h1
  | cons y zs =>
    obtain ⟨k', v⟩ := y
    rw [List.map_cons, List.map_cons] at h1 h2
    cases h2 with
    | cons a b =>
      have e := List.cons.inj h1
      cases e.1
      exact ⟨v, zs, rfl, a, e.2, b⟩
theorem KVs.grow {M' : Pl} {H' : Hp} {kvs : List (κ × D)} {ys : List (κ × V)} (h : KVs K M H kvs ys) (g : Grow M H M' H') : KVs K M' H' kvs ys := ⟨h.ks, h.vs.grow g⟩
theorem KVs.length {kvs : List (κ × D)} {ys : List (κ × V)} (h : KVs K M H kvs ys) : kvs.length = ys.length := by
  have := congrArg List.length h.ks
  rw [List.length_map, List.length_map] at this
  exact this
theorem KVs.any {k : κ} : ∀ {kvs : List (κ × D)} {ys : List (κ × V)}, KVs K M H kvs ys → (kvs.any fun kv => decide (kv.1 = k)) = (ys.any fun kv => decide (kv.1 = k))
  | [], ys, h => by
    have : ys = [] := by cases ys with | nil => rfl | cons _ _ => cases h.ks
    subst this
    rfl
  | (k', d) :: kvs, ys, h => by
    obtain ⟨v, zs, rfl, rv, t⟩ := h.un
    rw [List.any_cons, List.any_cons, KVs.any t]
theorem KVs.app {k : κ} {d : D} {v : V} (h : RV K M H d v) : ∀ {kvs : List (κ × D)} {ys : List (κ × V)}, KVs K M H kvs ys → KVs K M H (kvs ++ [(k, d)]) (ys ++ [(k, v)])
  | [], ys, t => by
    have : ys = [] := by cases ys with | nil => rfl | cons _ _ => cases t.ks
    subst this
    exact .cons h .nil
  | (k', d') :: kvs, ys, t => by
    obtain ⟨v', zs, rfl, rv, t'⟩ := t.un
    exact .cons rv (KVs.app h t')
theorem KVs.upd {k : κ} {d : D} {v : V} (h : RV K M H d v) : ∀ {kvs : List (κ × D)} {ys : List (κ × V)}, KVs K M H kvs ys → KVs K M H (kvs.map fun kv => if kv.1 = k then (kv.1, d) else kv) (ys.map fun kv => if kv.1 = k then (kv.1, v) else kv)
  | [], ys, t => by
    have : ys = [] := by cases ys with | nil => rfl | cons _ _ => cases t.ks
    subst this
    exact .nil
  | (k', d') :: kvs, ys, t => by
    obtain ⟨v', zs, rfl, rv, t'⟩ := t.un
    rw [List.map_cons, List.map_cons]
    by_cases e : k' = k
    · rw [if_pos e, if_pos e]; exact .cons h (KVs.upd h t')
    · rw [if_neg e, if_neg e]; exact .cons rv (KVs.upd h t')
end
def onDk (st : DSt) (x : D) (k : Nat → List (Key × D) → Prop) : Prop := match x with
  | .ref n => match st[n]? with | some (.dK kvs) => k n kvs | _ => False
  | _ => False
theorem onDk.of {st : DSt} {d : D} {k : Nat → List (Key × D) → Prop} (h : onDk st d k) : ∃ n kvs, d = .ref n ∧ st[n]? = some (.dK kvs) ∧ k n kvs := by
  cases d with
  | ref n =>
    unfold onDk at h
    simp only at h
    split at h
    · rename_i kvs e
      exact ⟨n, kvs, rfl, e, h⟩
    · exact h.elim
  | _ => exact h.elim
section
variable {T : List (Addr × Str)} {X : Cx} {K : Frag} {a b o i : Expr} {fa fb fo fi fv : DTE} {pos : Pos}
theorem onDk.rd {M : Pl} {H : Hp} {st : DSt} {n : Nat} {kvs : List (Key × D)} {v : V} (s : RS T K M st H) (r : RV K M H (.ref n) v) (e : st[n]? = some (.dK kvs)) : ∃ a ys, v = .ref a ∧ M.at_ n = some a ∧ H a = some (.dK ys) ∧ KVs K M H kvs ys := by
  cases r with
  | ref hm =>
    obtain ⟨ys, e1, e2, e3⟩ := s.obj n _ _ hm e
    exact ⟨_, ys, rfl, hm, e1, ⟨e2, e3⟩⟩
def dNewK : DTE := fun _ st Q => Q (.ref st.length) (st ++ [.dK []])
def dGetK : DR2 := fun x y st Q => onDk st x fun n kvs => onO (keyD y) fun k => onO (valD kvs k) fun d => Q d st
def dInK (neg : Bool) (fy fd : DTE) : DTE := fun r st Q => fy r st fun y st1 => fd r st1 fun x st2 => onDk st2 x fun n kvs => onO (keyD y) fun k => Q (.bl (if neg then !(valD kvs k).isSome else (valD kvs k).isSome)) st2
def sPutK (fd fy fv : DTE) : DTS := fun E r st => fv r st fun v st1 => fd r st1 fun x st2 => fy r st2 fun y st3 => onDk st3 x fun n kvs => onO (keyD y) fun k => kvs.length < sizeLine ∧ E.nx r (st3.set n (.dK (putD kvs k v)))
def dLenK : DRs := fun ds st Q => on1 ds fun x => onDk st x fun n kvs => Q (.int kvs.length) st
end
end DL
namespace DL
open PySem PySem.Spec PyProof.Rows L2 LamX PySem.W SL
section
variable {T : List (Addr × Str)} {X : Cx} {K : Frag} {a b o i : Expr} {fa fb fo fi fv : DTE} {pos : Pos}
def sAug (i : Nat) (g : Int → Int → Int) (f : DTE) : DTS := fun E r st => onOO r[i]? fun x => f r st fun y st1 => onI x fun m => onI y fun n => E.nx (r.set i (some (.int (g m n)))) st1
def on3 (ds : List D) (k : D → D → D → Prop) : Prop := match ds with | [x, y, z] => k x y z | _ => False
theorem on3.of {ds : List D} {k : D → D → D → Prop} (h : on3 ds k) : ∃ x y z, ds = [x, y, z] ∧ k x y z := by
  match ds, h with
  | [x, y, z], h => exact ⟨x, y, z, rfl, h⟩
  | [], h => exact h.elim
  | [_], h => exact h.elim
  | [_, _], h => exact h.elim
  | _ :: _ :: _ :: _ :: _, h => exact h.elim
def sPar3 (i j l : Nat) (f : DTA) : DTS := fun E r st => f r st fun ds st1 => on3 ds fun d e g => E.nx (((r.set i (some d)).set j (some e)).set l (some g)) st1
end
end DL
namespace SL
open PySem PySem.Spec PyProof.Rows L2 LamX PySem.W PySem.Calls
section
variable {P : Program} {w : World} {A : Around} {E : Value → Shared → Prop} {s : Shared} {a fa : Addr} {Q : Value → Shared → Prop} {kz : List PyData} {its : List Value} {o : Obj} {n : Nat} {T : String}
end
end SL
namespace DL
open PySem PySem.Spec PyProof.Rows L2 LamX PySem.W SL
end DL
namespace DL
open PySem PySem.Spec PyProof.Rows L2 LamX PySem.W SL
section
variable {r : DEnv} {st : DSt} {Q : DK} {E : DEnds} {f fa fb fc : DTE} {fs : DTA} {t u : DTT} {F G : DTS} {x y : D} {i j : Int} {R2' : DR2} {Rs : DRs} {i' j' : Nat}
@[simp] theorem e_var : dVar i' r st Q = onOO r[i']? fun d => Q d st := rfl
@[simp] theorem e_C : dC x r st Q = Q x st := rfl
@[simp] theorem e_op : dOp R2' fa fb r st Q = fa r st fun x st1 => fb r st1 fun y st2 => R2' x y st2 Q := rfl
@[simp] theorem e_neg : dNeg f r st Q = f r st fun x st1 => onI x fun i => Q (.int (-i)) st1 := rfl
@[simp] theorem e_isN : dIsN f r st Q = f r st fun x st1 => Q (.bl (isNon x)) st1 := rfl
@[simp] theorem e_notN : dNotN f r st Q = f r st fun x st1 => Q (.bl (!isNon x)) st1 := rfl
@[simp] theorem e_and : dAndV fa fb r st Q = fa r st fun x st1 => onB x fun c => if c = true then fb r st1 Q else Q (.bl false) st1 := rfl
@[simp] theorem e_or : dOrV fa fb r st Q = fa r st fun x st1 => onB x fun c => if c = true then Q (.bl true) st1 else fb r st1 Q := rfl
@[simp] theorem e_not : dNotV f r st Q = f r st fun x st1 => onB x fun c => Q (.bl (!c)) st1 := rfl
@[simp] theorem e_test {Qb : Bool → DSt → Prop} : dTest f r st Qb = f r st fun x st1 => onB x fun c => Qb c st1 := rfl
@[simp] theorem e_tAnd {Qb : Bool → DSt → Prop} : dtAnd t u r st Qb = t r st fun c st1 => if c = true then u r st1 Qb else Qb false st1 := rfl
@[simp] theorem e_tOr {Qb : Bool → DSt → Prop} : dtOr t u r st Qb = t r st fun c st1 => if c = true then Qb true st1 else u r st1 Qb := rfl
@[simp] theorem e_tNot {Qb : Bool → DSt → Prop} : dtNot t r st Qb = t r st fun c st1 => Qb (!c) st1 := rfl
@[simp] theorem e_tYes {Qb : Bool → DSt → Prop} : dtYes r st Qb = Qb true st := rfl
@[simp] theorem e_if : dIf t fa fb r st Q = t r st fun c st1 => if c = true then fa r st1 Q else fb r st1 Q := rfl
@[simp] theorem e_aNil {Qa : List D → DSt → Prop} : daNil r st Qa = Qa [] st := rfl
@[simp] theorem e_aCons {Qa : List D → DSt → Prop} : daCons f fs r st Qa = f r st fun d st1 => fs r st1 fun ds st2 => Qa (d :: ds) st2 := rfl
@[simp] theorem e_tup : dTup fs r st Q = fs r st fun ds st1 => okLen ds (Q (.tup ds) st1) := rfl
@[simp] theorem e_lst : dLst fs r st Q = fs r st fun ds st1 => okLen ds (Q (.lst ds) st1) := rfl
@[simp] theorem e_lstN : dLstN fs r st Q = fs r st fun ds st1 => okLen ds (Q (.ref st1.length) (st1 ++ [.lst ds])) := rfl
@[simp] theorem e_len0 {P : Prop} : okLen [] P = P := rfl
@[simp] theorem e_len1 {P : Prop} {a : D} : okLen [a] P = P := rfl
@[simp] theorem e_len2 {P : Prop} {a b : D} : okLen [a, b] P = P := rfl
@[simp] theorem e_len3 {P : Prop} {a b c : D} : okLen [a, b, c] P = P := rfl
@[simp] theorem e_len4 {P : Prop} {a b c d : D} : okLen [a, b, c, d] P = P := rfl
@[simp] theorem e_len5 {P : Prop} {a b c d e : D} : okLen [a, b, c, d, e] P = P := rfl
@[simp] theorem e_cb : dCB Rs fs r st Q = fs r st fun ds st1 => Rs ds st1 Q := rfl
@[simp] theorem e_on1 {k : D → Prop} {a : D} : on1 [a] k = k a := rfl
@[simp] theorem e_on2 {k : D → D → Prop} {a b : D} : on2 [a, b] k = k a b := rfl
@[simp] theorem e_onI {k : Int → Prop} : onI (.int i) k = k i := rfl
@[simp] theorem e_onB {k : Bool → Prop} {b : Bool} : onB (.bl b) k = k b := rfl
@[simp] theorem e_onO {α : Type} {k : α → Prop} {b : α} : onO (some b) k = k b := rfl
@[simp] theorem e_onO0 {α : Type} {k : α → Prop} : onO none k = False := rfl
@[simp] theorem e_onOO {k : D → Prop} {b : D} : onOO (some (some b)) k = k b := rfl
@[simp] theorem e_I0 {g : Int → Int → D} : dI0 g x y st Q = onI x fun i => onI y fun j => Q (g i j) st := rfl
@[simp] theorem e_I {C : Int → Int → Prop} {g : Int → Int → D} : dI C g x y st Q = onI x fun i => onI y fun j => C i j ∧ Q (g i j) st := rfl
@[simp] theorem e_add {fin : DK → List D → DSt → Prop} : dAddG fin (.int i) (.int j) st Q = Q (.int (i + j)) st := rfl
@[simp] theorem e_addT {fin : DK → List D → DSt → Prop} {xs ys : List D} : dAddG fin (.tup xs) (.tup ys) st Q = (xs.length + ys.length ≤ sizeLine ∧ Q (.tup (xs ++ ys)) st) := rfl
@[simp] theorem e_addS {fin : DK → List D → DSt → Prop} {a b : Str} : dAddG fin (.str a) (.str b) st Q = (a.length + b.length ≤ sizeLine ∧ Q (.str (a ++ b)) st) := rfl
@[simp] theorem e_addL {fin : DK → List D → DSt → Prop} {xs ys : List D} : dAddG fin (.lst xs) (.lst ys) st Q = (xs.length + ys.length ≤ sizeLine ∧ fin Q (xs ++ ys) st) := rfl
@[simp] theorem e_addLR {fin : DK → List D → DSt → Prop} {xs : List D} {n : Nat} : dAddG fin (.lst xs) (.ref n) st Q = onO (lstS st (.ref n)) fun ys => xs.length + ys.length ≤ sizeLine ∧ fin Q (xs ++ ys) st := rfl
@[simp] theorem e_addRL {fin : DK → List D → DSt → Prop} {ys : List D} {n : Nat} : dAddG fin (.ref n) (.lst ys) st Q = onO (lstS st (.ref n)) fun xs => xs.length + ys.length ≤ sizeLine ∧ fin Q (xs ++ ys) st := rfl
@[simp] theorem e_addRR {fin : DK → List D → DSt → Prop} {m n : Nat} : dAddG fin (.ref m) (.ref n) st Q = onO (lstS st (.ref m)) fun xs => onO (lstS st (.ref n)) fun ys => xs.length + ys.length ≤ sizeLine ∧ fin Q (xs ++ ys) st := rfl
@[simp] theorem e_mul {fin : DK → List D → DSt → Prop} : dMulG fin (.int i) (.int j) st Q = (CMul i j ∧ Q (.int (i * j)) st) := rfl
@[simp] theorem e_mulL {fin : DK → List D → DSt → Prop} {xs : List D} : dMulG fin (.lst xs) (.int i) st Q = ((-1000 ≤ i ∧ xs.length * i.toNat ≤ 1000 ∧ i ≤ 100000000) ∧ fin Q (List.replicate i.toNat xs).flatten st) := rfl
@[simp] theorem e_mulT {fin : DK → List D → DSt → Prop} {xs : List D} : dMulG fin (.tup xs) (.int i) st Q = (xs ≠ [] ∧ 1 ≤ i ∧ i ≤ 1000 ∧ xs.length ≤ 1000 ∧ Q (.tup (List.replicate i.toNat xs).flatten) st) := rfl
@[simp] theorem e_rev : dRev f r st Q = f r st fun x st1 => dRevV x st1 Q := rfl
@[simp] theorem e_revT {xs : List D} : dRevV (.tup xs) st Q = Q (.tup xs.reverse) st := rfl
@[simp] theorem e_ix : dIx x y st Q = onO (seqS st x) fun ds => onI y fun i => onO (atI ds i) fun d => Q d st := rfl
@[simp] theorem e_eqI : dEqG false (.int i) (.int j) st Q = Q (.bl (decide (i = j))) st := rfl
@[simp] theorem e_eqS {a b : Str} : dEqG false (.str a) (.str b) st Q = Q (.bl (decide (a = b))) st := rfl
@[simp] theorem e_eqB {a b : Bool} : dEqG false (.bl a) (.bl b) st Q = Q (.bl (decide (a = b))) st := rfl
@[simp] theorem e_neI : dEqG true (.int i) (.int j) st Q = Q (.bl (!decide (i = j))) st := rfl
@[simp] theorem e_neS {a b : Str} : dEqG true (.str a) (.str b) st Q = Q (.bl (!decide (a = b))) st := rfl
@[simp] theorem e_neB {a b : Bool} : dEqG true (.bl a) (.bl b) st Q = Q (.bl (!decide (a = b))) st := rfl
@[simp] theorem e_ltI : dLtG (.int i) (.int j) st Q = Q (.bl (decide (i < j))) st := rfl
@[simp] theorem e_in : dInG false x y st Q = onO (seqS st y) fun ds => (flatD x = true ∧ ds.all flatD = true) ∧ Q (.bl (ds.any fun y => eqF y x)) st := rfl
@[simp] theorem e_nin : dInG true x y st Q = onO (seqS st y) fun ds => (flatD x = true ∧ ds.all flatD = true) ∧ Q (.bl (!(ds.any fun y => eqF y x))) st := rfl
@[simp] theorem e_chain {a b : DR2} : dChain a b fa fb fc r st Q = fa r st fun x st1 => fb r st1 fun y st2 => a x y st2 fun z st3 => onB z fun k => if k = true then fc r st3 fun w st4 => b y w st4 Q else Q (.bl false) st3 := rfl
@[simp] theorem e_len : dLen [x] st Q = onO (seqS st x) fun xs => Q (.int xs.length) st := rfl
@[simp] theorem e_abs : dAbs [.int i] st Q = Q (.int (if i < 0 then -i else i)) st := rfl
@[simp] theorem e_2I {g : Int → Int → Int} : d2I g [.int i, .int j] st Q = Q (.int (g i j)) st := rfl
@[simp] theorem e_tuple1 {xs : List D} : dTuple [.tup xs] st Q = Q (.tup xs) st := rfl
@[simp] theorem e_tuple2 {xs : List D} : dTuple [.lst xs] st Q = Q (.tup xs) st := rfl
@[simp] theorem e_tuple3 {n : Nat} : dTuple [.ref n] st Q = onO (seqS st (.ref n)) fun xs => Q (.tup xs) st := rfl
@[simp] theorem e_listT : dListT [x] st Q = onO (seqS st x) fun xs => Q (.lst xs) st := rfl
@[simp] theorem e_listN : dListN [x] st Q = onO (seqS st x) fun xs => Q (.ref st.length) (st ++ [.lst xs]) := rfl
@[simp] theorem e_allR {g : List Bool → Bool} {xs : List D} : dAllR g [.lst xs] st Q = onO (boolsD xs) fun bs => Q (.bl (g bs)) st := rfl
@[simp] theorem e_seqT {xs : List D} : seqS st (.tup xs) = some xs := rfl
@[simp] theorem e_seqK {xs : List D} : seqS st (.tuk xs) = some xs := rfl
@[simp] theorem e_seqL {xs : List D} : seqS st (.lst xs) = some xs := rfl
theorem seq_ref {n : Nat} {xs : List D} (h : st[n]? = some (.lst xs)) : seqS st (.ref n) = some xs := by unfold seqS; simp only [h]
@[simp] theorem e_repr : dRepr [x] st Q = onO (pdS st x) fun p => (p.showable = true ∧ p.depth ≤ 50 ∧ p.shown.length ≤ sizeLine) ∧ Q (.str p.shown) st := rfl
@[simp] theorem e_isi {u : String} : dIsi u f r st Q = f r st fun x st1 => onO (tyN st1 x) fun t => Q (.bl (subTy t u)) st1 := rfl
@[simp] theorem e_isB {a b : Bool} : dIsB (.bl a) (.bl b) st Q = Q (.bl (decide (a = b))) st := rfl
@[simp] theorem e_notB {a b : Bool} : dNotB (.bl a) (.bl b) st Q = Q (.bl (!decide (a = b))) st := rfl
@[simp] theorem e_truth {Qb : Bool → DSt → Prop} : dTruth f r st Qb = f r st fun x st1 => onO (truD st1 x) fun c => Qb c st1 := rfl
@[simp] theorem e_next : sNext E r st = E.nx r st := rfl
@[simp] theorem e_seq : sSeq F G E r st = F { E with nx := G E } r st := rfl
@[simp] theorem e_drop : sDrop f E r st = f r st fun _ st1 => E.nx r st1 := rfl
@[simp] theorem e_ret : sRet f E r st = f r st E.rt := rfl
@[simp] theorem e_retN : sRetN E r st = E.rt .non st := rfl
@[simp] theorem e_ifS : sIf t F G E r st = t r st fun b st1 => if b = true then F E r st1 else G E r st1 := rfl
@[simp] theorem e_set : sSet i' f E r st = f r st fun d st1 => E.nx (r.set i' (some d)) st1 := rfl
@[simp] theorem e_asg {g : DTG} : sAsg f g E r st = f r st fun d st1 => g d r st1 E.nx := rfl
@[simp] theorem e_par : sPar i' j' fs E r st = fs r st fun ds st1 => on2 ds fun d e => E.nx ((r.set i' (some d)).set j' (some e)) st1 := rfl
@[simp] theorem e_nm {k : DEnv → DSt → Prop} : gNm i' x r st k = k (r.set i' (some x)) st := rfl
@[simp] theorem e_gsN {k : DEnv → DSt → Prop} : gsNil [] r st k = k r st := rfl
@[simp] theorem e_gsC {k : DEnv → DSt → Prop} {g : DTG} {h : DTGs} {ds : List D} : gsCons g h (x :: ds) r st k = g x r st fun r1 st1 => h ds r1 st1 k := rfl
@[simp] theorem e_gTpK {k : DEnv → DSt → Prop} {h : DTGs} {ds : List D} : gTp i' h (.tuk ds) r st k = (ds.length = i' ∧ h ds r st k) := rfl
@[simp] theorem e_gTpL {k : DEnv → DSt → Prop} {h : DTGs} {ds : List D} : gTp i' h (.lst ds) r st k = (ds.length = i' ∧ h ds r st k) := rfl
@[simp] theorem e_sum : dSum [x] st Q = onO (seqS st x) fun xs => onO (intsD xs) fun ns => Q (.int ns.sum) st := rfl
@[simp] theorem e_maxL : dMaxL [x] st Q = onO (seqS st x) fun xs => onO (intsD xs) fun ns => 0 < ns.length ∧ ∀ m, m ∈ ns → (∀ y, y ∈ ns → y ≤ m) → Q (.int m) st := rfl
@[simp] theorem e_minL : dMinL [x] st Q = onO (seqS st x) fun xs => onO (intsD xs) fun ns => 0 < ns.length ∧ ∀ m, m ∈ ns → (∀ y, y ∈ ns → m ≤ y) → Q (.int m) st := rfl
@[simp] theorem e_maxDef : dMaxDef fa fb r st Q = fa r st fun x st1 => fb r st1 fun d st2 => onO (seqS st2 x) fun xs => onO (intsD xs) fun ns => (ns = [] → Q d st2) ∧ ∀ m, m ∈ ns → (∀ y, y ∈ ns → y ≤ m) → Q (.int m) st2 := rfl
@[simp] theorem e_int : dInt [.int i] st Q = Q (.int i) st := rfl
@[simp] theorem e_intB {b : Bool} : dInt [.bl b] st Q = Q (.int (if b then 1 else 0)) st := rfl
@[simp] theorem e_aug {g : Int → Int → Int} : sAug i' g f E r st = onOO r[i']? fun x => f r st fun y st1 => onI x fun m => onI y fun n => E.nx (r.set i' (some (.int (g m n)))) st1 := rfl
@[simp] theorem e_on3 {k : D → D → D → Prop} {a b c : D} : on3 [a, b, c] k = k a b c := rfl
@[simp] theorem e_par3 {l' : Nat} : sPar3 i' j' l' fs E r st = fs r st fun ds st1 => on3 ds fun d e g => E.nx (((r.set i' (some d)).set j' (some e)).set l' (some g)) st1 := rfl
@[simp] theorem e_newK : dNewK r st Q = Q (.ref st.length) (st ++ [.dK []]) := rfl
@[simp] theorem e_getK : dGetK x y st Q = onDk st x fun n kvs => onO (keyD y) fun k => onO (valD kvs k) fun d => Q d st := rfl
@[simp] theorem e_keyI : keyD (.int i) = some (.inl i) := rfl
@[simp] theorem e_keyS {a : Str} : keyD (.str a) = some (.inr a) := rfl
@[simp] theorem e_inK : dInK false fa fb r st Q = fa r st fun y st1 => fb r st1 fun x st2 => onDk st2 x fun n kvs => onO (keyD y) fun k => Q (.bl (valD kvs k).isSome) st2 := rfl
@[simp] theorem e_ninK : dInK true fa fb r st Q = fa r st fun y st1 => fb r st1 fun x st2 => onDk st2 x fun n kvs => onO (keyD y) fun k => Q (.bl (!(valD kvs k).isSome)) st2 := rfl
@[simp] theorem e_putK : sPutK fa fb fc E r st = fc r st fun v st1 => fa r st1 fun x st2 => fb r st2 fun y st3 => onDk st3 x fun n kvs => onO (keyD y) fun k => kvs.length < sizeLine ∧ E.nx r (st3.set n (.dK (putD kvs k v))) := rfl
@[simp] theorem e_lenK : dLenK [x] st Q = onDk st x fun n kvs => Q (.int kvs.length) st := rfl
@[simp] theorem e_lstS {xs : List D} : lstS st (.lst xs) = some xs := rfl
@[simp] theorem e_seqX {xs : List D} : seqS st (.scr xs) = some xs := rfl
@[simp] theorem e_gTpT {k : DEnv → DSt → Prop} {h : DTGs} {ds : List D} : gTp i' h (.tup ds) r st k = (ds.length = i' ∧ h ds r st k) := rfl
@[simp] theorem e_oN {k : Option Int → DSt → Prop} : oNone r st k = k none st := rfl
@[simp] theorem e_oS {k : Option Int → DSt → Prop} : oSome f r st k = f r st fun d st1 => onI d fun i => k (some i) st1 := rfl
@[simp] theorem e_sl {fin : DK → List D → DSt → Prop} {lo hi : DTO} : dSlG fin f lo hi r st Q = f r st fun x st1 => lo r st1 fun l st2 => hi r st2 fun u st3 => dSlV fin x l u st3 Q := rfl
@[simp] theorem e_slT {fin : DK → List D → DSt → Prop} {lo hi : Option Int} {xs : List D} : dSlV fin (.tup xs) lo hi st Q = Q (.tup (cutD xs lo hi)) st := rfl
@[simp] theorem e_slL {fin : DK → List D → DSt → Prop} {lo hi : Option Int} {xs : List D} : dSlV fin (.lst xs) lo hi st Q = fin Q (cutD xs lo hi) st := rfl
@[simp] theorem e_finT {xs : List D} : finT Q xs st = Q (.lst xs) st := rfl
@[simp] theorem e_finN {xs : List D} : finN Q xs st = Q (.ref st.length) (st ++ [.lst xs]) := rfl
@[simp] theorem e_index : dIndex f fs r st Q = f r st fun x st1 => IdxD st1 x ∧ fs r st1 fun ds st2 => mIndex x ds st2 Q := rfl
@[simp] theorem e_idxT {xs : List D} : IdxD st (.tup xs) = True := rfl
@[simp] theorem e_idxL {xs : List D} : IdxD st (.lst xs) = True := rfl
@[simp] theorem e_mIx : mIndex x [.int i] st Q = onO (ixS st x) fun xs => onO (intsD xs) fun ns => onO (ixOf i ns) fun j => Q (.int (j : Nat)) st := rfl
@[simp] theorem e_ixST {xs : List D} : ixS st (.tup xs) = some xs := rfl
@[simp] theorem e_ixSL {xs : List D} : ixS st (.lst xs) = some xs := rfl
@[simp] theorem e_mtL {m : D → List D → DSt → DK → Prop} : dMtL m f fs r st Q = f r st fun x st1 => LstD st1 x ∧ fs r st1 fun ds st2 => m x ds st2 Q := rfl
@[simp] theorem e_w {k : DIt → DSt → Prop} : wSeq f r st k = f r st fun d st1 => onO (itOf st1 d) fun I => k I st1 := rfl
@[simp] theorem e_w1 {k : DIt → DSt → Prop} : wRng1 fs r st k = fs r st fun ds st1 => on1 ds fun x => onI x fun j => (-(2 ^ 62) ≤ j ∧ j < 2 ^ 62) ∧ k ⟨rgD 0 j.toNat, none⟩ st1 := rfl
@[simp] theorem e_w2 {k : DIt → DSt → Prop} : wRng2 fs r st k = fs r st fun ds st1 => on2 ds fun x y => onI x fun i => onI y fun j => (-(2 ^ 62) ≤ i ∧ i < 2 ^ 62 ∧ -(2 ^ 62) ≤ j ∧ j < 2 ^ 62) ∧ k ⟨rgD i (j - i).toNat, none⟩ st1 := rfl
@[simp] theorem e_wE {k : DIt → DSt → Prop} : wEnum fs r st k = fs r st fun ds st1 => on1 ds fun x => onO (itOf st1 x) fun I => k ⟨enumD I.items, I.src⟩ st1 := rfl
@[simp] theorem e_wZ {k : DIt → DSt → Prop} : wZip fs r st k = fs r st fun ds st1 => on2 ds fun x y => onO (itT x) fun I => onO (itT y) fun J => k ⟨zipD I.items J.items, none⟩ st1 := rfl
@[simp] theorem e_itK {xs : List D} : itOf st (.tuk xs) = some ⟨xs, none⟩ := rfl
@[simp] theorem e_itT {xs : List D} : itOf st (.tup xs) = some ⟨xs, none⟩ := rfl
@[simp] theorem e_itL {xs : List D} : itOf st (.lst xs) = some ⟨xs, none⟩ := rfl
@[simp] theorem e_itT2 {xs : List D} : itT (.tup xs) = some ⟨xs, none⟩ := rfl
@[simp] theorem e_itL2 {xs : List D} : itL st (.lst xs) = some ⟨xs, none⟩ := rfl
@[simp] theorem e_lc {w : DTI} {g : DTG} {vs : List Nat} {fin : DK → List D → DSt → Prop} : dLcG w g t f vs fin r st Q = w r st fun I st1 => I.items.length ≤ sizeLine ∧ compL I g t f (wipeD r vs) (fin Q) I.items [] st1 := rfl
@[simp] theorem e_for {w : DTI} {g : DTG} : sFor w g F E r st = w r st fun I st1 => forL I g F E st1 I.items r st1 := rfl
@[simp] theorem e_wipe0 : wipeD r [] = r := rfl
@[simp] theorem e_wipe {v : Nat} {vs : List Nat} : wipeD r (v :: vs) = (wipeD r vs).set v none := rfl
@[simp] theorem e_okI {xs : List D} {P : Prop} : okI ⟨xs, none⟩ st P = P := rfl
@[simp] theorem e_okR {xs ys : List D} {n : Nat} {P : Prop} : okI ⟨xs, some (n, ys)⟩ st P = (st[n]? = some (.lst ys) ∧ P) := rfl
end
def Ev (f : DTE) (r : DEnv) (st : DSt) (d : D) : Prop := ∀ Q : DK, Q d st → f r st Q
def EvT (t : DTT) (r : DEnv) (st : DSt) (b : Bool) : Prop := ∀ Q : Bool → DSt → Prop, Q b st → t r st Q
theorem compL_map {g : DTG} {tt : DTT} {te : DTE} {r : DEnv} {Q : List D → DSt → Prop} {st : DSt} {xs : List D} (p : D → Bool) (h : D → D) :
    ∀ (items acc : List D), (∀ d ∈ items, ∀ Q' : DEnv → DSt → Prop, (∀ r2, EvT tt r2 st (p d) → (p d = true → Ev te r2 st (h d)) → Q' r2 st) → g d r st Q') → Q (acc ++ (items.filter p).map h) st → compL ⟨xs, none⟩ g tt te r Q items acc st
  | [], acc, _, q => by
    have q' : Q acc st := by simpa using q
    exact q'
  | d :: ds, acc, hh, q => by
    show g d r st _
    refine hh d List.mem_cons_self _ fun r2 e1 e2 => e1 _ ?_
    cases e : p d with
    | true =>
      refine iteT (e2 e _ (compL_map p h ds _ (fun d' hd => hh d' (List.mem_cons_of_mem _ hd)) ?_))
      rw [List.filter_cons_of_pos e, List.map_cons] at q
      simpa using q
    | false =>
      refine iteF (compL_map p h ds _ (fun d' hd => hh d' (List.mem_cons_of_mem _ hd)) ?_)
      rw [List.filter_cons_of_neg (by rw [e]; decide)] at q
      exact q
theorem lc_map {te : DTE} {r : DEnv} {Q : List D → DSt → Prop} {st : DSt} {xs items : List D} {i : Nat} (h : D → D) (he : ∀ d ∈ items, Ev te (r.set i (some d)) st (h d)) (q : Q (items.map h) st) : compL ⟨xs, none⟩ (gNm i) dtYes te r Q items [] st := by
  refine compL_map (fun _ => true) h items [] (fun d hd Q' k => k _ (fun Q q => q) fun _ => he d hd) ?_
  rw [List.filter_eq_self.mpr (fun _ _ => rfl)]
  simpa using q
theorem lc_if {tt : DTT} {te : DTE} {r : DEnv} {Q : List D → DSt → Prop} {st : DSt} {xs items : List D} {i : Nat} (p : D → Bool) (h : D → D) (ht : ∀ d ∈ items, EvT tt (r.set i (some d)) st (p d)) (he : ∀ d ∈ items, p d = true → Ev te (r.set i (some d)) st (h d)) (q : Q ((items.filter p).map h) st) : compL ⟨xs, none⟩ (gNm i) tt te r Q items [] st :=
  compL_map p h items [] (fun d hd Q' k => k _ (ht d hd) (he d hd)) (by simpa using q)
theorem rgD_mem {lo : Int} {n : Nat} {d : D} (h : d ∈ rgD lo n) : ∃ i : Nat, i < n ∧ d = .int (lo + (i : Nat)) := by
  obtain ⟨i, hi⟩ := List.mem_iff_getElem?.mp h
  obtain ⟨lt, e⟩ := rgD_get hi
  exact ⟨i, lt, e⟩
theorem rgD0 (n : Nat) : rgD 0 n = (List.range n).map fun i => D.int (i : Nat) := by
  unfold rgD
  exact List.map_congr_left fun i _ => by rw [Int.zero_add]
theorem lc_rng {te : DTE} {r : DEnv} {Q : List D → DSt → Prop} {st : DSt} {xs : List D} {n i : Nat} (h : Nat → D) (he : ∀ k : Nat, k < n → Ev te (r.set i (some (.int (k : Nat)))) st (h k)) (q : Q ((List.range n).map h) st) : compL ⟨xs, none⟩ (gNm i) dtYes te r Q (rgD 0 n) [] st := by
  refine lc_map (fun d => match d with | .int i => h i.toNat | _ => .non) (fun d hd => ?_) ?_
  · obtain ⟨k, lt, rfl⟩ := rgD_mem hd
    rw [Int.zero_add]
    exact he k lt
  · rw [rgD0, List.map_map]
    exact q
theorem Wk.id {b : DSt} {P : DEnv → DSt → Prop} {r : DEnv} {st : DSt} (h : P r st) : Wk b P r st := .inl h
theorem for_inv {I : DIt} {g : DTG} {F : DTS} {E : DEnds} {b : DSt} (W : List D → DEnv → DSt → Prop)
    (turn : ∀ d ds r st (N : DEnv → DSt → Prop), (∀ r st, Wk b (W ds) r st → N r st) → W (d :: ds) r st → okI I st (g d r st fun r1 st1 => F { nx := N, rt := E.rt, bk := E.nx, ct := N } r1 st1)) (done : ∀ r st, W [] r st → okI I st (E.nx r st)) :
    ∀ (items : List D) (r : DEnv) (st : DSt), W items r st → forL I g F E b items r st
  | [], r, st, h => done r st h
  | d :: ds, r, st, h => by
    refine turn d ds r st _ (fun r st w => ?_) h
    rcases w with w | ⟨r', n, h1, h2, h3, h4, h5, w⟩
    · exact .inl (for_inv W turn done ds r st w)
    · exact .inr ⟨r', n, h1, h2, h3, h4, h5, for_inv W turn done ds r' _ w⟩
end DL
namespace DL
open PySem PySem.Spec PyProof.Rows L2 LamX PySem.W SL
def F__law_pot : DTS := (sSeq (sSet 2 (dIf (dTest (dOp dLtG (dVar 1) (dCB dLen (daCons (dVar 0) daNil)))) (dOp dIx (dVar 0) (dVar 1)) (dOp dAdd (dOp dMul (dC (.int 17)) (dVar 1)) (dC (.int 3))))) (sSeq (sSet 3 (dIf (dTest (dOp dGe (dCB dAbs (daCons (dVar 2) daNil)) (dOp dPow (dC (.int 10)) (dC (.int 18))))) (dOp dMod (dCB dAbs (daCons (dVar 2) daNil)) (dOp dPow (dOp dPow (dC (.int 10)) (dC (.int 60))) (dC (.int 3)))) (dC (.int 0)))) (sRet (dLstN (daCons (dVar 3) (daCons (dOp dMod (dOp dAdd (dOp dAdd (dOp dMul (dOp dMod (dVar 2) (dC (.int 2305843009213693951))) (dC (.int 69621))) (dOp dMul (dOp dMul (dC (.int 104729)) (dVar 1)) (dVar 1))) (dC (.int 71))) (dC (.int 2305843009213693921))) (daCons (dC (.int 0)) daNil)))))))
def F__law_take : DTS := (sSeq (sIf (dTest (dOp dGt (dOp dIx (dVar 0) (dC (.int 0))) (dC (.int 0)))) (sSeq (sSet 2 (dOp dMod (dOp dIx (dVar 0) (dC (.int 0))) (dVar 1))) (sSeq (sAsg (dOp dDiv (dOp dIx (dVar 0) (dC (.int 0))) (dVar 1)) (gSb (dVar 0) (dC (.int 0)))) (sRet (dVar 2)))) sNext) (sSeq (sAsg (dOp dAdd (dOp dIx (dVar 0) (dC (.int 2))) (dC (.int 1))) (gSb (dVar 0) (dC (.int 2)))) (sSeq (sSet 3 (dOp dIx (dLst (daCons (dC (.int 2147483647)) (daCons (dC (.int 2147483629)) (daCons (dC (.int 2147483587)) (daCons (dC (.int 2147483579)) (daCons (dC (.int 2147483563)) daNil)))))) (dOp dMod (dOp dIx (dVar 0) (dC (.int 2))) (dC (.int 5))))) (sSeq (sSet 4 (dOp dMod (dOp dPow (dOp dAdd (dOp dAdd (dOp dIx (dVar 0) (dC (.int 1))) (dOp dMul (dOp dMul (dC (.int 40009)) (dOp dIx (dVar 0) (dC (.int 2)))) (dOp dIx (dVar 0) (dC (.int 2))))) (dC (.int 31))) (dC (.int 3))) (dVar 3))) (sRet (dOp dMod (dOp dDiv (dOp dMod (dOp dMul (dVar 4) (dOp dAdd (dOp dMod (dVar 4) (dC (.int 10009))) (dOp dMul (dC (.int 89)) (dOp dIx (dVar 0) (dC (.int 2)))))) (dC (.int 2305843009213693907))) (dC (.int 89))) (dVar 1)))))))
def F__law_pick (g__law_take : DRs) : DTS := (sRet (dOp dIx (dVar 1) (dCB g__law_take (daCons (dVar 0) (daCons (dCB dLen (daCons (dVar 1) daNil)) daNil)))))
def F_law (g__law_pot : DRs) (g__law_right : DRs) : DTS := (sRet (dCB dAll (daCons (dLcG (wRng1 (daCons (dCB dMax2 (daCons (dC (.int 1)) (daCons (dCB dMin2 (daCons (dC (.int 3)) (daCons (dCB dLen (daCons (dVar 0) daNil)) daNil))) daNil))) daNil)) (gNm 1) dtYes (dCB g__law_right (daCons (dCB g__law_pot (daCons (dVar 0) (daCons (dVar 1) daNil))) daNil)) [1] finT) daNil)))
end DL
namespace DL
open PySem PySem.Spec PyProof.Rows L2 LamX PySem.W SL
@[simp] theorem at0 {α : Type} {a : α} {xs : List α} : atI (a :: xs) 0 = some a := by unfold atI ixN; simp
@[simp] theorem at1 {α : Type} {a b : α} {xs : List α} : atI (a :: b :: xs) 1 = some b := atI_nat (j := 1) rfl
@[simp] theorem at2 {α : Type} {a b c : α} {xs : List α} : atI (a :: b :: c :: xs) 2 = some c := atI_nat (j := 2) rfl
def setS (o i d : D) (st : DSt) (P : DSt → Prop) : Prop := match o with
  | .ref n => onI i fun k => match st[n]? with
    | some (.lst xs) => onO (ixN xs.length k) fun j => P (st.set n (.lst (xs.set j d)))
    | _ => False
  | _ => False
@[simp] theorem e_gSb {fo fi : DTE} {x : D} {r : DEnv} {st : DSt} {k : DEnv → DSt → Prop} : gSb fo fi x r st k = fo r st fun o st1 => fi r st1 fun i st2 => setS o i x st2 (k r) := rfl
theorem setS_ref {n : Nat} {k : Int} {d : D} {st : DSt} {P : DSt → Prop} {xs : List D} (h : st[n]? = some (.lst xs)) : setS (.ref n) (.int k) d st P = onO (ixN xs.length k) fun j => P (st.set n (.lst (xs.set j d))) := by
  unfold setS
  simp only [e_onI, h]
def PotO (n : Nat) (o : O) : Prop := ∃ g m c : Int, o = .lst [.int g, .int m, .int c] ∧ 0 ≤ g ∧ g < 10 ^ 400 ∧ 0 ≤ m ∧ m < 2 ^ 61 ∧ 0 ≤ c ∧ c + n ≤ 1000000
theorem PotO.less {n m : Nat} {o : O} (h : PotO n o) (l : m ≤ n) : PotO m o := by
  obtain ⟨g, a, c, h1, h2, h3, h4, h5, h6, h7⟩ := h
  exact ⟨g, a, c, h1, h2, h3, h4, h5, h6, by omega⟩
def Pot (n : Nat) (p : Nat) (st : DSt) : Prop := ∃ o, st[p]? = some o ∧ PotO n o
theorem Pot.less {n m p : Nat} {st : DSt} (h : Pot n p st) (l : m ≤ n) : Pot m p st := by
  obtain ⟨o, e, h⟩ := h
  exact ⟨o, e, h.less l⟩
theorem Pot.lt {n p : Nat} {st : DSt} (h : Pot n p st) : p < st.length := by
  obtain ⟨o, e, h⟩ := h
  exact (List.getElem?_eq_some_iff.mp e).1
theorem Pot.set {n p : Nat} {st : DSt} {o : O} (lt : p < st.length) (h : PotO n o) : Pot n p (st.set p o) := ⟨o, List.getElem?_set_self lt, h⟩
theorem Pot.app {n p : Nat} {st : DSt} {os : List O} (h : Pot n p st) : Pot n p (st ++ os) := by
  obtain ⟨o, e, h⟩ := h
  exact ⟨o, by rw [List.getElem?_append_left (List.getElem?_eq_some_iff.mp e).1]; exact e, h⟩
def g_take : DRs := fun ds st Q => ∃ (p : Nat) (z : Int) (n : Nat), ds = [.ref p, .int z] ∧ Pot (n + 1) p st ∧ 0 < z ∧ z ≤ 1000 ∧ ∀ (r : Int) (o : O), 0 ≤ r → r < z → PotO n o → Q (.int r) (st.set p o)
theorem sem_take (ds : List D) (st : DSt) (Q : DK) (h : g_take ds st Q) : F__law_take { nx := fun _ st' => Rt st Q .non st', rt := Rt st Q } (startD 5 ds) st := by
  obtain ⟨p, z, n, rfl, ⟨o, e, g, m, c, rfl, g0, g1, m0, m1, c0, c1⟩, z0, z1, q⟩ := h
  have lt : p < st.length := (List.getElem?_eq_some_iff.mp e).1
  have sq := seq_ref e
  have st5 : startD 5 [D.ref p, D.int z] = [some (.ref p), some (.int z), none, none, none] := rfl
  by_cases gp : 0 < g
  · simp [F__law_take, st5, sq, gp, setS_ref e, ixN, CDiv, z0]
    refine ⟨by omega, .inl (q _ _ (Int.emod_nonneg _ (by omega)) (Int.emod_lt_of_pos _ z0) ⟨_, _, _, rfl, Int.ediv_nonneg g0 (by omega), ?_, m0, m1, c0, by omega⟩)⟩
    exact Int.lt_of_le_of_lt (Int.ediv_le_self z g0) g1
  · have e2 : (st.set p (.lst [.int g, .int m, .int (c + 1)]))[p]? = some (.lst [.int g, .int m, .int (c + 1)]) := List.getElem?_set_self lt
    have sq2 := seq_ref e2
    simp [F__law_take, st5, sq, gp, setS_ref e, ixN, sq2]
    have r0 : 0 ≤ (c + 1) % 5 := Int.emod_nonneg _ (by decide)
    have r1 : (c + 1) % 5 < 5 := Int.emod_lt_of_pos _ (by decide)
    obtain ⟨pr, hpr, p0, p1⟩ : ∃ pr : Int, atI [D.int 2147483647, .int 2147483629, .int 2147483587, .int 2147483579, .int 2147483563] ((c + 1) % 5) = some (.int pr) ∧ 0 < pr ∧ pr ≤ 2147483647 := by
      have cs : (c + 1) % 5 = 0 ∨ (c + 1) % 5 = 1 ∨ (c + 1) % 5 = 2 ∨ (c + 1) % 5 = 3 ∨ (c + 1) % 5 = 4 := by omega
      rcases cs with e | e | e | e | e <;> rw [e]
      · exact ⟨2147483647, atI_nat (j := 0) rfl, by decide, by decide⟩
      · exact ⟨2147483629, atI_nat (j := 1) rfl, by decide, by decide⟩
      · exact ⟨2147483587, atI_nat (j := 2) rfl, by decide, by decide⟩
      · exact ⟨2147483579, atI_nat (j := 3) rfl, by decide, by decide⟩
      · exact ⟨2147483563, atI_nat (j := 4) rfl, by decide, by decide⟩
    rw [hpr]
    have b1 : 40009 * (c + 1) ≤ 40009 * 1000000 := by omega
    have b2 : 0 ≤ 40009 * (c + 1) := by omega
    have b3 : 0 ≤ 40009 * (c + 1) * (c + 1) := Int.mul_nonneg b2 (by omega)
    have b4 : 40009 * (c + 1) * (c + 1) ≤ (40009 * 1000000) * 1000000 := Int.mul_le_mul b1 (by omega) (by omega) (by decide)
    have ib : Builtin.Int.intBits (m + 40009 * (c + 1) * (c + 1) + 31) ≤ 64 := intBits_le_64 (by omega) (by omega)
    simp only [e_onO, e_onI]
    refine ⟨.inl ⟨by decide, by decide⟩, .inl ⟨by omega, by omega⟩, by omega, p0, .inl ⟨by decide, by decide⟩, ?_⟩
    generalize (m + 40009 * (c + 1) * (c + 1) + 31) ^ 3 = y
    have y0 : 0 ≤ y % pr := Int.emod_nonneg _ (by omega)
    have y1 : y % pr < pr := Int.emod_lt_of_pos _ p0
    refine ⟨.inl ⟨by omega, by omega⟩, ⟨by decide, by decide⟩, z0, .inl (q _ _ (Int.emod_nonneg _ (by omega)) (Int.emod_lt_of_pos _ z0) ⟨_, _, _, rfl, g0, g1, m0, m1, by omega, by omega⟩)⟩
theorem ar_take (ds : List D) (st : DSt) (Q : DK) (h : g_take ds st Q) : ds.length = 2 := by
  obtain ⟨p, z, n, rfl, _⟩ := h
  rfl
def g_pot : DRs := fun ds st Q => ∃ (ns : List Int) (x : D) (k : Nat), ds = [x, .int k] ∧ Scr ns x ∧ k ≤ 3 ∧ ∀ o, PotO 1000000 o → Q (.ref st.length) (st ++ [o])
theorem ar_pot (ds : List D) (st : DSt) (Q : DK) (h : g_pot ds st Q) : ds.length = 2 := by
  obtain ⟨ns, x, k, rfl, _⟩ := h
  rfl
theorem sem_pot (ds : List D) (st : DSt) (Q : DK) (h : g_pot ds st Q) : F__law_pot { nx := fun _ st' => Rt st Q .non st', rt := Rt st Q } (startD 4 ds) st := by
  obtain ⟨ns, x, k, rfl, hx, k3, q⟩ := h
  have sq := hx.seq
  have st4 : startD 4 [x, D.int (k : Nat)] = [some x, some (.int k), none, none] := rfl
  have e60 : (10 : Int) ^ 60 = 1000000000000000000000000000000000000000000000000000000000000 := by decide +kernel
  have ib1 : Builtin.Int.intBits 10 ≤ 64 := intBits_le_64 (by decide) (by decide)
  have ib60 : Builtin.Int.intBits (10 ^ 60) * 3 ≤ 2 ^ 27 := by decide +kernel
  have fin : ∀ (v : Int) (g : Int), 0 ≤ g → g < 10 ^ 400 → CMul (v % 2305843009213693951) 69621 ∧ CMul 104729 (k : Int) ∧ CMul (104729 * (k : Int)) k ∧ Rt st Q (.ref st.length) (st ++ [.lst [.int g, .int ((v % 2305843009213693951 * 69621 + 104729 * (k : Int) * (k : Int) + 71) % 2305843009213693921), .int 0]]) := fun v g g0 g1 => by
    have a0 : 0 ≤ v % 2305843009213693951 := Int.emod_nonneg _ (by decide)
    have a1 : v % 2305843009213693951 < 2305843009213693951 := Int.emod_lt_of_pos _ (by decide)
    refine ⟨.inl ⟨by omega, by omega⟩, .inl ⟨by decide, by decide⟩, .inl ⟨by omega, by omega⟩, .inl (q _ ⟨g, _, 0, rfl, g0, g1, Int.emod_nonneg _ (by decide), Int.lt_trans (Int.emod_lt_of_pos _ (by decide)) (by decide), by decide, by decide⟩)⟩
  by_cases lt : k < ns.length
  · have ha : atI (ns.map D.int) (k : Int) = some (.int ns[k]) := atI_nat (by rw [List.getElem?_map, List.getElem?_eq_getElem lt]; rfl)
    simp [F__law_pot, st4, lt, ha, sq]
    refine ⟨by omega, ?_⟩
    generalize (if ns[k] < 0 then -ns[k] else ns[k]) = w
    split
    · refine ⟨by omega, by decide +kernel, ?_⟩
      exact fin _ _ (Int.emod_nonneg _ (by decide)) (Int.lt_of_lt_of_le (Int.emod_lt_of_pos _ (by decide)) (by decide +kernel))
    · exact fin _ 0 (by decide) (by decide +kernel)
  · simp [F__law_pot, st4, lt, sq]
    refine ⟨.inl ⟨by decide, by decide⟩, by omega, ?_⟩
    generalize (if 17 * (k : Int) + 3 < 0 then -(17 * (k : Int) + 3) else 17 * (k : Int) + 3) = w
    split
    · refine ⟨by omega, by decide +kernel, ?_⟩
      exact fin _ _ (Int.emod_nonneg _ (by decide)) (Int.lt_of_lt_of_le (Int.emod_lt_of_pos _ (by decide)) (by decide +kernel))
    · exact fin _ 0 (by decide) (by decide +kernel)
theorem seqS_set {st : DSt} {p : Nat} {o : O} {x : D} (h : x ≠ .ref p) : seqS (st.set p o) x = seqS st x := by
  cases x with
  | ref n =>
    have ne : n ≠ p := fun e => h (by rw [e])
    unfold seqS
    simp only [List.getElem?_set_ne (fun e => ne e.symm)]
  | _ => rfl
theorem PotO.lst {n : Nat} {o : O} (h : PotO n o) : ∃ xs, o = .lst xs := by
  obtain ⟨g, m, c, e, _⟩ := h
  exact ⟨_, e⟩
def g_pick : DRs := fun ds st Q => ∃ (p : Nat) (x : D) (xs : List D) (n : Nat), ds = [.ref p, x] ∧ x ≠ .ref p ∧ seqS st x = some xs ∧ xs ≠ [] ∧ xs.length ≤ 1000 ∧ Pot (n + 1) p st ∧ ∀ (d : D) (o : O), d ∈ xs → PotO n o → Q d (st.set p o)
theorem ar_pick (ds : List D) (st : DSt) (Q : DK) (h : g_pick ds st Q) : ds.length = 2 := by
  obtain ⟨ns, x, xs, k, rfl, _⟩ := h
  rfl
theorem sem_pick (ds : List D) (st : DSt) (Q : DK) (h : g_pick ds st Q) : F__law_pick g_take { nx := fun _ st' => Rt st Q .non st', rt := Rt st Q } (startD 2 ds) st := by
  obtain ⟨p, x, xs, n, rfl, ne, sq, nn, l, pot, q⟩ := h
  have st2 : startD 2 [D.ref p, x] = [some (.ref p), some x] := rfl
  have l0 : 0 < xs.length := List.length_pos_iff.mpr nn
  simp [F__law_pick, st2, sq]
  refine ⟨p, _, n, rfl, pot, by omega, by omega, fun r o r0 r1 po => ?_⟩
  show onO (seqS (st.set p o) x) _
  rw [seqS_set ne, sq]
  have lt : r.toNat < xs.length := by omega
  have ha : atI xs r = some xs[r.toNat] := by
    have z := atI_nat (xs := xs) (j := r.toNat) (v := xs[r.toNat]) (List.getElem?_eq_getElem lt)
    rw [Int.toNat_of_nonneg r0] at z
    exact z
  simp only [e_onO, e_onI, ha]
  exact .inl (q _ o (List.getElem_mem lt) po)
def lineI (n : Nat) (b : Int) : List Int := (List.range n).map fun i : Nat => (b + (i : Int)) % (n : Int)
theorem take_same {st st1 : DSt} {junk : List O} (l : st1.length = st.length) : (st1 ++ junk).take st.length = st1 := by
  rw [← l]
  simp
theorem cloS_app {st st1 : DSt} {junk : List O} (l : st1.length = st.length) (cs : ∀ (i : Nat) (o : O), st1[i]? = some o → st[i]? = some o ∨ cloO st.length o = true) : cloS st st.length (st1 ++ junk) := fun i o lt e => by
  rw [List.getElem?_append_left (by omega)] at e
  exact cs i o e
theorem rt_drop {st st1 : DSt} {junk : List O} {d : D} {Q : DK} (l : st1.length = st.length) (c : clo st.length d = true) (cs : ∀ (i : Nat) (o : O), st1[i]? = some o → st[i]? = some o ∨ cloO st.length o = true) (q : Q d st1) : Rt st Q d (st1 ++ junk) :=
  .inr (.inl ⟨st.length, Nat.le_refl _, by rw [List.length_append]; omega, c, cloS_app l cs, by rw [take_same l]; exact q⟩)
theorem clos_ints (n : Nat) : ∀ ns : List Int, clos n (ns.map D.int) = true
  | [] => by simp [clos]
  | i :: ns => by
    rw [List.map_cons]
    simp only [clos, clo, Bool.true_and]
    exact clos_ints n ns
theorem PotO.clo {n m : Nat} {o : O} (h : PotO n o) : cloO m o = true := by
  obtain ⟨g, a, c, rfl, _⟩ := h
  simp [cloO, clos, DL.clo]
theorem cs_set {st : DSt} {p n m : Nat} {o : O} (h : PotO n o) : ∀ (i : Nat) (u : O), (st.set p o)[i]? = some u → st[i]? = some u ∨ cloO m u = true := fun i u e => by
  by_cases z : i = p
  · subst z
    have lt : i < st.length := by
      have := (List.getElem?_eq_some_iff.mp e).1
      rw [List.length_set] at this
      exact this
    rw [List.getElem?_set_self lt] at e
    cases e
    exact .inr h.clo
  · rw [List.getElem?_set_ne (fun w => z w.symm)] at e
    exact .inl e
mutual
theorem pdT_clo {n : Nat} : ∀ {d : D} {p : PyData}, pdT d = some p → clo n d = true
  | .non, _, e => by simp [clo]
  | .bl b, _, e => by simp [clo]
  | .int b, _, e => by simp [clo]
  | .str b, _, e => by simp [clo]
  | .tup ds, _, e => by
    simp only [pdT, Option.map_eq_some_iff] at e
    obtain ⟨ps, e, rfl⟩ := e
    simp only [clo]
    exact pdTs_clo e
  | .tuk ds, _, e => by
    simp only [pdT, Option.map_eq_some_iff] at e
    obtain ⟨ps, e, rfl⟩ := e
    simp only [clo]
    exact pdTs_clo e
  | .lst ds, _, e => by
    simp only [pdT, Option.map_eq_some_iff] at e
    obtain ⟨ps, e, rfl⟩ := e
    simp only [clo]
    exact pdTs_clo e
  | .scr ds, _, e => by
    simp only [pdT, Option.map_eq_some_iff] at e
    obtain ⟨ps, e, rfl⟩ := e
    simp only [clo]
    exact pdTs_clo e
  | .ref n, _, e => by simp [pdT] at e
theorem pdTs_clo {n : Nat} : ∀ {d : List D} {p : List PyData}, pdTs d = some p → clos n d = true
  | [], _, e => by simp [clos]
  | d :: ds, _, e => by
    unfold pdTs at e
    cases q : pdT d with
    | none => rw [q] at e; cases e
    | some y =>
      rw [q] at e
      simp only [Option.map_eq_some_iff] at e
      obtain ⟨ps, e, rfl⟩ := e
      simp only [clos, pdT_clo q, pdTs_clo e, Bool.and_self]
end
theorem Sm.clo {k c n : Nat} {d : D} (h : Sm k c d) : DL.clo n d = true := by
  obtain ⟨p, e, _⟩ := h
  exact pdT_clo e
theorem append_ref {st : DSt} {n : Nat} {xs : List D} {y : D} {Q : DK} (e : st[n]? = some (.lst xs)) (lt : xs.length < sizeLine) (q : Q .non (st.set n (.lst (xs ++ [y])))) : mAppend (.ref n) [y] st Q := by
  unfold mAppend
  simp only [e_on1, onL, e]
  exact ⟨lt, q⟩
end DL
namespace DL
open PySem PySem.Spec PyProof.Rows L2 LamX PySem.W SL
theorem all_map_id {α : Type} (p : α → Bool) (xs : List α) : (xs.map p).all id = xs.all p := by rw [List.all_map]; rfl
theorem all_end {α : Type} {xs : List α} {p : α → Bool} {Q : DK} {st : DSt} (q : Q (.bl (xs.all p)) st) : finT (fun d st1 => dAllR (fun bs => bs.all id) [d] st1 Q) (xs.map fun x => D.bl (p x)) st := by
  simp only [e_finT, e_allR, boolsD_map, e_onO]
  rw [all_map_id]
  exact q
theorem tuple_end {Q : DK} {xs : List D} {st : DSt} (q : Q (.tup xs) st) : finT (fun d st1 => dTuple [d] st1 Q) xs st := q
def rowD (ns : List Int) : D := .tup (ns.map D.int)
def rowsD (nss : List (List Int)) : D := .tup (nss.map rowD)
@[simp] theorem flat_int (i : Int) : flatD (.int i) = true := rfl
theorem iteF' {c : Bool} {A B : Prop} (h : c = false) (b : B) : if c = true then A else B := by rw [h]; exact iteF b
theorem at_map {α β : Type} {f : α → β} {xs : List α} {i : Nat} {x : α} (h : xs[i]? = some x) : atI (xs.map f) (i : Int) = some (f x) := atI_nat (by rw [List.getElem?_map, h]; rfl)
def dec (nss : List (List Int)) (a b : Nat) : Bool := if a = b then !decide ((a : Int) ∈ nss.getD a []) else (decide ((b : Int) ∈ nss.getD a []) != decide ((a : Int) ∈ nss.getD b []))
theorem getD_at {nss : List (List Int)} {a : Nat} (h : a < nss.length) : nss[a]? = some (nss.getD a []) := by
  rw [List.getD_eq_getElem?_getD, List.getElem?_eq_getElem h]
  rfl
theorem rows_at {nss : List (List Int)} {a : Nat} (h : a < nss.length) : atI (nss.map rowD) (a : Int) = some (rowD (nss.getD a [])) := at_map (getD_at h)
theorem compL_gen {g : DTG} {te : DTE} {r : DEnv} {Q : List D → DSt → Prop} {st : DSt} {xs : List D} {α : Type} (f : α → D) (h : α → D) :
    ∀ (items : List α) (acc : List D), (∀ a ∈ items, ∀ Q' : DEnv → DSt → Prop, (∀ r2, Ev te r2 st (h a) → Q' r2 st) → g (f a) r st Q') → Q (acc ++ items.map h) st → compL ⟨xs, none⟩ g dtYes te r Q (items.map f) acc st
  | [], acc, _, q => by
    have q' : Q acc st := by simpa using q
    exact q'
  | a :: as, acc, hh, q => by
    show g (f a) r st _
    refine hh a List.mem_cons_self _ fun r2 e2 => ?_
    show te r2 st _
    refine e2 _ (compL_gen f h as _ (fun b hb => hh b (List.mem_cons_of_mem _ hb)) ?_)
    simpa using q
theorem compI_rng {te : DTE} {r : DEnv} {Nx : List D → DSt → Prop} {st : DSt} {xs : List D} {i : Nat} (h : D → D) :
    ∀ (items acc : List D), acc.length + items.length ≤ sizeLine → (∀ d ∈ items, Ev te (r.set i (some d)) st (h d)) → Nx (acc ++ items.map h) st → compI ⟨xs, none⟩ (gNm i) dtYes te r Nx items acc st
  | [], acc, _, _, q => by
    have q' : Nx acc st := by simpa using q
    exact q'
  | d :: ds, acc, le, hh, q => by
    rw [List.length_cons] at le
    show te (r.set i (some d)) st _
    refine hh d List.mem_cons_self _ ⟨by omega, compI_rng h ds _ (by rw [List.length_append]; simp; omega) (fun b hb => hh b (List.mem_cons_of_mem _ hb)) ?_⟩
    simpa using q
@[simp] theorem e_lc2 {f f1 : DTI} {g g1 : DTG} {tt tt1 : DTT} {te : DTE} {vs vs1 : List Nat} {fin : DK → List D → DSt → Prop} {r : DEnv} {st : DSt} {Q : DK} : dLc2G f g tt f1 g1 tt1 te vs vs1 fin r st Q = f r st fun I st1 => comp2 I g tt f1 g1 tt1 te (wipeD r vs) vs1 (fin Q) I.items [] st1 := rfl
structure Tb (n : Nat) (nss : List (List Int)) : Prop where
  len : nss.length = n
  asc : ∀ a : Nat, a < n → (nss.getD a []).Pairwise (· < ·)
  inr : ∀ a : Nat, a < n → ∀ x ∈ nss.getD a [], 0 ≤ x ∧ x < (n : Int)
  one : ∀ a b : Nat, a < n → b < n → dec nss a b = true
theorem Tb.row {n : Nat} {nss : List (List Int)} (t : Tb n nss) {ns : List Int} (h : ns ∈ nss) : ns.Pairwise (· < ·) ∧ ∀ x ∈ ns, 0 ≤ x ∧ x < (n : Int) := by
  obtain ⟨a, ha⟩ := List.mem_iff_getElem?.mp h
  have lt : a < n := by rw [← t.len]; exact (List.getElem?_eq_some_iff.mp ha).1
  have e : nss.getD a [] = ns := by rw [List.getD_eq_getElem?_getD, ha]; rfl
  rw [← e]
  exact ⟨t.asc a lt, t.inr a lt⟩
theorem asc_len {n : Nat} : ∀ {ns : List Int} {lo : Int}, ns.Pairwise (· < ·) → (∀ x ∈ ns, lo ≤ x ∧ x < (n : Int)) → (ns.length : Int) ≤ (n : Int) - lo ∨ ns = []
  | [], lo, _, _ => .inr rfl
  | a :: r, lo, h, hx => by
    have h1 := List.pairwise_cons.mp h
    have ha := hx a List.mem_cons_self
    rcases asc_len (lo := a + 1) h1.2 (fun x m => ⟨by have := h1.1 x m; omega, (hx x (List.mem_cons_of_mem _ m)).2⟩) with z | z
    · left; rw [List.length_cons]; omega
    · left; rw [z]; simp; omega
theorem Tb.few {n : Nat} {nss : List (List Int)} (t : Tb n nss) {ns : List Int} (h : ns ∈ nss) : ns.length ≤ n := by
  obtain ⟨a, b⟩ := t.row h
  rcases asc_len (lo := 0) a b with z | z
  · omega
  · rw [z]; simp
theorem all_end0 {ds : List D} {Q : DK} {st : DSt} (h : ∀ d ∈ ds, d = .bl true) (q : Q (.bl true) st) : finT (fun d st1 => dAllR (fun bs => bs.all id) [d] st1 Q) ds st := by
  have e : ds = (List.replicate ds.length true).map D.bl := by
    refine List.ext_getElem (by simp) fun i h1 h2 => ?_
    rw [h _ (List.getElem_mem h1)]
    simp
  rw [e]
  refine all_end (p := id) ?_
  rw [show (List.replicate ds.length true).all id = true by simp]
  exact q
end DL
namespace DL
open PySem PySem.Spec PyProof.Rows L2 LamX PySem.W SL
def sortI (ns : List Int) : List Int := ns.mergeSort fun a b => decide (a ≤ b)
theorem sortI_perm (ns : List Int) : (sortI ns).Perm ns := List.mergeSort_perm _ _
theorem sortI_sorted (ns : List Int) : (sortI ns).Pairwise (· ≤ ·) := by
  have h := List.pairwise_mergeSort (le := fun a b : Int => decide (a ≤ b)) (fun a b c h1 h2 => by simp at h1 h2 ⊢; omega) (fun a b => by simp; omega) ns
  exact h.imp fun h => by simpa using h
theorem asc_one : ∀ {xs ys : List Int}, xs.Pairwise (· < ·) → ys.Pairwise (· < ·) → (∀ a, a ∈ xs ↔ a ∈ ys) → xs = ys
  | [], [], _, _, _ => rfl
  | [], y :: ys, _, _, h => by have := (h y).mpr List.mem_cons_self; cases this
  | x :: xs, [], _, _, h => by have := (h x).mp List.mem_cons_self; cases this
  | x :: xs, y :: ys, h1, h2, h => by
    have h1' := List.pairwise_cons.mp h1
    have h2' := List.pairwise_cons.mp h2
    have e : x = y := by
      rcases List.mem_cons.mp ((h x).mp List.mem_cons_self) with z | z
      · exact z
      · rcases List.mem_cons.mp ((h y).mpr List.mem_cons_self) with w | w
        · exact w.symm
        · have := h2'.1 x z
          have := h1'.1 y w
          omega
    subst e
    rw [asc_one h1'.2 h2'.2 fun a => ?_]
    constructor
    · intro ha
      rcases List.mem_cons.mp ((h a).mp (List.mem_cons_of_mem _ ha)) with z | z
      · have := h1'.1 a ha; omega
      · exact z
    · intro ha
      rcases List.mem_cons.mp ((h a).mpr (List.mem_cons_of_mem _ ha)) with z | z
      · have := h2'.1 a ha; omega
      · exact z
def R (n : Nat) : List Int := (List.range n).map fun i : Nat => (i : Int)
theorem R_mem {n : Nat} {x : Int} : x ∈ R n ↔ 0 ≤ x ∧ x < n := by
  unfold R
  rw [List.mem_map]
  constructor
  · rintro ⟨i, hi, rfl⟩
    have := List.mem_range.mp hi
    omega
  · rintro ⟨h0, h1⟩
    exact ⟨x.toNat, List.mem_range.mpr (by omega), by omega⟩
theorem R_nodup (n : Nat) : (R n).Nodup := by
  unfold R
  refine List.Pairwise.map _ (fun a b h => ?_) List.nodup_range
  omega
theorem R_length (n : Nat) : (R n).length = n := by unfold R; rw [List.length_map, List.length_range]
def pos (ns : List Int) (x : Int) : Nat := (ixOf x ns).getD 0
theorem pos_at {ns : List Int} {x : Int} (h : x ∈ ns) : ns[pos ns x]? = some x ∧ ixOf x ns = some (pos ns x) := by
  obtain ⟨j, e⟩ := ixOf_mem h
  unfold pos
  rw [e]
  exact ⟨(ixOf_spec e).1, rfl⟩
theorem nd_at {α : Type} {ns : List α} (nd : ns.Nodup) {i j : Nat} {x : α} (h1 : ns[i]? = some x) (h2 : ns[j]? = some x) : i = j := by
  obtain ⟨l1, q1⟩ := List.getElem?_eq_some_iff.mp h1
  obtain ⟨l2, q2⟩ := List.getElem?_eq_some_iff.mp h2
  exact (List.getElem_inj nd).mp (q1.trans q2.symm)
theorem mem_behind {ns : List Int} (nd : ns.Nodup) {x : Int} {i : Nat} : x ∈ ns.drop (i + 1) ↔ x ∈ ns ∧ i < pos ns x := by
  constructor
  · intro h
    have hx := List.mem_of_mem_drop h
    obtain ⟨j, hj⟩ := List.mem_iff_getElem?.mp h
    rw [List.getElem?_drop] at hj
    have := nd_at nd (pos_at hx).1 hj
    exact ⟨hx, by omega⟩
  · rintro ⟨hx, lt⟩
    refine List.mem_iff_getElem?.mpr ⟨pos ns x - (i + 1), ?_⟩
    rw [List.getElem?_drop, show i + 1 + (pos ns x - (i + 1)) = pos ns x by omega]
    exact (pos_at hx).1
theorem pos_inj {ns : List Int} {x y : Int} (hx : x ∈ ns) (hy : y ∈ ns) (e : pos ns x = pos ns y) : x = y := by
  have h1 := (pos_at hx).1
  rw [e, (pos_at hy).1] at h1
  exact (Option.some.inj h1).symm
def ordT (ns : List Int) : List (List Int) := (List.range ns.length).map fun k : Nat => sortI (ns.drop (pos ns (k : Int) + 1))
theorem ordT_length (ns : List Int) : (ordT ns).length = ns.length := by unfold ordT; rw [List.length_map, List.length_range]
theorem ordT_at {ns : List Int} {a : Nat} (h : a < ns.length) : (ordT ns).getD a [] = sortI (ns.drop (pos ns (a : Int) + 1)) := by
  unfold ordT
  rw [List.getD_eq_getElem?_getD, List.getElem?_map, List.getElem?_eq_getElem (by rw [List.length_range]; exact h), List.getElem_range]
  rfl
structure Ord (n : Nat) (ns : List Int) : Prop where
  perm : ns.Perm (R n)
theorem Ord.len {n : Nat} {ns : List Int} (o : Ord n ns) : ns.length = n := by rw [o.perm.length_eq, R_length]
theorem Ord.nd {n : Nat} {ns : List Int} (o : Ord n ns) : ns.Nodup := o.perm.nodup_iff.mpr (R_nodup n)
theorem Ord.mem {n : Nat} {ns : List Int} (o : Ord n ns) {x : Int} : x ∈ ns ↔ 0 ≤ x ∧ x < n := by rw [o.perm.mem_iff, R_mem]
theorem Ord.beats {n : Nat} {ns : List Int} (o : Ord n ns) {a : Nat} (h : a < n) {x : Int} : x ∈ (ordT ns).getD a [] ↔ (0 ≤ x ∧ x < n) ∧ pos ns a < pos ns x := by
  rw [ordT_at (by rw [o.len]; exact h), (sortI_perm _).mem_iff, mem_behind o.nd, o.mem]
theorem sort_asc {ns : List Int} (nd : ns.Nodup) : (sortI ns).Pairwise (· < ·) := by
  have h1 := sortI_sorted ns
  have h2 : (sortI ns).Nodup := (sortI_perm ns).nodup_iff.mpr nd
  have h3 := h1.and h2
  exact h3.imp fun h => by have := h.1; have := h.2; omega
theorem Ord.tb {n : Nat} {ns : List Int} (o : Ord n ns) : Tb n (ordT ns) := by
  refine ⟨by rw [ordT_length, o.len], fun a ha => ?_, fun a ha x hx => ?_, fun a b ha hb => ?_⟩
  · rw [ordT_at (by rw [o.len]; exact ha)]
    exact sort_asc (List.Nodup.sublist (List.drop_sublist _ _) o.nd)
  · exact ((o.beats ha).mp hx).1
  · unfold dec
    by_cases e : a = b
    · rw [if_pos e]
      have z : ¬ (a : Int) ∈ (ordT ns).getD a [] := fun h => by
        have := ((o.beats ha).mp h).2
        omega
      rw [decide_eq_false z]
      rfl
    · rw [if_neg e]
      have ma : (a : Int) ∈ ns := o.mem.mpr (by omega)
      have mb : (b : Int) ∈ ns := o.mem.mpr (by omega)
      have ne : pos ns a ≠ pos ns b := fun z => by
        have := pos_inj ma mb z
        omega
      rcases Nat.lt_or_gt_of_ne ne with z | z
      · have h1 : (b : Int) ∈ (ordT ns).getD a [] := (o.beats ha).mpr ⟨by omega, z⟩
        have h2 : ¬ (a : Int) ∈ (ordT ns).getD b [] := fun h => by have := ((o.beats hb).mp h).2; omega
        rw [decide_eq_true h1, decide_eq_false h2]
        rfl
      · have h1 : ¬ (b : Int) ∈ (ordT ns).getD a [] := fun h => by have := ((o.beats ha).mp h).2; omega
        have h2 : (a : Int) ∈ (ordT ns).getD b [] := (o.beats hb).mpr ⟨by omega, z⟩
        rw [decide_eq_false h1, decide_eq_true h2]
        rfl
theorem cutN (xs : List D) (k : Nat) : cutD xs (some (k : Int)) none = xs.drop k := by
  unfold cutD
  have z : HT.sIx xs.length 0 (some (k : Int)) = min k xs.length := HT.sIx_nat xs.length 0 k
  rw [z, HT.sIx_none]
  by_cases h : k ≤ xs.length
  · rw [Nat.min_eq_left h]
    exact List.take_of_length_le (by rw [List.length_drop]; omega)
  · rw [Nat.min_eq_right (by omega), List.drop_length, List.drop_eq_nil_of_le (by omega)]
    simp
end DL
namespace DL
open PySem PySem.Spec PyProof.Rows L2 LamX PySem.W SL
def Ring (t : List (List Int)) (a b c : Int) : Prop := 0 ≤ a ∧ a < t.length ∧ b ∈ t.getD a.toNat [] ∧ c ∈ t.getD b.toNat [] ∧ a ∈ t.getD c.toNat []
def noRing (t : List (List Int)) : Bool := (List.range t.length).all fun a => (t.getD a []).all fun b => (t.getD b.toNat []).all fun c => !decide ((a : Int) ∈ t.getD c.toNat [])
theorem noRing_iff {t : List (List Int)} : noRing t = true ↔ ∀ a b c, ¬ Ring t a b c := by
  unfold noRing
  simp only [List.all_eq_true, List.mem_range, Bool.not_eq_true', decide_eq_false_iff_not]
  constructor
  · rintro h a b c ⟨a0, a1, hb, hc, ha⟩
    refine h a.toNat (by omega) b hb c hc ?_
    rw [Int.toNat_of_nonneg a0]
    exact ha
  · intro h a la b hb c hc ha
    exact h a b c ⟨by omega, by omega, by simpa using hb, hc, ha⟩
theorem Tb.at_ {n : Nat} {t : List (List Int)} (tb : Tb n t) {x : Int} (h0 : 0 ≤ x) (h1 : x < n) : atI (t.map rowD) x = some (rowD (t.getD x.toNat [])) := by
  have z := rows_at (nss := t) (a := x.toNat) (by rw [tb.len]; omega)
  rw [Int.toNat_of_nonneg h0] at z
  exact z
theorem Tb.mem {n : Nat} {t : List (List Int)} (tb : Tb n t) {x y : Int} (h0 : 0 ≤ x) (h1 : x < n) (h : y ∈ t.getD x.toNat []) : 0 ≤ y ∧ y < n := tb.inr x.toNat (by omega) y h
theorem Ord.noRing {n : Nat} {ns : List Int} (o : Ord n ns) : DL.noRing (ordT ns) = true := by
  refine noRing_iff.mpr fun a b c h => ?_
  obtain ⟨a0, a1, hb, hc, ha⟩ := h
  rw [ordT_length, o.len] at a1
  have b1 := (o.beats (a := a.toNat) (by omega)).mp hb
  have c1 := (o.beats (a := b.toNat) (by omega)).mp hc
  have d1 := (o.beats (a := c.toNat) (by omega)).mp ha
  rw [Int.toNat_of_nonneg a0] at b1
  rw [Int.toNat_of_nonneg b1.1.1] at c1
  rw [Int.toNat_of_nonneg c1.1.1] at d1
  omega
end DL
namespace DL
open PySem PySem.Spec PyProof.Rows L2 LamX PySem.W SL
def ixP (ps : List (List Int)) (s : Int) (k : Nat) : Nat := pos (ps.getD k []) s
def Far (ps : List (List Int)) (s : Int) (a b : Nat) : Prop := ixP ps s b < ixP ps s a ∨ (ixP ps s a = ixP ps s b ∧ a < b)
end DL
namespace DL
open PySem PySem.Spec PyProof.Rows L2 LamX PySem.W SL
def Beats (t : List (List Int)) (a b : Nat) : Prop := (b : Int) ∈ t.getD a []
theorem Tb.dec2 {n : Nat} {t : List (List Int)} (tb : Tb n t) {a b : Nat} (ha : a < n) (hb : b < n) (ne : a ≠ b) : Beats t a b ↔ ¬ Beats t b a := by
  have z := tb.one a b ha hb
  unfold dec at z
  rw [if_neg ne] at z
  unfold Beats
  by_cases h1 : (b : Int) ∈ t.getD a []
  · by_cases h2 : (a : Int) ∈ t.getD b []
    · rw [decide_eq_true h1, decide_eq_true h2] at z; cases z
    · exact ⟨fun _ => h2, fun _ => h1⟩
  · by_cases h2 : (a : Int) ∈ t.getD b []
    · exact ⟨fun w => absurd w h1, fun w => absurd h2 w⟩
    · rw [decide_eq_false h1, decide_eq_false h2] at z; cases z
theorem Tb.irr {n : Nat} {t : List (List Int)} (tb : Tb n t) {a : Nat} (ha : a < n) : ¬ Beats t a a := by
  have z := tb.one a a ha ha
  unfold dec at z
  rw [if_pos rfl] at z
  unfold Beats
  simpa using z
theorem Tb.trans {n : Nat} {t : List (List Int)} (tb : Tb n t) (no : noRing t = true) {a b c : Nat} (ha : a < n) (hb : b < n) (hc : c < n) (h1 : Beats t a b) (h2 : Beats t b c) : Beats t a c := by
  by_cases e : a = c
  · subst e
    have ne : a ≠ b := fun z => by subst z; exact tb.irr ha h1
    exact absurd h2 ((tb.dec2 ha hb ne).mp h1)
  · refine (tb.dec2 ha hc e).mpr fun h3 => noRing_iff.mp no a b c ⟨by omega, by rw [tb.len]; omega, ?_, ?_, ?_⟩
    · rw [Int.toNat_natCast]; exact h1
    · rw [Int.toNat_natCast]; exact h2
    · rw [Int.toNat_natCast]; exact h3
theorem sub_len {xs ys : List Int} (hx : xs.Nodup) (h : ∀ x ∈ xs, x ∈ ys) : xs.length ≤ ys.length := by
  induction xs generalizing ys with
  | nil => simp
  | cons a r ih =>
    have ha := h a List.mem_cons_self
    have z := ih (ys := ys.erase a) (List.nodup_cons.mp hx).2 fun x hx' => by
      have ne : x ≠ a := fun e => (List.nodup_cons.mp hx).1 (e ▸ hx')
      exact (List.mem_erase_of_ne ne).mpr (h x (List.mem_cons_of_mem _ hx'))
    rw [List.length_erase_of_mem ha] at z
    have := List.length_pos_of_mem ha
    rw [List.length_cons]
    omega
theorem asc_nodup {xs : List Int} (h : xs.Pairwise (· < ·)) : xs.Nodup := h.imp fun h => by omega
theorem Tb.more {n : Nat} {t : List (List Int)} (tb : Tb n t) (no : noRing t = true) {a b : Nat} (ha : a < n) (hb : b < n) (h : Beats t a b) : (t.getD b []).length < (t.getD a []).length := by
  have nb : (b : Int) ∉ t.getD b [] := tb.irr hb
  have z := sub_len (xs := (b : Int) :: t.getD b []) (ys := t.getD a []) (List.nodup_cons.mpr ⟨nb, asc_nodup (tb.asc b hb)⟩) fun x hx => by
    rcases List.mem_cons.mp hx with e | e
    · rw [e]; exact h
    · have r := tb.inr b hb x e
      have w := tb.trans no ha hb (c := x.toNat) (by omega) h (by unfold Beats; rw [Int.toNat_of_nonneg r.1]; exact e)
      unfold Beats at w
      rw [Int.toNat_of_nonneg r.1] at w
      exact w
  rw [List.length_cons] at z
  omega
def ordN (t : List (List Int)) : List Nat := (List.range t.length).mergeSort fun a b => decide (-((t.getD a []).length : Int) ≤ -((t.getD b []).length : Int))
def ordOf (t : List (List Int)) : List Int := (ordN t).map fun i : Nat => (i : Int)
theorem ordOf_ord {n : Nat} {t : List (List Int)} (l : t.length = n) : Ord n (ordOf t) := by
  refine ⟨?_⟩
  unfold ordOf R
  rw [← l]
  exact (List.mergeSort_perm _ _).map _
theorem ordOf_pos {n : Nat} {t : List (List Int)} (tb : Tb n t) (no : noRing t = true) {a b : Nat} (ha : a < n) (hb : b < n) (ne : a ≠ b) : pos (ordOf t) a < pos (ordOf t) b ↔ Beats t a b := by
  have o := ordOf_ord tb.len
  have ma : (a : Int) ∈ ordOf t := o.mem.mpr (by omega)
  have mb : (b : Int) ∈ ordOf t := o.mem.mpr (by omega)
  have pw : (ordN t).Pairwise fun a b => decide (-((t.getD a []).length : Int) ≤ -((t.getD b []).length : Int)) = true := by
    refine List.pairwise_mergeSort (fun a b c h1 h2 => ?_) (fun a b => ?_) _
    · simp only [decide_eq_true_eq] at h1 h2 ⊢
      omega
    · simp only [Bool.or_eq_true, decide_eq_true_eq]
      omega
  have up : ∀ x y : Nat, (x : Int) ∈ ordOf t → (y : Int) ∈ ordOf t → pos (ordOf t) x < pos (ordOf t) y → (t.getD y []).length ≤ (t.getD x []).length := by
    intro x y hx hy lt
    have px := (pos_at hx).1
    have py := (pos_at hy).1
    unfold ordOf at px py
    rw [List.getElem?_map] at px py
    cases ex : (ordN t)[pos (ordOf t) x]? with
    | none => unfold ordOf at ex; rw [ex] at px; cases px
    | some u =>
      cases ey : (ordN t)[pos (ordOf t) y]? with
      | none => unfold ordOf at ey; rw [ey] at py; cases py
      | some v =>
        have ex' := ex
        have ey' := ey
        unfold ordOf at ex ey
        rw [ex] at px
        rw [ey] at py
        have e1 : u = x := by
          have h : (u : Int) = x := Option.some.inj px
          omega
        have e2 : v = y := by
          have h : (v : Int) = y := Option.some.inj py
          omega
        subst e1
        subst e2
        obtain ⟨l1, q1⟩ := List.getElem?_eq_some_iff.mp ex'
        obtain ⟨l2, q2⟩ := List.getElem?_eq_some_iff.mp ey'
        have z := List.pairwise_iff_getElem.mp pw _ _ l1 l2 lt
        rw [q1, q2] at z
        simp only [decide_eq_true_eq] at z
        omega
  constructor
  · intro lt
    have z := up a b ma mb lt
    refine (tb.dec2 ha hb ne).mpr fun h => ?_
    have := tb.more no hb ha h
    omega
  · intro h
    have m := tb.more no ha hb h
    rcases Nat.lt_trichotomy (pos (ordOf t) a) (pos (ordOf t) b) with z | z | z
    · exact z
    · have := pos_inj ma mb z
      omega
    · have := up b a mb ma z
      omega
theorem Tb.ordT {n : Nat} {t : List (List Int)} (tb : Tb n t) (no : noRing t = true) : t = DL.ordT (ordOf t) := by
  have o := ordOf_ord tb.len
  refine List.ext_getElem (by rw [ordT_length, o.len, tb.len]) fun a h1 h2 => ?_
  have ha : a < n := by rw [← tb.len]; exact h1
  have e1 : t[a] = t.getD a [] := by rw [List.getD_eq_getElem?_getD, List.getElem?_eq_getElem h1]; rfl
  have e2 : (DL.ordT (ordOf t))[a] = (DL.ordT (ordOf t)).getD a [] := by rw [List.getD_eq_getElem?_getD, List.getElem?_eq_getElem h2]; rfl
  rw [e1, e2]
  refine asc_one (tb.asc a ha) (o.tb.asc a ha) fun x => ?_
  rw [o.beats ha]
  constructor
  · intro hx
    have r := tb.inr a ha x hx
    have e : ((x.toNat : Nat) : Int) = x := Int.toNat_of_nonneg r.1
    refine ⟨r, ?_⟩
    rw [← e] at hx ⊢
    have ne : a ≠ x.toNat := fun z => by
      rw [← z] at hx
      exact tb.irr ha hx
    exact (ordOf_pos tb no ha (by omega) ne).mpr hx
  · rintro ⟨r, lt⟩
    have e : ((x.toNat : Nat) : Int) = x := Int.toNat_of_nonneg r.1
    rw [← e] at lt ⊢
    have ne : a ≠ x.toNat := fun z => by
      rw [← z] at lt
      omega
    exact (ordOf_pos tb no ha (by omega) ne).mp lt
end DL
namespace DL
open PySem PySem.Spec PyProof.Rows L2 LamX PySem.W SL
def At (sl : List Int) (s k : Nat) : Prop := sl[s]? = some (k : Int)
structure Lay (m n : Nat) (sl : List Int) : Prop where
  len : sl.length = n
  rng : ∀ x ∈ sl, -1 ≤ x ∧ x < m
  inj : ∀ s t k, At sl s k → At sl t k → s = t
theorem At.one {sl : List Int} {s j k : Nat} (h : At sl s j) (q : At sl s k) : j = k := by
  unfold At at h q
  rw [h] at q
  have := Option.some.inj q
  omega
theorem At.lt {sl : List Int} {s k : Nat} (h : At sl s k) : s < sl.length := (List.getElem?_eq_some_iff.mp h).1
theorem Lay.key {m n : Nat} {sl : List Int} (L : Lay m n sl) {s k : Nat} (h : At sl s k) : k < m ∧ s < n := by
  have := L.rng _ (List.mem_of_getElem? h)
  have := h.lt
  have := L.len
  omega
theorem At.ne {sl : List Int} {s k : Nat} (h : At sl s k) : sl[s]? ≠ some (-1) := by
  unfold At at h
  rw [h]
  intro z
  have := Option.some.inj z
  omega
theorem at_set {sl : List Int} {s t a k : Nat} (h : s < sl.length) : At (sl.set s (a : Int)) t k ↔ (t = s ∧ k = a) ∨ (t ≠ s ∧ At sl t k) := by
  unfold At
  by_cases e : t = s
  · subst e
    rw [List.getElem?_set_self h]
    constructor
    · intro z
      have := Option.some.inj z
      exact .inl ⟨rfl, by omega⟩
    · rintro (⟨_, z⟩ | ⟨z, _⟩)
      · rw [z]
      · exact absurd rfl z
  · rw [List.getElem?_set_ne (fun z => e z.symm)]
    constructor
    · exact fun z => .inr ⟨e, z⟩
    · rintro (⟨z, _⟩ | ⟨_, z⟩)
      · exact absurd z e
      · exact z
theorem Lay.set {m n : Nat} {sl : List Int} (L : Lay m n sl) {s a : Nat} (hs : s < n) (ha : a < m) (fr : ∀ t, ¬ At sl t a) : Lay m n (sl.set s (a : Int)) := by
  have ls : s < sl.length := by rw [L.len]; exact hs
  refine ⟨by rw [List.length_set]; exact L.len, fun x hx => ?_, fun u t k h1 h2 => ?_⟩
  · rcases List.mem_or_eq_of_mem_set hx with z | z
    · exact L.rng x z
    · omega
  · rcases (at_set ls).mp h1 with ⟨e1, e2⟩ | ⟨n1, q1⟩ <;> rcases (at_set ls).mp h2 with ⟨e3, e4⟩ | ⟨n2, q2⟩
    · omega
    · subst e2; exact absurd q2 (fr t)
    · subst e4; exact absurd q1 (fr u)
    · exact L.inj _ _ _ q1 q2
structure Setg (m n : Nat) (P : List (List Int)) (R : List (List (List Int))) : Prop where
  pl : P.length = m
  po : ∀ o ∈ P, Ord n o
  rl : R.length = n
  rt : ∀ t ∈ R, Tb m t
def pr (P : List (List Int)) (a i : Nat) : Nat := ((P.getD a []).getD i 0).toNat
def rk (P : List (List Int)) (a s : Nat) : Nat := pos (P.getD a []) (s : Int)
section
variable {m n : Nat} {P : List (List Int)} {R : List (List (List Int))}
theorem getD_memL {α : Type} {l : List α} {i : Nat} {d : α} (h : i < l.length) : l.getD i d ∈ l := by
  rw [List.getD_eq_getElem?_getD, List.getElem?_eq_getElem h]
  exact List.getElem_mem h
theorem Setg.ord (S : Setg m n P R) {a : Nat} (h : a < m) : Ord n (P.getD a []) := S.po _ (getD_memL (by rw [S.pl]; exact h))
theorem Setg.tb (S : Setg m n P R) {s : Nat} (h : s < n) : Tb m (R.getD s []) := S.rt _ (getD_memL (by rw [S.rl]; exact h))
theorem Setg.pr_at (S : Setg m n P R) {a i : Nat} (ha : a < m) (hi : i < n) : (P.getD a [])[i]? = some (pr P a i : Int) ∧ pr P a i < n := by
  have o := S.ord ha
  have li : i < (P.getD a []).length := by rw [o.len]; exact hi
  have e := List.getElem?_eq_getElem li
  have r := o.mem.mp (List.getElem_mem li)
  unfold pr
  rw [List.getD_eq_getElem?_getD (l := P.getD a []), e]
  exact ⟨by congr 1; show _ = (((P.getD a [])[i].toNat : Nat) : Int); omega, by show (P.getD a [])[i].toNat < n; omega⟩
theorem Setg.rk_at (S : Setg m n P R) {a s : Nat} (ha : a < m) (hs : s < n) : (P.getD a [])[rk P a s]? = some (s : Int) ∧ rk P a s < n ∧ ixOf (s : Int) (P.getD a []) = some (rk P a s) := by
  have o := S.ord ha
  have h := pos_at (ns := P.getD a []) (x := (s : Int)) (o.mem.mpr (by omega))
  have l := (List.getElem?_eq_some_iff.mp h.1).1
  rw [o.len] at l
  exact ⟨h.1, l, h.2⟩
theorem Setg.rk_pr (S : Setg m n P R) {a i : Nat} (ha : a < m) (hi : i < n) : rk P a (pr P a i) = i := by
  obtain ⟨e, l⟩ := S.pr_at ha hi
  exact nd_at (S.ord ha).nd (S.rk_at ha l).1 e
def Ahead (P : List (List Int)) (sl : List Int) : Prop := ∀ s k, At sl s k → ∀ j, j < rk P k s → ∃ k', At sl (pr P k j) k'
structure Good (m n : Nat) (P : List (List Int)) (sl : List Int) : Prop where
  lay : Lay m n sl
  ah : Ahead P sl
structure Go (m n : Nat) (P : List (List Int)) (sl : List Int) (a i : Nat) : Prop where
  g : Good m n P sl
  ha : a < m
  hi : i < n
  fr : ∀ t, ¬ At sl t a
  ask : ∀ j, j < i → ∃ k', At sl (pr P a j) k'
  room : ∃ t, t < n ∧ sl[t]? = some (-1)
theorem taken_set {sl : List Int} {s a : Nat} (h : s < sl.length) {t k : Nat} (tk : At sl t k) : ∃ k', At (sl.set s (a : Int)) t k' := by
  by_cases e : t = s
  · exact ⟨a, (at_set h).mpr (.inl ⟨e, rfl⟩)⟩
  · exact ⟨k, (at_set h).mpr (.inr ⟨e, tk⟩)⟩
def wt (P : List (List Int)) (n : Nat) (t : Nat) (x : Int) : Nat := if x < 0 then 0 else n - rk P x.toNat t
def pot (P : List (List Int)) (n : Nat) (sl : List Int) : Nat := ((List.range sl.length).map fun t => wt P n t (sl.getD t (-1))).sum
theorem Go.start {sl : List Int} {a : Nat} (g : Good m n P sl) (ha : a < m) (fr : ∀ t, ¬ At sl t a) (room : ∃ t, t < n ∧ sl[t]? = some (-1)) : Go m n P sl a 0 := by
  have r := room
  obtain ⟨t, lt, _⟩ := r
  exact ⟨g, ha, by omega, fr, fun j lj => absurd lj (Nat.not_lt_zero _), room⟩
end
end DL
namespace DL
open PySem PySem.Spec PyProof.Rows L2 LamX PySem.W SL
end DL
namespace DL
open PySem PySem.Spec PyProof.Rows L2 LamX PySem.W SL
def F_flows (g_flows_behind : DRs) : DTS := (sRet (dCB g_flows_behind (daCons (dLcG (wSeq (dVar 0)) (gNm 1) dtYes (dTup (daCons (dC (.int 1)) (daCons (dVar 1) daNil))) [1] finT) daNil)))
def F_flows_behind (g_require_room : DRs) (g_flow_behind : DRs) : DTS := (sSeq (sDrop (dCB g_require_room (daCons (dVar 0) daNil))) (sSeq (sSet 1 (dC (.int 0))) (sSeq (sFor (wSeq (dVar 0)) (gTp 2 (gsCons (gNm 2) (gsCons (gNm 3) gsNil))) (sSet 1 (dCB g_flow_behind (daCons (dVar 1) (daCons (dVar 2) (daCons (dVar 3) daNil)))))) (sSeq (sSet 4 (dLstN daNil)) (sSeq (sFor (wSeq (dVar 0)) (gTp 2 (gsCons (gNm 2) (gsCons (gNm 3) gsNil))) (sSeq (sSet 1 (dCB g_flow_behind (daCons (dVar 1) (daCons (dVar 2) (daCons (dVar 3) daNil))))) (sDrop (dMtL mAppend (dVar 4) (daCons (dVar 1) daNil))))) (sRet (dCB dTuple (daCons (dVar 4) daNil))))))))
def F_require_room : DTS := (sSeq (sSet 1 (dCB dSum (daCons (dLcG (wSeq (dVar 0)) (gTp 2 (gsCons (gNm 2) (gsCons (gNm 3) gsNil))) dtYes (dOp dMul (dVar 2) (dVar 3)) [2, 3] finT) daNil))) (sIf (dTest (dOp dGt (dVar 1) (dCB dSum (daCons (dLcG (wSeq (dVar 0)) (gTp 2 (gsCons (gNm 2) (gsCons (gNm 3) gsNil))) dtYes (dVar 2) [2, 3] finT) daNil)))) sNever sNext))
def F_flow_behind : DTS := (sRet (dCB dMax2 (daCons (dC (.int 0)) (daCons (dOp dAdd (dVar 0) (dOp dMul (dVar 1) (dOp dSub (dVar 2) (dC (.int 1))))) daNil))))
def F_taken (g_flows : DRs) : DTS := (sSeq (sSet 1 (dCB g_flows (daCons (dVar 0) daNil))) (sRet (dCB dTuple (daCons (dLcG (wRng1 (daCons (dCB dLen (daCons (dVar 0) daNil)) daNil)) (gNm 2) (dTest (dOp dGt (dOp dAdd (dOp dIx (dVar 1) (dOp dSub (dVar 2) (dC (.int 1)))) (dOp dIx (dVar 0) (dVar 2))) (dC (.int 0)))) (dVar 2) [2] finT) daNil))))
def F_distance_sum (g_flows : DRs) : DTS := (sRet (dCB dSum (daCons (dCB g_flows (daCons (dVar 0) daNil)) daNil)))
def F_greatest_distance (g_waits : DRs) : DTS := (sRet (dMaxDef (dCB g_waits (daCons (dVar 0) daNil)) (dC (.int 0))))
def F_square_sum (g_waits : DRs) : DTS := (sRet (dCB dSum (daCons (dLcG (wSeq (dCB g_waits (daCons (dVar 0) daNil))) (gNm 1) dtYes (dOp dMul (dVar 1) (dVar 1)) [1] finT) daNil)))
def F_waits (g_flows : DRs) : DTS := (sSeq (sSet 1 (dCB g_flows (daCons (dVar 0) daNil))) (sRet (dLc2G (wRng1 (daCons (dCB dLen (daCons (dVar 0) daNil)) daNil)) (gNm 2) dtYes (wRng1 (daCons (dOp dIx (dVar 0) (dVar 2)) daNil)) (gNm 3) dtYes (dOp dAdd (dOp dIx (dVar 1) (dOp dSub (dVar 2) (dC (.int 1)))) (dVar 3)) [2, 3] [3] finT)))
end DL
namespace DL
open PySem PySem.Spec PyProof.Rows L2 LamX PySem.W SL
theorem sm_row {ns : List Int} {m : Nat} (h : ∀ x ∈ ns, -100 ≤ x ∧ x ≤ 1000) (l : ns.length ≤ m) : Sm 1 (m * 22 + 3) (rowD ns) := by
  unfold rowD
  refine sm_tup (k := 0) (c := 20) (fun d hd => ?_) (by rw [List.length_map]; exact l)
  obtain ⟨i, hi, rfl⟩ := List.mem_map.mp hd
  exact sm_int (h i hi).1 (h i hi).2
theorem sm_rows {nss : List (List Int)} {m k : Nat} (h : ∀ ns ∈ nss, (∀ x ∈ ns, -100 ≤ x ∧ x ≤ 1000) ∧ ns.length ≤ m) (l : nss.length ≤ k) : Sm 2 (k * ((m * 22 + 3) + 2) + 3) (rowsD nss) := by
  unfold rowsD
  refine sm_tup (k := 1) (fun d hd => ?_) (by rw [List.length_map]; exact l)
  obtain ⟨i, hi, rfl⟩ := List.mem_map.mp hd
  exact sm_row (h i hi).1 (h i hi).2
theorem Ord.sm {n : Nat} {ns : List Int} (o : Ord n ns) (h : n ≤ 16) : Sm 1 355 (rowD ns) := by
  have z := sm_row (ns := ns) (m := 16) (fun x hx => by have := o.mem.mp hx; omega) (by rw [o.len]; exact h)
  exact z
theorem Tb.sm {n : Nat} {t : List (List Int)} (o : Tb n t) (h : n ≤ 16) : Sm 2 5715 (rowsD t) := by
  have z := sm_rows (nss := t) (m := 16) (k := 16) (fun ns hn => ⟨fun x hx => by have := (o.row hn).2 x hx; omega, by have := o.few hn; omega⟩) (by rw [o.len]; exact h)
  exact z
def txt (d : D) : Str := match pdT d with | some p => p.shown | none => ""
theorem repr_txt {st : DSt} {d : D} {Q : DK} {k c : Nat} (h : Sm k c d) (nr : ∀ n, d ≠ .ref n) (hk : k ≤ 40) (hc : c ≤ 1000000) (q : Q (.str (txt d)) st) : dRepr [d] st Q := by
  obtain ⟨p, e, el⟩ := h
  have e2 : pdS st d = some p := by
    cases d with
    | ref n => exact absurd rfl (nr n)
    | _ => exact e
  have e3 : txt d = p.shown := by unfold txt; rw [e]
  rw [e3] at q
  simp only [e_repr, e2, e_onO]
  refine ⟨⟨el.sh, by have := el.dp; omega, ?_⟩, q⟩
  have := el.ln
  have : (1000000 : Nat) ≤ sizeLine := by decide
  omega
theorem repr_ref {st : DSt} {n : Nat} {xs : List D} {Q : DK} {k c : Nat} (e : st[n]? = some (.lst xs)) (h : Sm k c (.lst xs)) (hk : k ≤ 40) (hc : c ≤ 1000000) (q : Q (.str (txt (.lst xs))) st) : dRepr [.ref n] st Q := by
  obtain ⟨p, e1, el⟩ := h
  have e2 : pdS st (.ref n) = some p := by
    unfold pdS
    simp only [e]
    rw [← e1]
    simp [pdT]
  have e3 : txt (.lst xs) = p.shown := by unfold txt; rw [e1]
  rw [e3] at q
  simp only [e_repr, e2, e_onO]
  refine ⟨⟨el.sh, by have := el.dp; omega, ?_⟩, q⟩
  have := el.ln
  have : (1000000 : Nat) ≤ sizeLine := by decide
  omega
end DL
namespace DL
open PySem PySem.Spec PyProof.Rows L2 LamX PySem.W SL
def g_right : DRs := fun ds st Q => ∃ p : Nat, ds = [.ref p] ∧ Pot 100000 p st ∧ ∀ o : O, PotO 0 o → Q (.bl true) (st.set p o)
theorem ar_right (ds : List D) (st : DSt) (Q : DK) (h : g_right ds st Q) : ds.length = 1 := by
  obtain ⟨_, rfl, _⟩ := h
  rfl
theorem set_same {st : DSt} {p : Nat} {o : O} (e : st[p]? = some o) : st.set p o = st := by
  refine List.ext_getElem? fun i => ?_
  by_cases w : i = p
  · subst w; rw [List.getElem?_set_self (List.getElem?_eq_some_iff.mp e).1, e]
  · rw [List.getElem?_set_ne (fun w' => w w'.symm)]
instance {ps : List (List Int)} {s : Int} {a b : Nat} : Decidable (Far ps s a b) := by unfold Far; infer_instance
end DL
namespace DL
open PySem PySem.Spec PyProof.Rows L2 LamX PySem.W SL
end DL
namespace DL
open PySem PySem.Spec PyProof.Rows L2 LamX PySem.W SL
def g_law : DRs := fun ds st Q => ∃ (ns : List Int) (x : D), ds = [x] ∧ Scr ns x ∧ ns.length ≤ 63 ∧ ∀ st' : DSt, Q (.bl true) st'
theorem ar_law (ds : List D) (st : DSt) (Q : DK) (h : g_law ds st Q) : ds.length = 1 := by
  obtain ⟨_, _, rfl, _⟩ := h
  rfl
theorem compL_true {te : DTE} {r : DEnv} {Q : List D → DSt → Prop} {xs : List D} {i : Nat} : ∀ (items acc : List D) (st : DSt), (∀ d ∈ items, ∀ (st : DSt) (Q' : DK), (∀ st4, Q' (.bl true) st4) → te (r.set i (some d)) st Q') → (∀ st', Q (acc ++ List.replicate items.length (.bl true)) st') → compL ⟨xs, none⟩ (gNm i) dtYes te r Q items acc st
  | [], acc, st, _, q => by
    have q' : Q acc st := by simpa using q st
    exact q'
  | d :: ds, acc, st, h, q => by
    show te (r.set i (some d)) st _
    refine h d List.mem_cons_self st _ fun st4 => compL_true ds _ st4 (fun d' hd => h d' (List.mem_cons_of_mem _ hd)) fun st' => ?_
    have z := q st'
    rw [List.length_cons, List.replicate_succ] at z
    simpa using z
theorem sem_law (ds : List D) (st : DSt) (Q : DK) (h : g_law ds st Q) : F_law g_pot g_right { nx := fun _ st' => Rt st Q .non st', rt := Rt st Q } (startD 2 ds) st := by
  obtain ⟨ns, x, rfl, hx, few, q⟩ := h
  have st2 : startD 2 [x] = [some x, none] := rfl
  have big : (1000 : Nat) ≤ sizeLine := by decide
  simp only [F_law, st2, e_var, e_C, e_op, e_neg, e_isN, e_notN, e_and, e_or, e_not, e_test, e_tAnd, e_tOr, e_tNot, e_tYes, e_if, e_aNil, e_aCons, e_tup, e_lst, e_lstN, e_len0, e_len1, e_len2, e_len3, e_len4, e_len5, e_cb, e_on1, e_on2, e_onI, e_onB, e_onO, e_onO0, e_onOO, e_I0, e_I, e_add, e_addT, e_addS, e_addL, e_addLR, e_addRL, e_addRR, e_mul, e_mulL, e_mulT, e_rev, e_revT, e_ix, e_eqI, e_eqS, e_eqB, e_neI, e_neS, e_neB, e_ltI, e_chain, e_len, e_abs, e_2I, e_tuple1, e_tuple2, e_tuple3, e_listT, e_listN, e_allR, e_seqT, e_seqK, e_seqL, e_isi, e_isB, e_notB, e_truth, e_next, e_seq, e_drop, e_ret, e_retN, e_ifS, e_set, e_asg, e_par, e_nm, e_gsN, e_gsC, e_gTpK, e_gTpL, e_sum, e_maxL, e_minL, e_maxDef, e_int, e_intB, e_aug, e_on3, e_par3, e_newK, e_getK, e_keyI, e_keyS, e_inK, e_ninK, e_putK, e_lenK, e_lstS, e_seqX, e_gTpT, e_oN, e_oS, e_sl, e_slT, e_slL, e_finT, e_finN, e_index, e_idxT, e_idxL, e_mIx, e_ixST, e_ixSL, e_mtL, e_w, e_w1, e_w2, e_wE, e_wZ, e_itK, e_itT, e_itL, e_itT2, e_itL2, e_lc, e_for, e_wipe0, e_wipe, e_okI, e_okR, e_gSb, List.getElem?_cons_zero, List.getElem?_cons_succ, List.set_cons_zero, List.set_cons_succ, hx.seq, List.length_map]
  generalize hj : (if (if (ns.length : Int) < 3 then (ns.length : Int) else 3) > 1 then (if (ns.length : Int) < 3 then (ns.length : Int) else 3) else 1) = j
  have j3 : 1 ≤ j ∧ j ≤ 3 := by
    rw [← hj]
    split <;> (try split) <;> omega
  refine ⟨⟨by omega, by omega⟩, by rw [rgD_length]; omega, ?_⟩
  refine compL_true _ [] st (fun d hd st1 Q' q' => ?_) fun st' => ?_
  · obtain ⟨k, lk, rfl⟩ := rgD_mem hd
    simp only [e_var, e_C, e_op, e_neg, e_isN, e_notN, e_and, e_or, e_not, e_test, e_tAnd, e_tOr, e_tNot, e_tYes, e_if, e_aNil, e_aCons, e_tup, e_lst, e_lstN, e_len0, e_len1, e_len2, e_len3, e_len4, e_len5, e_cb, e_on1, e_on2, e_onI, e_onB, e_onO, e_onO0, e_onOO, e_I0, e_I, e_add, e_addT, e_addS, e_addL, e_addLR, e_addRL, e_addRR, e_mul, e_mulL, e_mulT, e_rev, e_revT, e_ix, e_eqI, e_eqS, e_eqB, e_neI, e_neS, e_neB, e_ltI, e_chain, e_len, e_abs, e_2I, e_tuple1, e_tuple2, e_tuple3, e_listT, e_listN, e_allR, e_seqT, e_seqK, e_seqL, e_isi, e_isB, e_notB, e_truth, e_next, e_seq, e_drop, e_ret, e_retN, e_ifS, e_set, e_asg, e_par, e_nm, e_gsN, e_gsC, e_gTpK, e_gTpL, e_sum, e_maxL, e_minL, e_maxDef, e_int, e_intB, e_aug, e_on3, e_par3, e_newK, e_getK, e_keyI, e_keyS, e_inK, e_ninK, e_putK, e_lenK, e_lstS, e_seqX, e_gTpT, e_oN, e_oS, e_sl, e_slT, e_slL, e_finT, e_finN, e_index, e_idxT, e_idxL, e_mIx, e_ixST, e_ixSL, e_mtL, e_w, e_w1, e_w2, e_wE, e_wZ, e_itK, e_itT, e_itL, e_itT2, e_itL2, e_lc, e_for, e_wipe0, e_wipe, e_okI, e_okR, e_gSb, List.getElem?_cons_zero, List.getElem?_cons_succ, List.set_cons_zero, List.set_cons_succ]
    refine ⟨ns, x, k, by rw [Int.zero_add], hx, by omega, fun o po => ⟨st1.length, rfl, ⟨o, by simp, po.less (by decide)⟩, fun o2 _ => q' _⟩⟩
  · rw [List.nil_append]
    exact all_end0 (fun d hd => List.eq_of_mem_replicate hd) (.inl (q _))
abbrev qLam (x : Str) : Str := (x ++ ".<locals>.") ++ "<lambda>"
def tabsOf : List (Addr × Addr) → List Str → List (Addr × Str)
  | c :: cs, n :: ns => (c.2, qLam n) :: tabsOf cs ns
  | _, _ => []
theorem tabsOf_mem : ∀ {cs : List (Addr × Addr)} {ns : List Str} (p : Addr × Str), p ∈ tabsOf cs ns → ∃ q ∈ cs, q.2 = p.1
  | c :: cs, n :: ns, p, h => by
    rcases List.mem_cons.mp h with z | z
    · rw [z]; exact ⟨c, List.mem_cons_self, rfl⟩
    · obtain ⟨q, hq, e⟩ := tabsOf_mem p z
      exact ⟨q, List.mem_cons_of_mem _ hq, e⟩
  | [], _, p, h => by simp [tabsOf] at h
  | _ :: _, [], p, h => by simp [tabsOf] at h
end DL
namespace DL
open PySem PySem.Spec PyProof.Rows L2 LamX PySem.W SL
mutual
theorem pdT_eqv : ∀ {d : D} {p : PyData}, pdT d = some p → PyData.eqv p p = true
  | .non, _, e => by simp [pdT] at e; subst e; simp [PyData.eqv]
  | .bl b, _, e => by simp [pdT] at e; subst e; simp [PyData.eqv]
  | .int b, _, e => by simp [pdT] at e; subst e; simp [PyData.eqv]
  | .str b, _, e => by simp [pdT] at e; subst e; simp [PyData.eqv]
  | .tup ds, _, e => by
    simp only [pdT, Option.map_eq_some_iff] at e
    obtain ⟨ps, e, rfl⟩ := e
    simp only [PyData.eqv]
    exact pdTs_eqv e
  | .tuk ds, _, e => by
    simp only [pdT, Option.map_eq_some_iff] at e
    obtain ⟨ps, e, rfl⟩ := e
    simp only [PyData.eqv]
    exact pdTs_eqv e
  | .lst ds, _, e => by
    simp only [pdT, Option.map_eq_some_iff] at e
    obtain ⟨ps, e, rfl⟩ := e
    simp only [PyData.eqv]
    exact pdTs_eqv e
  | .scr ds, _, e => by
    simp only [pdT, Option.map_eq_some_iff] at e
    obtain ⟨ps, e, rfl⟩ := e
    simp only [PyData.eqv]
    exact pdTs_eqv e
  | .ref n, _, e => by simp [pdT] at e
theorem pdTs_eqv : ∀ {d : List D} {p : List PyData}, pdTs d = some p → PyData.eqvAll p p = true
  | [], _, e => by simp [pdTs] at e; subst e; simp [PyData.eqvAll]
  | d :: ds, _, e => by
    unfold pdTs at e
    cases q : pdT d with
    | none => rw [q] at e; cases e
    | some y =>
      rw [q] at e
      simp only [Option.map_eq_some_iff] at e
      obtain ⟨ps, e, rfl⟩ := e
      simp only [PyData.eqvAll, pdT_eqv q, pdTs_eqv e, Bool.and_self]
end
theorem ne_tup {st : DSt} {k c : Nat} {xs : List D} {Q : DK} (sm : Sm k c (.tup xs)) (hk : k ≤ 50) (q : Q (.bl false) st) : dEqG true (.tup xs) (.tup xs) st Q := by
  obtain ⟨p, e1, el⟩ := sm
  have p1 : pdS st (.tup xs) = some p := by rw [← e1]; rfl
  show dEqD true (.tup xs) (.tup xs) st Q
  unfold dEqD
  rw [p1]
  refine ⟨⟨Sm.shaped el hk, Sm.shaped el hk⟩, ?_⟩
  show Q (.bl (!PyData.eqv p p)) st
  rw [pdT_eqv e1]
  exact q
end DL
namespace DL
open PySem PySem.Spec PyProof.Rows L2 LamX PySem.W SL
theorem R_ord (n : Nat) : Ord n (R n) := ⟨.refl _⟩
theorem o1 : Ord 1 [0] := R_ord 1
theorem t1 : ordT [0] = [[]] := by
  have tb := o1.tb
  have l := tb.len
  obtain ⟨r, e⟩ := List.length_eq_one_iff.mp l
  have rr : r = [] := by
    refine List.eq_nil_iff_forall_not_mem.mpr fun x hx => ?_
    have m := tb.inr 0 (by omega) x (by rw [e]; exact hx)
    have ii := tb.irr (a := 0) (by omega)
    refine ii ?_
    unfold Beats
    rw [e]
    have : x = 0 := by omega
    rw [this] at hx
    exact hx
  rw [e, rr]
end DL
namespace DL
open PySem PySem.Spec PyProof.Rows L2 LamX PySem.W SL
end DL
namespace DL
open PySem PySem.Spec PyProof.Rows L2 LamX PySem.W SL
end DL
namespace DL
open PySem PySem.Spec PyProof.Rows L2 LamX PySem.W SL
end DL
namespace ML
def step (f c : Int) : Int := if f + c - 1 > 0 then f + c - 1 else 0
def run (f : Int) (c : List Int) : Int := c.foldl step f
def scan (f : Int) : List Int → List Int
  | [] => []
  | x :: r => step f x :: scan (step f x) r
theorem step_nn (f c : Int) : 0 ≤ step f c := by unfold step; split <;> omega
theorem step_mono {f g c : Int} (h : f ≤ g) : step f c ≤ step g c := by unfold step; split <;> split <;> omega
theorem run_nn {f : Int} (h : 0 ≤ f) : ∀ c : List Int, 0 ≤ run f c := by
  intro c
  induction c generalizing f with
  | nil => exact h
  | cons x r ih => exact ih (step_nn f x)
theorem run_mono {f g : Int} (h : f ≤ g) : ∀ c : List Int, run f c ≤ run g c := by
  intro c
  induction c generalizing f g with
  | nil => exact h
  | cons x r ih => exact ih (step_mono h)
theorem run_cons (f x : Int) (r : List Int) : run f (x :: r) = run (step f x) r := rfl
theorem run_append (f : Int) (a b : List Int) : run f (a ++ b) = run (run f a) b := by unfold run; rw [List.foldl_append]
theorem scan_length (f : Int) : ∀ c : List Int, (scan f c).length = c.length := by
  intro c
  induction c generalizing f with
  | nil => rfl
  | cons x r ih => show _ + 1 = _ + 1; rw [ih]
theorem scan_nn (f : Int) : ∀ (c : List Int) (x : Int), x ∈ scan f c → 0 ≤ x := by
  intro c
  induction c generalizing f with
  | nil => intro x h; cases h
  | cons y r ih =>
    intro x h
    rcases List.mem_cons.mp h with z | z
    · rw [z]; exact step_nn _ _
    · exact ih _ x z
theorem scan_at (f : Int) : ∀ (c : List Int) (i : Nat), i < c.length → (scan f c)[i]? = some (run f (c.take (i + 1))) := by
  intro c
  induction c generalizing f with
  | nil => intro i h; cases h
  | cons x r ih =>
    intro i h
    cases i with
    | zero => rfl
    | succ i =>
      show (scan (step f x) r)[i]? = _
      rw [ih _ i (by simpa using h)]
      rfl
def sumL (c : List Int) : Int := c.foldr (· + ·) 0
theorem sumL_cons (x : Int) (r : List Int) : sumL (x :: r) = x + sumL r := rfl
theorem run_either : ∀ (c : List Int) (f g : Int), f ≤ g → run g c = run f c ∨ run g c = g + sumL c - c.length := by
  intro c
  induction c with
  | nil => intro f g h; right; show g = g + 0 - ((0 : Nat) : Int); omega
  | cons x r ih =>
    intro f g h
    rw [run_cons, run_cons, sumL_cons, List.length_cons]
    by_cases e : g + x - 1 > 0
    · have eg : step g x = g + x - 1 := by unfold step; rw [if_pos e]
      rcases ih (step f x) (step g x) (step_mono h) with z | z
      · exact .inl z
      · right; rw [z, eg]; omega
    · have eg : step g x = 0 := by unfold step; rw [if_neg e]
      have ef : step f x = 0 := by unfold step; rw [if_neg (by omega)]
      left; rw [eg, ef]
theorem run_again {c : List Int} (room : sumL c ≤ c.length) : run (run 0 c) c = run 0 c := by
  have nn : 0 ≤ run 0 c := run_nn (Int.le_refl 0) c
  rcases run_either c 0 (run 0 c) nn with z | z
  · exact z
  · have := run_mono nn c
    omega
theorem scan_zero : ∀ (c : List Int) (x y : Int), y < x → run x c = run y c → (0 : Int) ∈ scan x c := by
  intro c
  induction c with
  | nil => intro x y h e; have : x = y := e; omega
  | cons a r ih =>
    intro x y h e
    by_cases q : step x a = step y a
    · have : step x a = 0 := by
        unfold step at q ⊢
        split at q <;> split at q <;> omega
      show (0 : Int) ∈ step x a :: scan (step x a) r
      rw [this]
      exact List.mem_cons_self
    · have : step y a < step x a := by
        have := step_mono (c := a) (Int.le_of_lt h)
        omega
      exact List.mem_cons_of_mem _ (ih _ _ this e)
def flowsI (c : List Int) : List Int := scan (run 0 c) c
theorem flowsI_length (c : List Int) : (flowsI c).length = c.length := scan_length _ _
theorem scan_last {c : List Int} (f : Int) (h : c ≠ []) : (scan f c)[c.length - 1]? = some (run f c) := by
  have l := List.length_pos_iff.mpr h
  rw [scan_at f c (c.length - 1) (by omega), show c.length - 1 + 1 = c.length by omega, List.take_length]
theorem flowsI_zero {c : List Int} (h : c ≠ []) (room : sumL c ≤ c.length) : (0 : Int) ∈ flowsI c := by
  by_cases e : run 0 c = 0
  · have z := scan_last (run 0 c) h
    rw [run_again room, e] at z
    unfold flowsI
    rw [e]
    exact List.mem_of_getElem? z
  · have nn : 0 ≤ run 0 c := run_nn (Int.le_refl 0) c
    exact scan_zero c (run 0 c) 0 (by omega) (run_again room)
structure Flow (n : Nat) (c f : Nat → Int) : Prop where
  per : ∀ i, f (i + n) = f i
  nn : ∀ i, 0 ≤ f i
  rec_ : ∀ i, f (i + 1) = step (f i) (c (i + 1))
  zero : ∃ z, f z = 0
def cy (c : List Int) (i : Nat) : Int := c.getD (i % c.length) 0
theorem cy_per (c : List Int) (i : Nat) : cy c (i + c.length) = cy c i := by unfold cy; rw [Nat.add_mod_right]
theorem cy_lt {c : List Int} {i : Nat} (h : i < c.length) : cy c i = c.getD i 0 := by unfold cy; rw [Nat.mod_eq_of_lt h]
theorem per_mul {n : Nat} {f : Nat → Int} (h : ∀ i, f (i + n) = f i) (i : Nat) : ∀ m, f (i + n * m) = f i
  | 0 => rfl
  | m + 1 => by rw [Nat.mul_succ, ← Nat.add_assoc, h, per_mul h i m]
theorem per_mod {n : Nat} {f : Nat → Int} (h : ∀ i, f (i + n) = f i) (i : Nat) : f (i % n) = f i := by
  have z := per_mul h (i % n) (i / n)
  rw [Nat.mod_add_div] at z
  exact z.symm
theorem getD_of {c : List Int} {i : Nat} {x : Int} (h : c[i]? = some x) : c.getD i 0 = x := by rw [List.getD_eq_getElem?_getD, h]; rfl
theorem flowsI_flow {c : List Int} (h : c ≠ []) (room : sumL c ≤ c.length) : Flow c.length (cy c) (cy (flowsI c)) := by
  have l := List.length_pos_iff.mpr h
  have lf := flowsI_length c
  have at_ : ∀ i, i < c.length → cy (flowsI c) i = run (run 0 c) (c.take (i + 1)) := fun i hi => by
    rw [cy_lt (by rw [lf]; exact hi)]
    exact getD_of (scan_at _ _ _ hi)
  have per : ∀ i, cy (flowsI c) (i + c.length) = cy (flowsI c) i := fun i => by
    have z := cy_per (flowsI c) i
    rw [lf] at z
    exact z
  refine ⟨per, fun i => ?_, fun i => ?_, ?_⟩
  · rw [← per_mod per, at_ _ (Nat.mod_lt _ l)]
    exact run_nn (run_nn (Int.le_refl 0) c) _
  · rw [← per_mod per i, ← per_mod per (i + 1), ← per_mod (cy_per c) (i + 1)]
    have lt := Nat.mod_lt i l
    have tk : ∀ k, k < c.length → c.take (k + 1) = c.take k ++ [c.getD k 0] := fun k hk => by
      rw [List.take_succ, List.getElem?_eq_getElem hk, List.getD_eq_getElem?_getD, List.getElem?_eq_getElem hk]
      rfl
    by_cases e : i % c.length + 1 = c.length
    · have e2 : (i + 1) % c.length = 0 := by
        have : (i + 1) % c.length = (i % c.length + 1) % c.length := by rw [Nat.add_mod]; simp
        rw [this, e, Nat.mod_self]
      rw [e2, at_ _ l, at_ _ lt, e, List.take_length, tk 0 l, run_append, run_again room, cy_lt l]
      rfl
    · have e2 : (i + 1) % c.length = i % c.length + 1 := by
        have : (i + 1) % c.length = (i % c.length + 1) % c.length := by rw [Nat.add_mod]; simp
        rw [this, Nat.mod_eq_of_lt (by omega)]
      rw [e2, at_ _ (by omega), at_ _ lt, tk _ (show i % c.length + 1 < c.length by omega), run_append, cy_lt (by omega)]
      rfl
  · obtain ⟨i, hi⟩ := List.mem_iff_getElem?.mp (flowsI_zero h room)
    refine ⟨i, ?_⟩
    have lt := (List.getElem?_eq_some_iff.mp hi).1
    rw [cy_lt lt]
    exact getD_of hi
theorem Flow.le {n : Nat} {c f g : Nat → Int} (F : Flow n c f) (G : Flow n c g) (n0 : 0 < n) (i : Nat) : f i ≤ g i := by
  obtain ⟨z, hz⟩ := F.zero
  have up : ∀ k, f (z + k) ≤ g (z + k) := by
    intro k
    induction k with
    | zero => rw [Nat.add_zero, hz]; exact G.nn z
    | succ k ih => rw [← Nat.add_assoc, F.rec_, G.rec_]; exact step_mono ih
  have e : i + n * (z + 1) = z + (i + n * (z + 1) - z) := by
    have : z + 1 ≤ n * (z + 1) := Nat.le_mul_of_pos_left _ n0
    omega
  rw [← per_mul F.per i (z + 1), ← per_mul G.per i (z + 1), e]
  exact up _
theorem Flow.one {n : Nat} {c f g : Nat → Int} (F : Flow n c f) (G : Flow n c g) (n0 : 0 < n) (i : Nat) : f i = g i := by
  have := F.le G n0 i
  have := G.le F n0 i
  omega
end ML
namespace ML
def sumN (n : Nat) (g : Nat → Int) : Int := match n with
  | 0 => 0
  | n + 1 => sumN n g + g n
theorem sumN_congr {n : Nat} {g h : Nat → Int} (e : ∀ i, i < n → g i = h i) : sumN n g = sumN n h := by
  induction n with
  | zero => rfl
  | succ n ih => show _ + _ = _ + _; rw [ih fun i hi => e i (by omega), e n (by omega)]
theorem sumN_add (n : Nat) (g h : Nat → Int) : sumN n (fun i => g i + h i) = sumN n g + sumN n h := by
  induction n with
  | zero => rfl
  | succ n ih => show sumN n (fun i => g i + h i) + (g n + h n) = (sumN n g + g n) + (sumN n h + h n); rw [ih]; omega
theorem sumN_le {n : Nat} {g h : Nat → Int} (e : ∀ i, i < n → g i ≤ h i) : sumN n g ≤ sumN n h := by
  induction n with
  | zero => exact Int.le_refl _
  | succ n ih =>
    show sumN n g + g n ≤ sumN n h + h n
    have := ih fun i hi => e i (by omega)
    have := e n (by omega)
    omega
theorem sumN_const (n : Nat) (x : Int) : sumN n (fun _ => x) = n * x := by
  induction n with
  | zero => show (0 : Int) = ((0 : Nat) : Int) * x; simp
  | succ n ih => show sumN n (fun _ => x) + x = ((n + 1 : Nat) : Int) * x; rw [ih, Int.natCast_add, Int.add_mul]; simp
theorem sumN_first (n : Nat) (g : Nat → Int) : sumN (n + 1) g = g 0 + sumN n (fun i => g (i + 1)) := by
  induction n with
  | zero => show (0 : Int) + g 0 = g 0 + 0; omega
  | succ n ih =>
    show sumN (n + 1) g + g (n + 1) = g 0 + (sumN n (fun i => g (i + 1)) + g (n + 1))
    rw [ih]
    omega
theorem sumN_shift {n : Nat} {g : Nat → Int} (per : g n = g 0) : sumN n (fun i => g (i + 1)) = sumN n g := by
  have a := sumN_first n g
  have b : sumN (n + 1) g = sumN n g + g n := rfl
  omega
theorem sumN_shifts {n : Nat} {g : Nat → Int} (per : ∀ i, g (i + n) = g i) (s : Nat) : sumN n (fun i => g (i + s)) = sumN n g := by
  induction s with
  | zero => rfl
  | succ s ih =>
    rw [← ih, ← sumN_shift (g := fun i => g (i + s)) (by show g (n + s) = g (0 + s); rw [Nat.add_comm n s, per, Nat.zero_add])]
    exact sumN_congr fun i _ => by show g (i + (s + 1)) = g (i + 1 + s); rw [show i + (s + 1) = i + 1 + s by omega]
theorem sumL_append (a b : List Int) : sumL (a ++ b) = sumL a + sumL b := by
  induction a with
  | nil => show sumL b = 0 + sumL b; omega
  | cons x r ih => show x + sumL (r ++ b) = x + sumL r + sumL b; rw [ih]; omega
theorem sumL_N : ∀ l : List Int, sumL l = sumN l.length (fun i => l.getD i 0) := by
  intro l
  induction l with
  | nil => rfl
  | cons x r ih =>
    rw [sumL_cons, List.length_cons, sumN_first, ih]
    rfl
theorem sumL_cy (l : List Int) : sumL l = sumN l.length (cy l) := by
  rw [sumL_N]
  exact sumN_congr fun i h => (cy_lt h).symm
def dist (n a i : Nat) : Nat := (i + (n - a)) % n
theorem dist_lt {n a i : Nat} (h : 0 < n) : dist n a i < n := Nat.mod_lt _ h
theorem dist_succ {n a i : Nat} (h : 0 < n) : dist n a (i + 1) = if dist n a i + 1 = n then 0 else dist n a i + 1 := by
  unfold dist
  have lt := Nat.mod_lt (i + (n - a)) h
  have e : (i + 1 + (n - a)) % n = ((i + (n - a)) % n + 1) % n := by
    rw [show i + 1 + (n - a) = (i + (n - a)) + 1 by omega]
    rw [Nat.add_mod]; simp
  rw [e]
  split
  · rename_i q; rw [q, Nat.mod_self]
  · exact Nat.mod_eq_of_lt (by omega)
theorem dist_add {n a k : Nat} (ha : a < n) (hk : k < n) : dist n a (a + k) = k := by
  unfold dist
  rw [show a + k + (n - a) = k + n by omega, Nat.add_mod_right, Nat.mod_eq_of_lt hk]
theorem dist_per {n a i : Nat} : dist n a (i + n) = dist n a i := by
  unfold dist
  rw [show i + n + (n - a) = i + (n - a) + n by omega, Nat.add_mod_right]
theorem dist_zero {n a i : Nat} (ha : a < n) (hi : i < n) : dist n a i = 0 ↔ i = a := by
  unfold dist
  constructor
  · intro h
    have h' := Nat.dvd_of_mod_eq_zero h
    obtain ⟨m, hm⟩ := h'
    have : m = 1 := by
      rcases Nat.lt_or_ge m 2 with q | q
      · rcases Nat.eq_zero_or_pos m with z | z
        · subst z; omega
        · omega
      · have : n * 2 ≤ n * m := Nat.mul_le_mul_left n q
        omega
    subst this
    omega
  · intro h
    subst h
    rw [show i + (n - i) = n by omega, Nat.mod_self]
theorem dist_eq {n a i k : Nat} (ha : a < n) (hi : i < n) (hk : k < n) : dist n a i = k ↔ i = (a + k) % n := by
  unfold dist
  rcases Nat.lt_or_ge i a with q | q
  · rw [show i + (n - a) = n - a + i by omega, Nat.mod_eq_of_lt (by omega)]
    constructor
    · intro h
      rw [show a + k = i + n by omega, Nat.add_mod_right, Nat.mod_eq_of_lt hi]
    · intro h
      rcases Nat.lt_or_ge (a + k) n with w | w
      · rw [Nat.mod_eq_of_lt w] at h; omega
      · rw [show a + k = (a + k - n) + n by omega, Nat.add_mod_right, Nat.mod_eq_of_lt (by omega)] at h; omega
  · rw [show i + (n - a) = (i - a) + n by omega, Nat.add_mod_right, Nat.mod_eq_of_lt (by omega)]
    constructor
    · intro h
      rw [show a + k = i by omega, Nat.mod_eq_of_lt hi]
    · intro h
      rcases Nat.lt_or_ge (a + k) n with w | w
      · rw [Nat.mod_eq_of_lt w] at h; omega
      · rw [show a + k = (a + k - n) + n by omega, Nat.add_mod_right, Nat.mod_eq_of_lt (by omega)] at h; omega
def tk (c f : Nat → Int) (i : Nat) : Prop := 0 < f i + c (i + 1)
def addC (n a : Nat) (c : Nat → Int) : Nat → Int := fun i => c i + if dist n a i = 0 then 1 else 0
def addF (n a L : Nat) (f : Nat → Int) : Nat → Int := fun i => f i + if dist n a i < L then 1 else 0
theorem Flow.at_ {n : Nat} {c f : Nat → Int} (F : Flow n c f) {i : Nat} (h : tk c f i) : f (i + 1) = f i + c (i + 1) - 1 := by
  unfold tk at h
  rw [F.rec_]
  unfold step
  split <;> omega
theorem Flow.off {n : Nat} {c f : Nat → Int} (F : Flow n c f) {i : Nat} (h : ¬ tk c f i) : f (i + 1) = 0 := by
  unfold tk at h
  rw [F.rec_]
  unfold step
  split <;> omega
structure Passed (n a L : Nat) (c f : Nat → Int) : Prop where
  ha : a < n
  lt : L < n
  yes : ∀ i, dist n a (i + 1) < L → tk c f i
  no : ∀ i, dist n a (i + 1) = L → ¬ tk c f i
theorem Flow.more {n a L : Nat} {c f : Nat → Int} (F : Flow n c f) (c0 : ∀ i, 0 ≤ c i) (P : Passed n a L c f) : Flow n (addC n a c) (addF n a L f) := by
  have n0 : 0 < n := Nat.lt_of_le_of_lt (Nat.zero_le _) P.ha
  refine ⟨fun i => ?_, fun i => ?_, fun i => ?_, ?_⟩
  · unfold addF; rw [F.per, dist_per]
  · unfold addF; have := F.nn i; split <;> omega
  · unfold addF addC
    have ds := dist_succ (n := n) (a := a) (i := i) n0
    have lt0 := dist_lt (n := n) (a := a) (i := i) n0
    have ci := c0 (i + 1)
    have fi := F.nn i
    rcases Nat.lt_trichotomy (dist n a (i + 1)) L with q | q | q
    · have t := P.yes i q
      have e := F.at_ t
      unfold tk at t
      unfold step
      by_cases z : dist n a i + 1 = n
      · rw [if_pos z] at ds
        rw [if_pos q, e, if_neg (show ¬ dist n a i < L by have := P.lt; omega), if_pos ds]
        split <;> omega
      · rw [if_neg z] at ds
        rw [if_pos q, e, if_pos (show dist n a i < L by omega), if_neg (show ¬ dist n a (i + 1) = 0 by omega)]
        split <;> omega
    · have t := P.no i q
      have e := F.off t
      unfold tk at t
      unfold step
      by_cases z : dist n a i + 1 = n
      · rw [if_pos z] at ds
        rw [if_neg (show ¬ dist n a (i + 1) < L by omega), e, if_neg (show ¬ dist n a i < L by have := P.lt; omega), if_pos ds]
        split <;> omega
      · rw [if_neg z] at ds
        rw [if_neg (show ¬ dist n a (i + 1) < L by omega), e, if_pos (show dist n a i < L by omega), if_neg (show ¬ dist n a (i + 1) = 0 by omega)]
        split <;> omega
    · have z : ¬ dist n a i + 1 = n := fun z => by rw [if_pos z] at ds; omega
      rw [if_neg z] at ds
      rw [if_neg (show ¬ dist n a (i + 1) < L by omega), if_neg (show ¬ dist n a i < L by omega), if_neg (show ¬ dist n a (i + 1) = 0 by omega), F.rec_]
      simp
  · refine ⟨a + L + n, ?_⟩
    have e : a + L + n = (a + L + (n - 1)) + 1 := by omega
    have d : dist n a ((a + L + (n - 1)) + 1) = L := by rw [← e, dist_per, dist_add P.ha P.lt]
    unfold addF
    rw [e, d, F.off (P.no _ d), if_neg (Nat.lt_irrefl _)]
    rfl
theorem tk_more {n a L : Nat} {c f : Nat → Int} (F : Flow n c f) (c0 : ∀ i, 0 ≤ c i) (P : Passed n a L c f) (i : Nat) : tk (addC n a c) (addF n a L f) i ↔ tk c f i ∨ dist n a (i + 1) = L := by
  have n0 : 0 < n := Nat.lt_of_le_of_lt (Nat.zero_le _) P.ha
  have ds := dist_succ (n := n) (a := a) (i := i) n0
  have lt0 := dist_lt (n := n) (a := a) (i := i) n0
  have ci := c0 (i + 1)
  have fi := F.nn i
  rcases Nat.lt_trichotomy (dist n a (i + 1)) L with q | q | q
  · have t := P.yes i q
    refine ⟨fun _ => .inl t, fun _ => ?_⟩
    unfold tk at t ⊢
    unfold addC addF
    split <;> split <;> omega
  · refine ⟨fun _ => .inr q, fun _ => ?_⟩
    unfold tk addC addF
    by_cases z : dist n a i + 1 = n
    · rw [if_pos z] at ds
      rw [if_pos ds]
      split <;> omega
    · rw [if_neg z] at ds
      rw [if_pos (show dist n a i < L by omega)]
      split <;> omega
  · have z : ¬ dist n a i + 1 = n := fun z => by rw [if_pos z] at ds; omega
    rw [if_neg z] at ds
    unfold tk addC addF
    rw [if_neg (show ¬ dist n a i < L by omega), if_neg (show ¬ dist n a (i + 1) = 0 by omega)]
    constructor
    · intro h; left; omega
    · rintro (h | h)
      · omega
      · omega
theorem Flow.room {n : Nat} {c f : Nat → Int} (F : Flow n c f) (cp : ∀ i, c (i + n) = c i) (n0 : 0 < n) (h : sumN n c < n) : ∃ i, i < n ∧ ¬ tk c f i := by
  apply Classical.byContradiction
  intro no
  have all : ∀ i, i < n → tk c f i := fun i hi => Classical.byContradiction fun q => no ⟨i, hi, q⟩
  have tel : ∀ m, m ≤ n → sumN m (fun i => c (i + 1)) = f m - f 0 + m := by
    intro m
    induction m with
    | zero => intro _; show (0 : Int) = f 0 - f 0 + ((0 : Nat) : Int); omega
    | succ m ih =>
      intro hm
      show sumN m (fun i => c (i + 1)) + c (m + 1) = _
      rw [ih (by omega), F.at_ (all m (by omega))]
      omega
  have a := tel n (Nat.le_refl n)
  have b := sumN_shift (n := n) (g := c) (by have := cp 0; rw [Nat.zero_add] at this; exact this)
  have p := F.per 0
  rw [Nat.zero_add] at p
  omega
theorem sum_addF {n a L : Nat} {f : Nat → Int} (ha : a < n) (hL : L ≤ n) : sumN n (addF n a L f) = sumN n f + L := by
  unfold addF
  rw [sumN_add]
  have n0 : 0 < n := by omega
  have e : sumN n (fun i => if dist n a i < L then (1 : Int) else 0) = sumN n (fun i => if i % n < L then (1 : Int) else 0) :=
    sumN_shifts (g := fun i => if i % n < L then (1 : Int) else 0) (fun i => by simp only [Nat.add_mod_right]) (n - a)
  have cnt : ∀ m, m ≤ n → sumN m (fun i => if i % n < L then (1 : Int) else 0) = ((min m L : Nat) : Int) := by
    intro m
    induction m with
    | zero => intro _; simp [sumN]
    | succ m ih =>
      intro hm
      show sumN m _ + _ = _
      rw [ih (by omega)]
      simp only [Nat.mod_eq_of_lt (show m < n by omega)]
      split <;> omega
  rw [e, cnt n (Nat.le_refl n), Nat.min_eq_right hL]
end ML
namespace ML
def stepR (f : Int) (p : Int × Int) : Int := if f + p.1 * (p.2 - 1) > 0 then f + p.1 * (p.2 - 1) else 0
def runR (f : Int) (rs : List (Int × Int)) : Int := rs.foldl stepR f
def scanR (f : Int) : List (Int × Int) → List Int
  | [] => []
  | x :: r => stepR f x :: scanR (stepR f x) r
def flowsR (rs : List (Int × Int)) : List Int := scanR (runR 0 rs) rs
theorem stepR_one (f c : Int) : stepR f (1, c) = step f c := by
  unfold stepR step
  have : f + (1 : Int) * (c - 1) = f + c - 1 := by omega
  rw [this]
theorem runR_one (f : Int) : ∀ c : List Int, runR f (c.map fun x => (1, x)) = run f c := by
  intro c
  induction c generalizing f with
  | nil => rfl
  | cons x r ih => show runR (stepR f (1, x)) _ = run (step f x) r; rw [stepR_one]; exact ih _
theorem scanR_one (f : Int) : ∀ c : List Int, scanR f (c.map fun x => (1, x)) = scan f c := by
  intro c
  induction c generalizing f with
  | nil => rfl
  | cons x r ih => show stepR f (1, x) :: scanR (stepR f (1, x)) _ = step f x :: scan (step f x) r; rw [stepR_one, ih]
theorem flowsR_one (c : List Int) : flowsR (c.map fun x => (1, x)) = flowsI c := by
  unfold flowsR flowsI
  rw [runR_one, scanR_one]
theorem scanR_length (f : Int) : ∀ c : List (Int × Int), (scanR f c).length = c.length := by
  intro c
  induction c generalizing f with
  | nil => rfl
  | cons x r ih => show _ + 1 = _ + 1; rw [ih]
theorem scanR_app (f : Int) (x : Int × Int) : ∀ c : List (Int × Int), scanR f (c ++ [x]) = scanR f c ++ [stepR (runR f c) x] := by
  intro c
  induction c generalizing f with
  | nil => rfl
  | cons y r ih => show stepR f y :: scanR (stepR f y) (r ++ [x]) = _; rw [ih]; rfl
theorem runR_app (f : Int) (x : Int × Int) (c : List (Int × Int)) : runR f (c ++ [x]) = stepR (runR f c) x := by unfold runR; rw [List.foldl_append]; rfl
theorem sum_sumL (l : List Int) : l.sum = sumL l := by
  induction l with
  | nil => rfl
  | cons x r ih => rw [List.sum_cons, ih]; rfl
theorem sum_ones (c : List Int) : (c.map fun _ => (1 : Int)).sum = c.length := by
  induction c with
  | nil => rfl
  | cons x r ih => rw [List.map_cons, List.sum_cons, ih, List.length_cons]; omega
end ML
namespace DL
open PySem PySem.Spec PyProof.Rows L2 LamX PySem.W SL
theorem for_list {α : Type} {I : DIt} {g : DTG} {F : DTS} {E : DEnds} {b : DSt} (enc : α → D) (W : List α → DEnv → DSt → Prop)
    (turn : ∀ x xs r st (N : DEnv → DSt → Prop), (∀ r st, Wk b (W xs) r st → N r st) → W (x :: xs) r st → okI I st (g (enc x) r st fun r1 st1 => F { nx := N, rt := E.rt, bk := E.nx, ct := N } r1 st1)) (done : ∀ r st, W [] r st → okI I st (E.nx r st)) :
    ∀ (items : List α) (r : DEnv) (st : DSt), W items r st → forL I g F E b (items.map enc) r st
  | [], r, st, h => done r st h
  | d :: ds, r, st, h => by
    refine turn d ds r st _ (fun r st w => ?_) h
    rcases w with w | ⟨r', n, h1, h2, h3, h4, h5, w⟩
    · exact .inl (for_list enc W turn done ds r st w)
    · exact .inr ⟨r', n, h1, h2, h3, h4, h5, for_list enc W turn done ds r' _ w⟩
theorem lc_pair {α : Type} {te : DTE} {r : DEnv} {Q : List D → DSt → Prop} {st : DSt} {ys : List D} {g : DTG} (enc : α → D) (h : α → D) (xs : List α)
    (he : ∀ x ∈ xs, ∀ Q' : DEnv → DSt → Prop, (∀ r2, Ev te r2 st (h x) → Q' r2 st) → g (enc x) r st Q') (q : Q (xs.map h) st) : compL ⟨ys, none⟩ g dtYes te r Q (xs.map enc) [] st := by
  have gen : ∀ (zs : List α) (acc : List D), (∀ x ∈ zs, x ∈ xs) → Q (acc ++ zs.map h) st → compL ⟨ys, none⟩ g dtYes te r Q (zs.map enc) acc st := by
    intro zs
    induction zs with
    | nil => intro acc _ q; have q' : Q acc st := by simpa using q
             exact q'
    | cons z zs ih =>
      intro acc sub q
      show g (enc z) r st _
      refine he z (sub z List.mem_cons_self) _ fun r2 e => ?_
      show te r2 st _
      refine (e _ (ih _ (fun x hx => sub x (List.mem_cons_of_mem _ hx)) ?_))
      simpa using q
  exact gen xs [] (fun x hx => hx) (by simpa using q)
def pairD (p : Int × Int) : D := .tup [.int p.1, .int p.2]
def Runs (rs : List (Int × Int)) (d : D) : Prop := d = .lst (rs.map pairD) ∨ d = .tup (rs.map pairD)
theorem Runs.it {rs : List (Int × Int)} {d : D} (h : Runs rs d) (st : DSt) : itOf st d = some ⟨rs.map pairD, none⟩ := by rcases h with rfl | rfl <;> rfl
theorem Runs.clo {rs : List (Int × Int)} {d : D} (h : Runs rs d) (n : Nat) : DL.clo n d = true := by
  have z : ∀ rs : List (Int × Int), clos n (rs.map pairD) = true := by
    intro rs
    induction rs with
    | nil => rfl
    | cons p r ih => rw [List.map_cons]; simp [clos, DL.clo, pairD, ih]
  rcases h with rfl | rfl <;> simp only [DL.clo] <;> exact z rs
def Small (x : Int) : Prop := -(2 ^ 64) < x ∧ x < 2 ^ 64
def g_flowB : DRs := fun ds st Q => ∃ (f : Int) (p : Int × Int), ds = [.int f, .int p.1, .int p.2] ∧ Small p.1 ∧ Q (.int (ML.stepR f p)) st
theorem ar_flowB (ds : List D) (st : DSt) (Q : DK) (h : g_flowB ds st Q) : ds.length = 3 := by
  obtain ⟨_, _, rfl, _⟩ := h
  rfl
theorem sem_flowB (ds : List D) (st : DSt) (Q : DK) (h : g_flowB ds st Q) : F_flow_behind { nx := fun _ st' => Rt st Q .non st', rt := Rt st Q } (startD 3 ds) st := by
  obtain ⟨f, p, rfl, sm, q⟩ := h
  have st3 : startD 3 [D.int f, D.int p.1, D.int p.2] = [some (.int f), some (.int p.1), some (.int p.2)] := rfl
  simp only [F_flow_behind, st3, e_var, e_C, e_op, e_neg, e_isN, e_notN, e_and, e_or, e_not, e_test, e_tAnd, e_tOr, e_tNot, e_tYes, e_if, e_aNil, e_aCons, e_tup, e_lst, e_lstN, e_len0, e_len1, e_len2, e_len3, e_len4, e_len5, e_cb, e_on1, e_on2, e_onI, e_onB, e_onO, e_onO0, e_onOO, e_I0, e_I, e_add, e_addT, e_addS, e_addL, e_addLR, e_addRL, e_addRR, e_mul, e_mulL, e_mulT, e_rev, e_revT, e_ix, e_eqI, e_eqS, e_eqB, e_neI, e_neS, e_neB, e_ltI, e_chain, e_len, e_abs, e_2I, e_tuple1, e_tuple2, e_tuple3, e_listT, e_listN, e_allR, e_seqT, e_seqK, e_seqL, e_isi, e_isB, e_notB, e_truth, e_next, e_seq, e_drop, e_ret, e_retN, e_ifS, e_set, e_asg, e_par, e_nm, e_gsN, e_gsC, e_gTpK, e_gTpL, e_sum, e_maxL, e_minL, e_maxDef, e_int, e_intB, e_aug, e_on3, e_par3, e_newK, e_getK, e_keyI, e_keyS, e_inK, e_ninK, e_putK, e_lenK, e_lstS, e_seqX, e_gTpT, e_oN, e_oS, e_sl, e_slT, e_slL, e_finT, e_finN, e_index, e_idxT, e_idxL, e_mIx, e_ixST, e_ixSL, e_mtL, e_w, e_w1, e_w2, e_wE, e_wZ, e_itK, e_itT, e_itL, e_itT2, e_itL2, e_lc, e_for, e_wipe0, e_wipe, e_okI, e_okR, e_gSb, List.getElem?_cons_zero, List.getElem?_cons_succ, List.set_cons_zero, List.set_cons_succ]
  exact ⟨.inl ⟨sm.1, sm.2⟩, .inl q⟩
def g_room : DRs := fun ds st Q => ∃ (d : D) (rs : List (Int × Int)), ds = [d] ∧ Runs rs d ∧ rs.length ≤ 1000 ∧ (∀ p ∈ rs, Small p.1) ∧ (rs.map fun p => p.1 * p.2).sum ≤ (rs.map fun p => p.1).sum ∧ Q .non st
theorem ar_room (ds : List D) (st : DSt) (Q : DK) (h : g_room ds st Q) : ds.length = 1 := by
  obtain ⟨_, _, rfl, _⟩ := h
  rfl
theorem sem_room (ds : List D) (st : DSt) (Q : DK) (h : g_room ds st Q) : F_require_room { nx := fun _ st' => Rt st Q .non st', rt := Rt st Q } (startD 4 ds) st := by
  obtain ⟨d, rs, rfl, hd, few, sm, room, q⟩ := h
  have st4 : startD 4 [d] = [some d, none, none, none] := rfl
  have big : (1000 : Nat) ≤ sizeLine := by decide
  simp only [F_require_room, st4, e_var, e_C, e_op, e_neg, e_isN, e_notN, e_and, e_or, e_not, e_test, e_tAnd, e_tOr, e_tNot, e_tYes, e_if, e_aNil, e_aCons, e_tup, e_lst, e_lstN, e_len0, e_len1, e_len2, e_len3, e_len4, e_len5, e_cb, e_on1, e_on2, e_onI, e_onB, e_onO, e_onO0, e_onOO, e_I0, e_I, e_add, e_addT, e_addS, e_addL, e_addLR, e_addRL, e_addRR, e_mul, e_mulL, e_mulT, e_rev, e_revT, e_ix, e_eqI, e_eqS, e_eqB, e_neI, e_neS, e_neB, e_ltI, e_chain, e_len, e_abs, e_2I, e_tuple1, e_tuple2, e_tuple3, e_listT, e_listN, e_allR, e_seqT, e_seqK, e_seqL, e_isi, e_isB, e_notB, e_truth, e_next, e_drop, e_ret, e_retN, e_ifS, e_set, e_asg, e_par, e_nm, e_gsN, e_gsC, e_gTpK, e_gTpL, e_sum, e_maxL, e_minL, e_maxDef, e_int, e_intB, e_aug, e_on3, e_par3, e_newK, e_getK, e_keyI, e_keyS, e_inK, e_ninK, e_putK, e_lenK, e_lstS, e_seqX, e_gTpT, e_oN, e_oS, e_sl, e_slT, e_slL, e_finT, e_finN, e_index, e_idxT, e_idxL, e_mIx, e_ixST, e_ixSL, e_mtL, e_w, e_w1, e_w2, e_wE, e_wZ, e_itK, e_itT, e_itL, e_itT2, e_itL2, e_lc, e_for, e_wipe0, e_wipe, e_okI, e_okR, e_gSb, List.getElem?_cons_zero, List.getElem?_cons_succ, List.set_cons_zero, List.set_cons_succ]
  rw [e_seq]
  simp only [e_var, e_C, e_op, e_neg, e_isN, e_notN, e_and, e_or, e_not, e_test, e_tAnd, e_tOr, e_tNot, e_tYes, e_if, e_aNil, e_aCons, e_tup, e_lst, e_lstN, e_len0, e_len1, e_len2, e_len3, e_len4, e_len5, e_cb, e_on1, e_on2, e_onI, e_onB, e_onO, e_onO0, e_onOO, e_I0, e_I, e_add, e_addT, e_addS, e_addL, e_addLR, e_addRL, e_addRR, e_mul, e_mulL, e_mulT, e_rev, e_revT, e_ix, e_eqI, e_eqS, e_eqB, e_neI, e_neS, e_neB, e_ltI, e_chain, e_len, e_abs, e_2I, e_tuple1, e_tuple2, e_tuple3, e_listT, e_listN, e_allR, e_seqT, e_seqK, e_seqL, e_isi, e_isB, e_notB, e_truth, e_next, e_drop, e_ret, e_retN, e_ifS, e_set, e_asg, e_par, e_nm, e_gsN, e_gsC, e_gTpK, e_gTpL, e_sum, e_maxL, e_minL, e_maxDef, e_int, e_intB, e_aug, e_on3, e_par3, e_newK, e_getK, e_keyI, e_keyS, e_inK, e_ninK, e_putK, e_lenK, e_lstS, e_seqX, e_gTpT, e_oN, e_oS, e_sl, e_slT, e_slL, e_finT, e_finN, e_index, e_idxT, e_idxL, e_mIx, e_ixST, e_ixSL, e_mtL, e_w, e_w1, e_w2, e_wE, e_wZ, e_itK, e_itT, e_itL, e_itT2, e_itL2, e_lc, e_for, e_wipe0, e_wipe, e_okI, e_okR, e_gSb, List.getElem?_cons_zero, List.getElem?_cons_succ, List.set_cons_zero, List.set_cons_succ, hd.it, List.length_map]
  refine ⟨by omega, lc_pair pairD (fun p => .int (p.1 * p.2)) rs (fun p hp Q' k => ?_) ?_⟩
  · unfold pairD
    simp only [e_var, e_C, e_op, e_neg, e_isN, e_notN, e_and, e_or, e_not, e_test, e_tAnd, e_tOr, e_tNot, e_tYes, e_if, e_aNil, e_aCons, e_tup, e_lst, e_lstN, e_len0, e_len1, e_len2, e_len3, e_len4, e_len5, e_cb, e_on1, e_on2, e_onI, e_onB, e_onO, e_onO0, e_onOO, e_I0, e_I, e_add, e_addT, e_addS, e_addL, e_addLR, e_addRL, e_addRR, e_mul, e_mulL, e_mulT, e_rev, e_revT, e_ix, e_eqI, e_eqS, e_eqB, e_neI, e_neS, e_neB, e_ltI, e_chain, e_len, e_abs, e_2I, e_tuple1, e_tuple2, e_tuple3, e_listT, e_listN, e_allR, e_seqT, e_seqK, e_seqL, e_isi, e_isB, e_notB, e_truth, e_next, e_drop, e_ret, e_retN, e_ifS, e_set, e_asg, e_par, e_nm, e_gsN, e_gsC, e_gTpK, e_gTpL, e_sum, e_maxL, e_minL, e_maxDef, e_int, e_intB, e_aug, e_on3, e_par3, e_newK, e_getK, e_keyI, e_keyS, e_inK, e_ninK, e_putK, e_lenK, e_lstS, e_seqX, e_gTpT, e_oN, e_oS, e_sl, e_slT, e_slL, e_finT, e_finN, e_index, e_idxT, e_idxL, e_mIx, e_ixST, e_ixSL, e_mtL, e_w, e_w1, e_w2, e_wE, e_wZ, e_itK, e_itT, e_itL, e_itT2, e_itL2, e_lc, e_for, e_wipe0, e_wipe, e_okI, e_okR, e_gSb, List.getElem?_cons_zero, List.getElem?_cons_succ, List.set_cons_zero, List.set_cons_succ]
    refine ⟨rfl, k _ fun Q2 q2 => ?_⟩
    simp only [e_var, e_C, e_op, e_neg, e_isN, e_notN, e_and, e_or, e_not, e_test, e_tAnd, e_tOr, e_tNot, e_tYes, e_if, e_aNil, e_aCons, e_tup, e_lst, e_lstN, e_len0, e_len1, e_len2, e_len3, e_len4, e_len5, e_cb, e_on1, e_on2, e_onI, e_onB, e_onO, e_onO0, e_onOO, e_I0, e_I, e_add, e_addT, e_addS, e_addL, e_addLR, e_addRL, e_addRR, e_mul, e_mulL, e_mulT, e_rev, e_revT, e_ix, e_eqI, e_eqS, e_eqB, e_neI, e_neS, e_neB, e_ltI, e_chain, e_len, e_abs, e_2I, e_tuple1, e_tuple2, e_tuple3, e_listT, e_listN, e_allR, e_seqT, e_seqK, e_seqL, e_isi, e_isB, e_notB, e_truth, e_next, e_drop, e_ret, e_retN, e_ifS, e_set, e_asg, e_par, e_nm, e_gsN, e_gsC, e_gTpK, e_gTpL, e_sum, e_maxL, e_minL, e_maxDef, e_int, e_intB, e_aug, e_on3, e_par3, e_newK, e_getK, e_keyI, e_keyS, e_inK, e_ninK, e_putK, e_lenK, e_lstS, e_seqX, e_gTpT, e_oN, e_oS, e_sl, e_slT, e_slL, e_finT, e_finN, e_index, e_idxT, e_idxL, e_mIx, e_ixST, e_ixSL, e_mtL, e_w, e_w1, e_w2, e_wE, e_wZ, e_itK, e_itT, e_itL, e_itT2, e_itL2, e_lc, e_for, e_wipe0, e_wipe, e_okI, e_okR, e_gSb, List.getElem?_cons_zero, List.getElem?_cons_succ, List.set_cons_zero, List.set_cons_succ]
    exact ⟨.inl (sm p hp), q2⟩
  · simp only [e_var, e_C, e_op, e_neg, e_isN, e_notN, e_and, e_or, e_not, e_test, e_tAnd, e_tOr, e_tNot, e_tYes, e_if, e_aNil, e_aCons, e_tup, e_lst, e_lstN, e_len0, e_len1, e_len2, e_len3, e_len4, e_len5, e_cb, e_on1, e_on2, e_onI, e_onB, e_onO, e_onO0, e_onOO, e_I0, e_I, e_add, e_addT, e_addS, e_addL, e_addLR, e_addRL, e_addRR, e_mul, e_mulL, e_mulT, e_rev, e_revT, e_ix, e_eqI, e_eqS, e_eqB, e_neI, e_neS, e_neB, e_ltI, e_chain, e_len, e_abs, e_2I, e_tuple1, e_tuple2, e_tuple3, e_listT, e_listN, e_allR, e_seqT, e_seqK, e_seqL, e_isi, e_isB, e_notB, e_truth, e_next, e_drop, e_ret, e_retN, e_ifS, e_set, e_asg, e_par, e_nm, e_gsN, e_gsC, e_gTpK, e_gTpL, e_sum, e_maxL, e_minL, e_maxDef, e_int, e_intB, e_aug, e_on3, e_par3, e_newK, e_getK, e_keyI, e_keyS, e_inK, e_ninK, e_putK, e_lenK, e_lstS, e_seqX, e_gTpT, e_oN, e_oS, e_sl, e_slT, e_slL, e_finT, e_finN, e_index, e_idxT, e_idxL, e_mIx, e_ixST, e_ixSL, e_mtL, e_w, e_w1, e_w2, e_wE, e_wZ, e_itK, e_itT, e_itL, e_itT2, e_itL2, e_lc, e_for, e_wipe0, e_wipe, e_okI, e_okR, e_gSb, List.getElem?_cons_zero, List.getElem?_cons_succ, List.set_cons_zero, List.set_cons_succ, intsD_map]
    refine ⟨by omega, lc_pair pairD (fun p => .int p.1) rs (fun p hp Q' k => ?_) ?_⟩
    · unfold pairD
      simp only [e_var, e_C, e_op, e_neg, e_isN, e_notN, e_and, e_or, e_not, e_test, e_tAnd, e_tOr, e_tNot, e_tYes, e_if, e_aNil, e_aCons, e_tup, e_lst, e_lstN, e_len0, e_len1, e_len2, e_len3, e_len4, e_len5, e_cb, e_on1, e_on2, e_onI, e_onB, e_onO, e_onO0, e_onOO, e_I0, e_I, e_add, e_addT, e_addS, e_addL, e_addLR, e_addRL, e_addRR, e_mul, e_mulL, e_mulT, e_rev, e_revT, e_ix, e_eqI, e_eqS, e_eqB, e_neI, e_neS, e_neB, e_ltI, e_chain, e_len, e_abs, e_2I, e_tuple1, e_tuple2, e_tuple3, e_listT, e_listN, e_allR, e_seqT, e_seqK, e_seqL, e_isi, e_isB, e_notB, e_truth, e_next, e_drop, e_ret, e_retN, e_ifS, e_set, e_asg, e_par, e_nm, e_gsN, e_gsC, e_gTpK, e_gTpL, e_sum, e_maxL, e_minL, e_maxDef, e_int, e_intB, e_aug, e_on3, e_par3, e_newK, e_getK, e_keyI, e_keyS, e_inK, e_ninK, e_putK, e_lenK, e_lstS, e_seqX, e_gTpT, e_oN, e_oS, e_sl, e_slT, e_slL, e_finT, e_finN, e_index, e_idxT, e_idxL, e_mIx, e_ixST, e_ixSL, e_mtL, e_w, e_w1, e_w2, e_wE, e_wZ, e_itK, e_itT, e_itL, e_itT2, e_itL2, e_lc, e_for, e_wipe0, e_wipe, e_okI, e_okR, e_gSb, List.getElem?_cons_zero, List.getElem?_cons_succ, List.set_cons_zero, List.set_cons_succ]
      exact ⟨rfl, k _ fun Q2 q2 => q2⟩
    · simp only [e_var, e_C, e_op, e_neg, e_isN, e_notN, e_and, e_or, e_not, e_test, e_tAnd, e_tOr, e_tNot, e_tYes, e_if, e_aNil, e_aCons, e_tup, e_lst, e_lstN, e_len0, e_len1, e_len2, e_len3, e_len4, e_len5, e_cb, e_on1, e_on2, e_onI, e_onB, e_onO, e_onO0, e_onOO, e_I0, e_I, e_add, e_addT, e_addS, e_addL, e_addLR, e_addRL, e_addRR, e_mul, e_mulL, e_mulT, e_rev, e_revT, e_ix, e_eqI, e_eqS, e_eqB, e_neI, e_neS, e_neB, e_ltI, e_chain, e_len, e_abs, e_2I, e_tuple1, e_tuple2, e_tuple3, e_listT, e_listN, e_allR, e_seqT, e_seqK, e_seqL, e_isi, e_isB, e_notB, e_truth, e_next, e_drop, e_ret, e_retN, e_ifS, e_set, e_asg, e_par, e_nm, e_gsN, e_gsC, e_gTpK, e_gTpL, e_sum, e_maxL, e_minL, e_maxDef, e_int, e_intB, e_aug, e_on3, e_par3, e_newK, e_getK, e_keyI, e_keyS, e_inK, e_ninK, e_putK, e_lenK, e_lstS, e_seqX, e_gTpT, e_oN, e_oS, e_sl, e_slT, e_slL, e_finT, e_finN, e_index, e_idxT, e_idxL, e_mIx, e_ixST, e_ixSL, e_mtL, e_w, e_w1, e_w2, e_wE, e_wZ, e_itK, e_itT, e_itL, e_itT2, e_itL2, e_lc, e_for, e_wipe0, e_wipe, e_okI, e_okR, e_gSb, List.getElem?_cons_zero, List.getElem?_cons_succ, List.set_cons_zero, List.set_cons_succ, intsD_map]
      have room' : (rs.map fun p => p.1 * p.2).sum ≤ (rs.map Prod.fst).sum := room
      exact iteF' (decide_eq_false (by omega)) (.inl q)
def g_flowsB : DRs := fun ds st Q => ∃ (d : D) (rs : List (Int × Int)), ds = [d] ∧ Runs rs d ∧ rs.length ≤ 1000 ∧ (∀ p ∈ rs, Small p.1) ∧ (rs.map fun p => p.1 * p.2).sum ≤ (rs.map fun p => p.1).sum ∧ Q (rowD (ML.flowsR rs)) st
theorem ar_flowsB (ds : List D) (st : DSt) (Q : DK) (h : g_flowsB ds st Q) : ds.length = 1 := by
  obtain ⟨_, _, rfl, _⟩ := h
  rfl
theorem sem_flowsB (ds : List D) (st : DSt) (Q : DK) (h : g_flowsB ds st Q) : F_flows_behind g_room g_flowB { nx := fun _ st' => Rt st Q .non st', rt := Rt st Q } (startD 5 ds) st := by
  obtain ⟨d, rs, rfl, hd, few, sm, room, q⟩ := h
  have st5 : startD 5 [d] = [some d, none, none, none, none] := rfl
  have big : (1000 : Nat) ≤ sizeLine := by decide
  simp only [F_flows_behind, st5]
  rw [e_seq]
  simp only [e_var, e_C, e_op, e_neg, e_isN, e_notN, e_and, e_or, e_not, e_test, e_tAnd, e_tOr, e_tNot, e_tYes, e_if, e_aNil, e_aCons, e_tup, e_lst, e_lstN, e_len0, e_len1, e_len2, e_len3, e_len4, e_len5, e_cb, e_on1, e_on2, e_onI, e_onB, e_onO, e_onO0, e_onOO, e_I0, e_I, e_add, e_addT, e_addS, e_addL, e_addLR, e_addRL, e_addRR, e_mul, e_mulL, e_mulT, e_rev, e_revT, e_ix, e_eqI, e_eqS, e_eqB, e_neI, e_neS, e_neB, e_ltI, e_chain, e_len, e_abs, e_2I, e_tuple1, e_tuple2, e_tuple3, e_listT, e_listN, e_allR, e_seqT, e_seqK, e_seqL, e_isi, e_isB, e_notB, e_truth, e_next, e_drop, e_ret, e_retN, e_ifS, e_set, e_asg, e_par, e_nm, e_gsN, e_gsC, e_gTpK, e_gTpL, e_sum, e_maxL, e_minL, e_maxDef, e_int, e_intB, e_aug, e_on3, e_par3, e_newK, e_getK, e_keyI, e_keyS, e_inK, e_ninK, e_putK, e_lenK, e_lstS, e_seqX, e_gTpT, e_oN, e_oS, e_sl, e_slT, e_slL, e_finT, e_finN, e_index, e_idxT, e_idxL, e_mIx, e_ixST, e_ixSL, e_mtL, e_w, e_w1, e_w2, e_wE, e_wZ, e_itK, e_itT, e_itL, e_itT2, e_itL2, e_lc, e_for, e_wipe0, e_wipe, e_okI, e_okR, e_gSb, List.getElem?_cons_zero, List.getElem?_cons_succ, List.set_cons_zero, List.set_cons_succ]
  refine ⟨d, rs, rfl, hd, few, sm, room, ?_⟩
  show sSeq _ _ _ _ _
  rw [e_seq]
  simp only [e_var, e_C, e_op, e_neg, e_isN, e_notN, e_and, e_or, e_not, e_test, e_tAnd, e_tOr, e_tNot, e_tYes, e_if, e_aNil, e_aCons, e_tup, e_lst, e_lstN, e_len0, e_len1, e_len2, e_len3, e_len4, e_len5, e_cb, e_on1, e_on2, e_onI, e_onB, e_onO, e_onO0, e_onOO, e_I0, e_I, e_add, e_addT, e_addS, e_addL, e_addLR, e_addRL, e_addRR, e_mul, e_mulL, e_mulT, e_rev, e_revT, e_ix, e_eqI, e_eqS, e_eqB, e_neI, e_neS, e_neB, e_ltI, e_chain, e_len, e_abs, e_2I, e_tuple1, e_tuple2, e_tuple3, e_listT, e_listN, e_allR, e_seqT, e_seqK, e_seqL, e_isi, e_isB, e_notB, e_truth, e_next, e_drop, e_ret, e_retN, e_ifS, e_set, e_asg, e_par, e_nm, e_gsN, e_gsC, e_gTpK, e_gTpL, e_sum, e_maxL, e_minL, e_maxDef, e_int, e_intB, e_aug, e_on3, e_par3, e_newK, e_getK, e_keyI, e_keyS, e_inK, e_ninK, e_putK, e_lenK, e_lstS, e_seqX, e_gTpT, e_oN, e_oS, e_sl, e_slT, e_slL, e_finT, e_finN, e_index, e_idxT, e_idxL, e_mIx, e_ixST, e_ixSL, e_mtL, e_w, e_w1, e_w2, e_wE, e_wZ, e_itK, e_itT, e_itL, e_itT2, e_itL2, e_lc, e_for, e_wipe0, e_wipe, e_okI, e_okR, e_gSb, List.getElem?_cons_zero, List.getElem?_cons_succ, List.set_cons_zero, List.set_cons_succ]
  rw [e_seq]
  simp only [e_var, e_C, e_op, e_neg, e_isN, e_notN, e_and, e_or, e_not, e_test, e_tAnd, e_tOr, e_tNot, e_tYes, e_if, e_aNil, e_aCons, e_tup, e_lst, e_lstN, e_len0, e_len1, e_len2, e_len3, e_len4, e_len5, e_cb, e_on1, e_on2, e_onI, e_onB, e_onO, e_onO0, e_onOO, e_I0, e_I, e_add, e_addT, e_addS, e_addL, e_addLR, e_addRL, e_addRR, e_mul, e_mulL, e_mulT, e_rev, e_revT, e_ix, e_eqI, e_eqS, e_eqB, e_neI, e_neS, e_neB, e_ltI, e_chain, e_len, e_abs, e_2I, e_tuple1, e_tuple2, e_tuple3, e_listT, e_listN, e_allR, e_seqT, e_seqK, e_seqL, e_isi, e_isB, e_notB, e_truth, e_next, e_drop, e_ret, e_retN, e_ifS, e_set, e_asg, e_par, e_nm, e_gsN, e_gsC, e_gTpK, e_gTpL, e_sum, e_maxL, e_minL, e_maxDef, e_int, e_intB, e_aug, e_on3, e_par3, e_newK, e_getK, e_keyI, e_keyS, e_inK, e_ninK, e_putK, e_lenK, e_lstS, e_seqX, e_gTpT, e_oN, e_oS, e_sl, e_slT, e_slL, e_finT, e_finN, e_index, e_idxT, e_idxL, e_mIx, e_ixST, e_ixSL, e_mtL, e_w, e_w1, e_w2, e_wE, e_wZ, e_itK, e_itT, e_itL, e_itT2, e_itL2, e_lc, e_for, e_wipe0, e_wipe, e_okI, e_okR, e_gSb, List.getElem?_cons_zero, List.getElem?_cons_succ, List.set_cons_zero, List.set_cons_succ, hd.it]
  refine for_list pairD (fun left r st' => ∃ (done : List (Int × Int)) (x2 x3 : Option D), done ++ left = rs ∧ r = [some d, some (.int (ML.runR 0 done)), x2, x3, none] ∧ st = st') ?_ ?_ rs _ _ ⟨[], _, _, rfl, rfl, rfl⟩
  · rintro p left r st' N hN ⟨done, x2, x3, e, rfl, rfl⟩
    unfold pairD
    simp only [e_var, e_C, e_op, e_neg, e_isN, e_notN, e_and, e_or, e_not, e_test, e_tAnd, e_tOr, e_tNot, e_tYes, e_if, e_aNil, e_aCons, e_tup, e_lst, e_lstN, e_len0, e_len1, e_len2, e_len3, e_len4, e_len5, e_cb, e_on1, e_on2, e_onI, e_onB, e_onO, e_onO0, e_onOO, e_I0, e_I, e_add, e_addT, e_addS, e_addL, e_addLR, e_addRL, e_addRR, e_mul, e_mulL, e_mulT, e_rev, e_revT, e_ix, e_eqI, e_eqS, e_eqB, e_neI, e_neS, e_neB, e_ltI, e_chain, e_len, e_abs, e_2I, e_tuple1, e_tuple2, e_tuple3, e_listT, e_listN, e_allR, e_seqT, e_seqK, e_seqL, e_isi, e_isB, e_notB, e_truth, e_next, e_drop, e_ret, e_retN, e_ifS, e_set, e_asg, e_par, e_nm, e_gsN, e_gsC, e_gTpK, e_gTpL, e_sum, e_maxL, e_minL, e_maxDef, e_int, e_intB, e_aug, e_on3, e_par3, e_newK, e_getK, e_keyI, e_keyS, e_inK, e_ninK, e_putK, e_lenK, e_lstS, e_seqX, e_gTpT, e_oN, e_oS, e_sl, e_slT, e_slL, e_finT, e_finN, e_index, e_idxT, e_idxL, e_mIx, e_ixST, e_ixSL, e_mtL, e_w, e_w1, e_w2, e_wE, e_wZ, e_itK, e_itT, e_itL, e_itT2, e_itL2, e_lc, e_for, e_wipe0, e_wipe, e_okI, e_okR, e_gSb, List.getElem?_cons_zero, List.getElem?_cons_succ, List.set_cons_zero, List.set_cons_succ]
    refine ⟨rfl, _, p, rfl, sm p (by rw [← e]; simp), hN _ _ (.inl ⟨done ++ [p], some (.int p.1), some (.int p.2), by rw [List.append_assoc]; exact e, by rw [ML.runR_app], rfl⟩)⟩
  rintro r st' ⟨done, x2, x3, e, rfl, rfl⟩
  rw [List.append_nil] at e
  subst e
  simp only [e_var, e_C, e_op, e_neg, e_isN, e_notN, e_and, e_or, e_not, e_test, e_tAnd, e_tOr, e_tNot, e_tYes, e_if, e_aNil, e_aCons, e_tup, e_lst, e_lstN, e_len0, e_len1, e_len2, e_len3, e_len4, e_len5, e_cb, e_on1, e_on2, e_onI, e_onB, e_onO, e_onO0, e_onOO, e_I0, e_I, e_add, e_addT, e_addS, e_addL, e_addLR, e_addRL, e_addRR, e_mul, e_mulL, e_mulT, e_rev, e_revT, e_ix, e_eqI, e_eqS, e_eqB, e_neI, e_neS, e_neB, e_ltI, e_chain, e_len, e_abs, e_2I, e_tuple1, e_tuple2, e_tuple3, e_listT, e_listN, e_allR, e_seqT, e_seqK, e_seqL, e_isi, e_isB, e_notB, e_truth, e_next, e_drop, e_ret, e_retN, e_ifS, e_set, e_asg, e_par, e_nm, e_gsN, e_gsC, e_gTpK, e_gTpL, e_sum, e_maxL, e_minL, e_maxDef, e_int, e_intB, e_aug, e_on3, e_par3, e_newK, e_getK, e_keyI, e_keyS, e_inK, e_ninK, e_putK, e_lenK, e_lstS, e_seqX, e_gTpT, e_oN, e_oS, e_sl, e_slT, e_slL, e_finT, e_finN, e_index, e_idxT, e_idxL, e_mIx, e_ixST, e_ixSL, e_mtL, e_w, e_w1, e_w2, e_wE, e_wZ, e_itK, e_itT, e_itL, e_itT2, e_itL2, e_lc, e_for, e_wipe0, e_wipe, e_okI, e_okR, e_gSb, List.getElem?_cons_zero, List.getElem?_cons_succ, List.set_cons_zero, List.set_cons_succ]
  rw [e_seq]
  simp only [e_var, e_C, e_op, e_neg, e_isN, e_notN, e_and, e_or, e_not, e_test, e_tAnd, e_tOr, e_tNot, e_tYes, e_if, e_aNil, e_aCons, e_tup, e_lst, e_lstN, e_len0, e_len1, e_len2, e_len3, e_len4, e_len5, e_cb, e_on1, e_on2, e_onI, e_onB, e_onO, e_onO0, e_onOO, e_I0, e_I, e_add, e_addT, e_addS, e_addL, e_addLR, e_addRL, e_addRR, e_mul, e_mulL, e_mulT, e_rev, e_revT, e_ix, e_eqI, e_eqS, e_eqB, e_neI, e_neS, e_neB, e_ltI, e_chain, e_len, e_abs, e_2I, e_tuple1, e_tuple2, e_tuple3, e_listT, e_listN, e_allR, e_seqT, e_seqK, e_seqL, e_isi, e_isB, e_notB, e_truth, e_next, e_drop, e_ret, e_retN, e_ifS, e_set, e_asg, e_par, e_nm, e_gsN, e_gsC, e_gTpK, e_gTpL, e_sum, e_maxL, e_minL, e_maxDef, e_int, e_intB, e_aug, e_on3, e_par3, e_newK, e_getK, e_keyI, e_keyS, e_inK, e_ninK, e_putK, e_lenK, e_lstS, e_seqX, e_gTpT, e_oN, e_oS, e_sl, e_slT, e_slL, e_finT, e_finN, e_index, e_idxT, e_idxL, e_mIx, e_ixST, e_ixSL, e_mtL, e_w, e_w1, e_w2, e_wE, e_wZ, e_itK, e_itT, e_itL, e_itT2, e_itL2, e_lc, e_for, e_wipe0, e_wipe, e_okI, e_okR, e_gSb, List.getElem?_cons_zero, List.getElem?_cons_succ, List.set_cons_zero, List.set_cons_succ]
  rw [e_seq]
  simp only [e_var, e_C, e_op, e_neg, e_isN, e_notN, e_and, e_or, e_not, e_test, e_tAnd, e_tOr, e_tNot, e_tYes, e_if, e_aNil, e_aCons, e_tup, e_lst, e_lstN, e_len0, e_len1, e_len2, e_len3, e_len4, e_len5, e_cb, e_on1, e_on2, e_onI, e_onB, e_onO, e_onO0, e_onOO, e_I0, e_I, e_add, e_addT, e_addS, e_addL, e_addLR, e_addRL, e_addRR, e_mul, e_mulL, e_mulT, e_rev, e_revT, e_ix, e_eqI, e_eqS, e_eqB, e_neI, e_neS, e_neB, e_ltI, e_chain, e_len, e_abs, e_2I, e_tuple1, e_tuple2, e_tuple3, e_listT, e_listN, e_allR, e_seqT, e_seqK, e_seqL, e_isi, e_isB, e_notB, e_truth, e_next, e_drop, e_ret, e_retN, e_ifS, e_set, e_asg, e_par, e_nm, e_gsN, e_gsC, e_gTpK, e_gTpL, e_sum, e_maxL, e_minL, e_maxDef, e_int, e_intB, e_aug, e_on3, e_par3, e_newK, e_getK, e_keyI, e_keyS, e_inK, e_ninK, e_putK, e_lenK, e_lstS, e_seqX, e_gTpT, e_oN, e_oS, e_sl, e_slT, e_slL, e_finT, e_finN, e_index, e_idxT, e_idxL, e_mIx, e_ixST, e_ixSL, e_mtL, e_w, e_w1, e_w2, e_wE, e_wZ, e_itK, e_itT, e_itL, e_itT2, e_itL2, e_lc, e_for, e_wipe0, e_wipe, e_okI, e_okR, e_gSb, List.getElem?_cons_zero, List.getElem?_cons_succ, List.set_cons_zero, List.set_cons_succ, hd.it]
  refine for_list pairD (fun left r st' => ∃ (dn : List (Int × Int)) (x2 x3 : Option D), dn ++ left = done ∧ r = [some d, some (.int (ML.runR (ML.runR 0 done) dn)), x2, x3, some (.ref st.length)] ∧ st' = st ++ [.lst ((ML.scanR (ML.runR 0 done) dn).map D.int)]) ?_ ?_ done _ _ ⟨[], _, _, rfl, rfl, rfl⟩
  · rintro p left r st' N hN ⟨dn, x2, x3, e, rfl, rfl⟩
    unfold pairD
    have lt : dn.length < 1000 := by
      have := congrArg List.length e
      rw [List.length_append, List.length_cons] at this
      omega
    have ea : (st ++ [O.lst ((ML.scanR (ML.runR 0 done) dn).map D.int)])[st.length]? = some (.lst ((ML.scanR (ML.runR 0 done) dn).map D.int)) := by simp
    simp only [e_var, e_C, e_op, e_neg, e_isN, e_notN, e_and, e_or, e_not, e_test, e_tAnd, e_tOr, e_tNot, e_tYes, e_if, e_aNil, e_aCons, e_tup, e_lst, e_lstN, e_len0, e_len1, e_len2, e_len3, e_len4, e_len5, e_cb, e_on1, e_on2, e_onI, e_onB, e_onO, e_onO0, e_onOO, e_I0, e_I, e_add, e_addT, e_addS, e_addL, e_addLR, e_addRL, e_addRR, e_mul, e_mulL, e_mulT, e_rev, e_revT, e_ix, e_eqI, e_eqS, e_eqB, e_neI, e_neS, e_neB, e_ltI, e_chain, e_len, e_abs, e_2I, e_tuple1, e_tuple2, e_tuple3, e_listT, e_listN, e_allR, e_seqT, e_seqK, e_seqL, e_isi, e_isB, e_notB, e_truth, e_next, e_drop, e_ret, e_retN, e_ifS, e_set, e_asg, e_par, e_nm, e_gsN, e_gsC, e_gTpK, e_gTpL, e_sum, e_maxL, e_minL, e_maxDef, e_int, e_intB, e_aug, e_on3, e_par3, e_newK, e_getK, e_keyI, e_keyS, e_inK, e_ninK, e_putK, e_lenK, e_lstS, e_seqX, e_gTpT, e_oN, e_oS, e_sl, e_slT, e_slL, e_finT, e_finN, e_index, e_idxT, e_idxL, e_mIx, e_ixST, e_ixSL, e_mtL, e_w, e_w1, e_w2, e_wE, e_wZ, e_itK, e_itT, e_itL, e_itT2, e_itL2, e_lc, e_for, e_wipe0, e_wipe, e_okI, e_okR, e_gSb, List.getElem?_cons_zero, List.getElem?_cons_succ, List.set_cons_zero, List.set_cons_succ]
    refine ⟨rfl, ?_⟩
    rw [e_seq]
    simp only [e_var, e_C, e_op, e_neg, e_isN, e_notN, e_and, e_or, e_not, e_test, e_tAnd, e_tOr, e_tNot, e_tYes, e_if, e_aNil, e_aCons, e_tup, e_lst, e_lstN, e_len0, e_len1, e_len2, e_len3, e_len4, e_len5, e_cb, e_on1, e_on2, e_onI, e_onB, e_onO, e_onO0, e_onOO, e_I0, e_I, e_add, e_addT, e_addS, e_addL, e_addLR, e_addRL, e_addRR, e_mul, e_mulL, e_mulT, e_rev, e_revT, e_ix, e_eqI, e_eqS, e_eqB, e_neI, e_neS, e_neB, e_ltI, e_chain, e_len, e_abs, e_2I, e_tuple1, e_tuple2, e_tuple3, e_listT, e_listN, e_allR, e_seqT, e_seqK, e_seqL, e_isi, e_isB, e_notB, e_truth, e_next, e_drop, e_ret, e_retN, e_ifS, e_set, e_asg, e_par, e_nm, e_gsN, e_gsC, e_gTpK, e_gTpL, e_sum, e_maxL, e_minL, e_maxDef, e_int, e_intB, e_aug, e_on3, e_par3, e_newK, e_getK, e_keyI, e_keyS, e_inK, e_ninK, e_putK, e_lenK, e_lstS, e_seqX, e_gTpT, e_oN, e_oS, e_sl, e_slT, e_slL, e_finT, e_finN, e_index, e_idxT, e_idxL, e_mIx, e_ixST, e_ixSL, e_mtL, e_w, e_w1, e_w2, e_wE, e_wZ, e_itK, e_itT, e_itL, e_itT2, e_itL2, e_lc, e_for, e_wipe0, e_wipe, e_okI, e_okR, e_gSb, List.getElem?_cons_zero, List.getElem?_cons_succ, List.set_cons_zero, List.set_cons_succ]
    refine ⟨_, p, rfl, sm p (by rw [← e]; simp), ?_⟩
    simp only [e_var, e_C, e_op, e_neg, e_isN, e_notN, e_and, e_or, e_not, e_test, e_tAnd, e_tOr, e_tNot, e_tYes, e_if, e_aNil, e_aCons, e_tup, e_lst, e_lstN, e_len0, e_len1, e_len2, e_len3, e_len4, e_len5, e_cb, e_on1, e_on2, e_onI, e_onB, e_onO, e_onO0, e_onOO, e_I0, e_I, e_add, e_addT, e_addS, e_addL, e_addLR, e_addRL, e_addRR, e_mul, e_mulL, e_mulT, e_rev, e_revT, e_ix, e_eqI, e_eqS, e_eqB, e_neI, e_neS, e_neB, e_ltI, e_chain, e_len, e_abs, e_2I, e_tuple1, e_tuple2, e_tuple3, e_listT, e_listN, e_allR, e_seqT, e_seqK, e_seqL, e_isi, e_isB, e_notB, e_truth, e_next, e_drop, e_ret, e_retN, e_ifS, e_set, e_asg, e_par, e_nm, e_gsN, e_gsC, e_gTpK, e_gTpL, e_sum, e_maxL, e_minL, e_maxDef, e_int, e_intB, e_aug, e_on3, e_par3, e_newK, e_getK, e_keyI, e_keyS, e_inK, e_ninK, e_putK, e_lenK, e_lstS, e_seqX, e_gTpT, e_oN, e_oS, e_sl, e_slT, e_slL, e_finT, e_finN, e_index, e_idxT, e_idxL, e_mIx, e_ixST, e_ixSL, e_mtL, e_w, e_w1, e_w2, e_wE, e_wZ, e_itK, e_itT, e_itL, e_itT2, e_itL2, e_lc, e_for, e_wipe0, e_wipe, e_okI, e_okR, e_gSb, List.getElem?_cons_zero, List.getElem?_cons_succ, List.set_cons_zero, List.set_cons_succ]
    refine ⟨by unfold LstD; simp only [ea], append_ref ea (by rw [List.length_map, ML.scanR_length]; omega) (hN _ _ (.inl ⟨dn ++ [p], some (.int p.1), some (.int p.2), by rw [List.append_assoc]; exact e, by rw [ML.runR_app], ?_⟩))⟩
    rw [ML.scanR_app, List.map_append]
    simp
  rintro r st' ⟨dn, x2, x3, e, rfl, rfl⟩
  rw [List.append_nil] at e
  subst e
  have ea : (st ++ [O.lst ((ML.scanR (ML.runR 0 dn) dn).map D.int)])[st.length]? = some (.lst ((ML.scanR (ML.runR 0 dn) dn).map D.int)) := by simp
  simp only [e_var, e_C, e_op, e_neg, e_isN, e_notN, e_and, e_or, e_not, e_test, e_tAnd, e_tOr, e_tNot, e_tYes, e_if, e_aNil, e_aCons, e_tup, e_lst, e_lstN, e_len0, e_len1, e_len2, e_len3, e_len4, e_len5, e_cb, e_on1, e_on2, e_onI, e_onB, e_onO, e_onO0, e_onOO, e_I0, e_I, e_add, e_addT, e_addS, e_addL, e_addLR, e_addRL, e_addRR, e_mul, e_mulL, e_mulT, e_rev, e_revT, e_ix, e_eqI, e_eqS, e_eqB, e_neI, e_neS, e_neB, e_ltI, e_chain, e_len, e_abs, e_2I, e_tuple1, e_tuple2, e_tuple3, e_listT, e_listN, e_allR, e_seqT, e_seqK, e_seqL, e_isi, e_isB, e_notB, e_truth, e_next, e_drop, e_ret, e_retN, e_ifS, e_set, e_asg, e_par, e_nm, e_gsN, e_gsC, e_gTpK, e_gTpL, e_sum, e_maxL, e_minL, e_maxDef, e_int, e_intB, e_aug, e_on3, e_par3, e_newK, e_getK, e_keyI, e_keyS, e_inK, e_ninK, e_putK, e_lenK, e_lstS, e_seqX, e_gTpT, e_oN, e_oS, e_sl, e_slT, e_slL, e_finT, e_finN, e_index, e_idxT, e_idxL, e_mIx, e_ixST, e_ixSL, e_mtL, e_w, e_w1, e_w2, e_wE, e_wZ, e_itK, e_itT, e_itL, e_itT2, e_itL2, e_lc, e_for, e_wipe0, e_wipe, e_okI, e_okR, e_gSb, List.getElem?_cons_zero, List.getElem?_cons_succ, List.set_cons_zero, List.set_cons_succ, seq_ref ea]
  exact rt_drop rfl (by simp only [DL.clo]; exact clos_ints _ _) (fun i o h => .inl h) q
end DL
namespace DL
open PySem PySem.Spec PyProof.Rows L2 LamX PySem.W SL
structure Cnt (c : List Int) : Prop where
  ne : c ≠ []
  few : c.length ≤ 900
  nn : ∀ x ∈ c, 0 ≤ x
  room : ML.sumL c ≤ c.length
theorem Cnt.pos {c : List Int} (h : Cnt c) : 0 < c.length := List.length_pos_iff.mpr h.ne
theorem Cnt.flow {c : List Int} (h : Cnt c) : ML.Flow c.length (ML.cy c) (ML.cy (ML.flowsI c)) := ML.flowsI_flow h.ne h.room
theorem sum_mem_le : ∀ {l : List Int}, (∀ x ∈ l, 0 ≤ x) → ∀ x ∈ l, x ≤ ML.sumL l
  | y :: r, h, x, hx => by
    have s0 : 0 ≤ ML.sumL r := by
      have : ∀ {l : List Int}, (∀ x ∈ l, 0 ≤ x) → 0 ≤ ML.sumL l := by
        intro l
        induction l with
        | nil => intro _; exact Int.le_refl 0
        | cons z l ih => intro h; rw [ML.sumL_cons]; have := ih fun x hx => h x (List.mem_cons_of_mem _ hx); have := h z List.mem_cons_self; omega
      exact this fun x hx => h x (List.mem_cons_of_mem _ hx)
    rw [ML.sumL_cons]
    rcases List.mem_cons.mp hx with z | z
    · omega
    · have := sum_mem_le (fun x hx => h x (List.mem_cons_of_mem _ hx)) x z
      have := h y List.mem_cons_self
      omega
theorem Cnt.le {c : List Int} (h : Cnt c) {x : Int} (hx : x ∈ c) : x ≤ c.length := Int.le_trans (sum_mem_le h.nn x hx) h.room
def g_flows : DRs := fun ds st Q => ∃ c : List Int, ds = [rowD c] ∧ Cnt c ∧ Q (rowD (ML.flowsI c)) st
theorem ar_flows (ds : List D) (st : DSt) (Q : DK) (h : g_flows ds st Q) : ds.length = 1 := by
  obtain ⟨_, rfl, _⟩ := h
  rfl
theorem sem_flows (ds : List D) (st : DSt) (Q : DK) (h : g_flows ds st Q) : F_flows g_flowsB { nx := fun _ st' => Rt st Q .non st', rt := Rt st Q } (startD 2 ds) st := by
  obtain ⟨c, rfl, hc, q⟩ := h
  have st2 : startD 2 [rowD c] = [some (.tup (c.map D.int)), none] := rfl
  have big : (1000 : Nat) ≤ sizeLine := by decide
  have few := hc.few
  simp only [F_flows, st2, e_var, e_C, e_op, e_neg, e_isN, e_notN, e_and, e_or, e_not, e_test, e_tAnd, e_tOr, e_tNot, e_tYes, e_if, e_aNil, e_aCons, e_tup, e_lst, e_lstN, e_len0, e_len1, e_len2, e_len3, e_len4, e_len5, e_cb, e_on1, e_on2, e_onI, e_onB, e_onO, e_onO0, e_onOO, e_I0, e_I, e_add, e_addT, e_addS, e_addL, e_addLR, e_addRL, e_addRR, e_mul, e_mulL, e_mulT, e_rev, e_revT, e_ix, e_eqI, e_eqS, e_eqB, e_neI, e_neS, e_neB, e_ltI, e_chain, e_len, e_abs, e_2I, e_tuple1, e_tuple2, e_tuple3, e_listT, e_listN, e_allR, e_seqT, e_seqK, e_seqL, e_isi, e_isB, e_notB, e_truth, e_next, e_seq, e_drop, e_ret, e_retN, e_ifS, e_set, e_asg, e_par, e_nm, e_gsN, e_gsC, e_gTpK, e_gTpL, e_sum, e_maxL, e_minL, e_maxDef, e_int, e_intB, e_aug, e_on3, e_par3, e_newK, e_getK, e_keyI, e_keyS, e_inK, e_ninK, e_putK, e_lenK, e_lstS, e_seqX, e_gTpT, e_oN, e_oS, e_sl, e_slT, e_slL, e_finT, e_finN, e_index, e_idxT, e_idxL, e_mIx, e_ixST, e_ixSL, e_mtL, e_w, e_w1, e_w2, e_wE, e_wZ, e_itK, e_itT, e_itL, e_itT2, e_itL2, e_lc, e_for, e_wipe0, e_wipe, e_okI, e_okR, e_gSb, List.getElem?_cons_zero, List.getElem?_cons_succ, List.set_cons_zero, List.set_cons_succ, List.length_map]
  refine ⟨by omega, lc_pair D.int (fun x => pairD (1, x)) c (fun x hx Q' k => ?_) ?_⟩
  · exact k _ fun Q2 q2 => by simp only [e_var, e_C, e_op, e_neg, e_isN, e_notN, e_and, e_or, e_not, e_test, e_tAnd, e_tOr, e_tNot, e_tYes, e_if, e_aNil, e_aCons, e_tup, e_lst, e_lstN, e_len0, e_len1, e_len2, e_len3, e_len4, e_len5, e_cb, e_on1, e_on2, e_onI, e_onB, e_onO, e_onO0, e_onOO, e_I0, e_I, e_add, e_addT, e_addS, e_addL, e_addLR, e_addRL, e_addRR, e_mul, e_mulL, e_mulT, e_rev, e_revT, e_ix, e_eqI, e_eqS, e_eqB, e_neI, e_neS, e_neB, e_ltI, e_chain, e_len, e_abs, e_2I, e_tuple1, e_tuple2, e_tuple3, e_listT, e_listN, e_allR, e_seqT, e_seqK, e_seqL, e_isi, e_isB, e_notB, e_truth, e_next, e_seq, e_drop, e_ret, e_retN, e_ifS, e_set, e_asg, e_par, e_nm, e_gsN, e_gsC, e_gTpK, e_gTpL, e_sum, e_maxL, e_minL, e_maxDef, e_int, e_intB, e_aug, e_on3, e_par3, e_newK, e_getK, e_keyI, e_keyS, e_inK, e_ninK, e_putK, e_lenK, e_lstS, e_seqX, e_gTpT, e_oN, e_oS, e_sl, e_slT, e_slL, e_finT, e_finN, e_index, e_idxT, e_idxL, e_mIx, e_ixST, e_ixSL, e_mtL, e_w, e_w1, e_w2, e_wE, e_wZ, e_itK, e_itT, e_itL, e_itT2, e_itL2, e_lc, e_for, e_wipe0, e_wipe, e_okI, e_okR, e_gSb, List.getElem?_cons_zero, List.getElem?_cons_succ, List.set_cons_zero, List.set_cons_succ]; exact q2
  · simp only [e_var, e_C, e_op, e_neg, e_isN, e_notN, e_and, e_or, e_not, e_test, e_tAnd, e_tOr, e_tNot, e_tYes, e_if, e_aNil, e_aCons, e_tup, e_lst, e_lstN, e_len0, e_len1, e_len2, e_len3, e_len4, e_len5, e_cb, e_on1, e_on2, e_onI, e_onB, e_onO, e_onO0, e_onOO, e_I0, e_I, e_add, e_addT, e_addS, e_addL, e_addLR, e_addRL, e_addRR, e_mul, e_mulL, e_mulT, e_rev, e_revT, e_ix, e_eqI, e_eqS, e_eqB, e_neI, e_neS, e_neB, e_ltI, e_chain, e_len, e_abs, e_2I, e_tuple1, e_tuple2, e_tuple3, e_listT, e_listN, e_allR, e_seqT, e_seqK, e_seqL, e_isi, e_isB, e_notB, e_truth, e_next, e_seq, e_drop, e_ret, e_retN, e_ifS, e_set, e_asg, e_par, e_nm, e_gsN, e_gsC, e_gTpK, e_gTpL, e_sum, e_maxL, e_minL, e_maxDef, e_int, e_intB, e_aug, e_on3, e_par3, e_newK, e_getK, e_keyI, e_keyS, e_inK, e_ninK, e_putK, e_lenK, e_lstS, e_seqX, e_gTpT, e_oN, e_oS, e_sl, e_slT, e_slL, e_finT, e_finN, e_index, e_idxT, e_idxL, e_mIx, e_ixST, e_ixSL, e_mtL, e_w, e_w1, e_w2, e_wE, e_wZ, e_itK, e_itT, e_itL, e_itT2, e_itL2, e_lc, e_for, e_wipe0, e_wipe, e_okI, e_okR, e_gSb, List.getElem?_cons_zero, List.getElem?_cons_succ, List.set_cons_zero, List.set_cons_succ]
    refine ⟨_, c.map fun x => (1, x), rfl, .inl (by rw [List.map_map]; rfl), by rw [List.length_map]; omega, fun p hp => ?_, ?_, ?_⟩
    · obtain ⟨x, _, rfl⟩ := List.mem_map.mp hp
      exact ⟨by show (-(2 ^ 64) : Int) < 1; decide, by show (1 : Int) < 2 ^ 64; decide⟩
    · rw [List.map_map, List.map_map]
      have e1 : (c.map ((fun p : Int × Int => p.1 * p.2) ∘ fun x => (1, x))) = c := by
        refine (List.map_congr_left fun x _ => ?_).trans (List.map_id c)
        show (1 : Int) * x = id x
        simp
      have e2 : (c.map ((fun p : Int × Int => p.1) ∘ fun x => (1, x))) = c.map fun _ => (1 : Int) := rfl
      rw [e1, e2, ML.sum_ones, ML.sum_sumL]
      exact hc.room
    · rw [ML.flowsR_one]
      exact .inl q
theorem prev_at {xs : List Int} {n s : Nat} (l : xs.length = n) (h : s < n) : atI (xs.map D.int) ((s : Int) - 1) = some (.int (ML.cy xs (s + (n - 1)))) := by
  subst l
  cases s with
  | zero =>
    have e : xs = xs.dropLast ++ [xs.getLast (List.length_pos_iff.mp h)] := (List.dropLast_concat_getLast _).symm
    have z : ML.cy xs (0 + (xs.length - 1)) = xs.getLast (List.length_pos_iff.mp h) := by
      rw [Nat.zero_add, ML.cy_lt (by omega), List.getD_eq_getElem?_getD, List.getElem?_eq_getElem (by omega), List.getLast_eq_getElem]
      rfl
    rw [z]
    conv => lhs; rw [e]
    rw [List.map_append]
    exact atI_last _ _
  | succ k =>
    have z : ML.cy xs (k + 1 + (xs.length - 1)) = xs.getD k 0 := by
      rw [show k + 1 + (xs.length - 1) = k + xs.length by omega, ML.cy_per, ML.cy_lt (by omega)]
    rw [z, show ((k + 1 : Nat) : Int) - 1 = (k : Int) by omega]
    refine atI_nat ?_
    rw [List.getElem?_map, List.getElem?_eq_getElem (by omega), List.getD_eq_getElem?_getD, List.getElem?_eq_getElem (by omega)]
    rfl
theorem row_at {xs : List Int} {s : Nat} (h : s < xs.length) : atI (xs.map D.int) (s : Int) = some (.int (xs.getD s 0)) := by
  refine atI_nat ?_
  rw [List.getElem?_map, List.getElem?_eq_getElem h, List.getD_eq_getElem?_getD, List.getElem?_eq_getElem h]
  rfl
def isTk (c : List Int) (s : Nat) : Bool := decide (0 < ML.cy (ML.flowsI c) (s + (c.length - 1)) + c.getD s 0)
def takenI (c : List Int) : List Int := ((List.range c.length).filter (isTk c)).map fun s : Nat => (s : Int)
def g_taken : DRs := fun ds st Q => ∃ c : List Int, ds = [rowD c] ∧ Cnt c ∧ Q (rowD (takenI c)) st
theorem ar_taken (ds : List D) (st : DSt) (Q : DK) (h : g_taken ds st Q) : ds.length = 1 := by
  obtain ⟨_, rfl, _⟩ := h
  rfl
theorem lc_rngIf {tt : DTT} {te : DTE} {r : DEnv} {Q : List D → DSt → Prop} {st : DSt} {xs : List D} {n i : Nat} (p : Nat → Bool) (h : Nat → D) (ht : ∀ k : Nat, k < n → EvT tt (r.set i (some (.int (k : Nat)))) st (p k)) (he : ∀ k : Nat, k < n → p k = true → Ev te (r.set i (some (.int (k : Nat)))) st (h k))
    (q : Q (((List.range n).filter p).map h) st) : compL ⟨xs, none⟩ (gNm i) tt te r Q (rgD 0 n) [] st := by
  refine lc_if (fun d => match d with | .int i => p i.toNat | _ => false) (fun d => match d with | .int i => h i.toNat | _ => .non) (fun d hd => ?_) (fun d hd hp => ?_) ?_
  · obtain ⟨k, lt, rfl⟩ := rgD_mem hd
    rw [Int.zero_add]
    exact ht k lt
  · obtain ⟨k, lt, rfl⟩ := rgD_mem hd
    rw [Int.zero_add] at hp ⊢
    exact he k lt hp
  · rw [rgD0, List.filter_map, List.map_map]
    exact q
theorem sem_taken (ds : List D) (st : DSt) (Q : DK) (h : g_taken ds st Q) : F_taken g_flows { nx := fun _ st' => Rt st Q .non st', rt := Rt st Q } (startD 3 ds) st := by
  obtain ⟨c, rfl, hc, q⟩ := h
  have st3 : startD 3 [rowD c] = [some (.tup (c.map D.int)), none, none] := rfl
  have big : (1000 : Nat) ≤ sizeLine := by decide
  have few := hc.few
  simp only [F_taken, st3]
  rw [e_seq]
  simp only [e_var, e_C, e_op, e_neg, e_isN, e_notN, e_and, e_or, e_not, e_test, e_tAnd, e_tOr, e_tNot, e_tYes, e_if, e_aNil, e_aCons, e_tup, e_lst, e_lstN, e_len0, e_len1, e_len2, e_len3, e_len4, e_len5, e_cb, e_on1, e_on2, e_onI, e_onB, e_onO, e_onO0, e_onOO, e_I0, e_I, e_add, e_addT, e_addS, e_addL, e_addLR, e_addRL, e_addRR, e_mul, e_mulL, e_mulT, e_rev, e_revT, e_ix, e_eqI, e_eqS, e_eqB, e_neI, e_neS, e_neB, e_ltI, e_chain, e_len, e_abs, e_2I, e_tuple1, e_tuple2, e_tuple3, e_listT, e_listN, e_allR, e_seqT, e_seqK, e_seqL, e_isi, e_isB, e_notB, e_truth, e_next, e_drop, e_ret, e_retN, e_ifS, e_set, e_asg, e_par, e_nm, e_gsN, e_gsC, e_gTpK, e_gTpL, e_sum, e_maxL, e_minL, e_maxDef, e_int, e_intB, e_aug, e_on3, e_par3, e_newK, e_getK, e_keyI, e_keyS, e_inK, e_ninK, e_putK, e_lenK, e_lstS, e_seqX, e_gTpT, e_oN, e_oS, e_sl, e_slT, e_slL, e_finT, e_finN, e_index, e_idxT, e_idxL, e_mIx, e_ixST, e_ixSL, e_mtL, e_w, e_w1, e_w2, e_wE, e_wZ, e_itK, e_itT, e_itL, e_itT2, e_itL2, e_lc, e_for, e_wipe0, e_wipe, e_okI, e_okR, e_gSb, List.getElem?_cons_zero, List.getElem?_cons_succ, List.set_cons_zero, List.set_cons_succ]
  refine ⟨c, rfl, hc, ?_⟩
  unfold rowD
  simp only [e_var, e_C, e_op, e_neg, e_isN, e_notN, e_and, e_or, e_not, e_test, e_tAnd, e_tOr, e_tNot, e_tYes, e_if, e_aNil, e_aCons, e_tup, e_lst, e_lstN, e_len0, e_len1, e_len2, e_len3, e_len4, e_len5, e_cb, e_on1, e_on2, e_onI, e_onB, e_onO, e_onO0, e_onOO, e_I0, e_I, e_add, e_addT, e_addS, e_addL, e_addLR, e_addRL, e_addRR, e_mul, e_mulL, e_mulT, e_rev, e_revT, e_ix, e_eqI, e_eqS, e_eqB, e_neI, e_neS, e_neB, e_ltI, e_chain, e_len, e_abs, e_2I, e_tuple1, e_tuple2, e_tuple3, e_listT, e_listN, e_allR, e_seqT, e_seqK, e_seqL, e_isi, e_isB, e_notB, e_truth, e_next, e_drop, e_ret, e_retN, e_ifS, e_set, e_asg, e_par, e_nm, e_gsN, e_gsC, e_gTpK, e_gTpL, e_sum, e_maxL, e_minL, e_maxDef, e_int, e_intB, e_aug, e_on3, e_par3, e_newK, e_getK, e_keyI, e_keyS, e_inK, e_ninK, e_putK, e_lenK, e_lstS, e_seqX, e_gTpT, e_oN, e_oS, e_sl, e_slT, e_slL, e_finT, e_finN, e_index, e_idxT, e_idxL, e_mIx, e_ixST, e_ixSL, e_mtL, e_w, e_w1, e_w2, e_wE, e_wZ, e_itK, e_itT, e_itL, e_itT2, e_itL2, e_lc, e_for, e_wipe0, e_wipe, e_okI, e_okR, e_gSb, List.getElem?_cons_zero, List.getElem?_cons_succ, List.set_cons_zero, List.set_cons_succ, List.length_map, rgD_length, Int.toNat_natCast]
  refine ⟨⟨by omega, by omega⟩, by omega, lc_rngIf (isTk c) (fun s => .int (s : Nat)) (fun k lt Q' q' => ?_) (fun k lt _ Q' q' => ?_) ?_⟩
  · simp only [e_var, e_C, e_op, e_neg, e_isN, e_notN, e_and, e_or, e_not, e_test, e_tAnd, e_tOr, e_tNot, e_tYes, e_if, e_aNil, e_aCons, e_tup, e_lst, e_lstN, e_len0, e_len1, e_len2, e_len3, e_len4, e_len5, e_cb, e_on1, e_on2, e_onI, e_onB, e_onO, e_onO0, e_onOO, e_I0, e_I, e_add, e_addT, e_addS, e_addL, e_addLR, e_addRL, e_addRR, e_mul, e_mulL, e_mulT, e_rev, e_revT, e_ix, e_eqI, e_eqS, e_eqB, e_neI, e_neS, e_neB, e_ltI, e_chain, e_len, e_abs, e_2I, e_tuple1, e_tuple2, e_tuple3, e_listT, e_listN, e_allR, e_seqT, e_seqK, e_seqL, e_isi, e_isB, e_notB, e_truth, e_next, e_drop, e_ret, e_retN, e_ifS, e_set, e_asg, e_par, e_nm, e_gsN, e_gsC, e_gTpK, e_gTpL, e_sum, e_maxL, e_minL, e_maxDef, e_int, e_intB, e_aug, e_on3, e_par3, e_newK, e_getK, e_keyI, e_keyS, e_inK, e_ninK, e_putK, e_lenK, e_lstS, e_seqX, e_gTpT, e_oN, e_oS, e_sl, e_slT, e_slL, e_finT, e_finN, e_index, e_idxT, e_idxL, e_mIx, e_ixST, e_ixSL, e_mtL, e_w, e_w1, e_w2, e_wE, e_wZ, e_itK, e_itT, e_itL, e_itT2, e_itL2, e_lc, e_for, e_wipe0, e_wipe, e_okI, e_okR, e_gSb, List.getElem?_cons_zero, List.getElem?_cons_succ, List.set_cons_zero, List.set_cons_succ, prev_at (ML.flowsI_length c) lt, row_at lt]
    exact q'
  · simp only [e_var, e_C, e_op, e_neg, e_isN, e_notN, e_and, e_or, e_not, e_test, e_tAnd, e_tOr, e_tNot, e_tYes, e_if, e_aNil, e_aCons, e_tup, e_lst, e_lstN, e_len0, e_len1, e_len2, e_len3, e_len4, e_len5, e_cb, e_on1, e_on2, e_onI, e_onB, e_onO, e_onO0, e_onOO, e_I0, e_I, e_add, e_addT, e_addS, e_addL, e_addLR, e_addRL, e_addRR, e_mul, e_mulL, e_mulT, e_rev, e_revT, e_ix, e_eqI, e_eqS, e_eqB, e_neI, e_neS, e_neB, e_ltI, e_chain, e_len, e_abs, e_2I, e_tuple1, e_tuple2, e_tuple3, e_listT, e_listN, e_allR, e_seqT, e_seqK, e_seqL, e_isi, e_isB, e_notB, e_truth, e_next, e_drop, e_ret, e_retN, e_ifS, e_set, e_asg, e_par, e_nm, e_gsN, e_gsC, e_gTpK, e_gTpL, e_sum, e_maxL, e_minL, e_maxDef, e_int, e_intB, e_aug, e_on3, e_par3, e_newK, e_getK, e_keyI, e_keyS, e_inK, e_ninK, e_putK, e_lenK, e_lstS, e_seqX, e_gTpT, e_oN, e_oS, e_sl, e_slT, e_slL, e_finT, e_finN, e_index, e_idxT, e_idxL, e_mIx, e_ixST, e_ixSL, e_mtL, e_w, e_w1, e_w2, e_wE, e_wZ, e_itK, e_itT, e_itL, e_itT2, e_itL2, e_lc, e_for, e_wipe0, e_wipe, e_okI, e_okR, e_gSb, List.getElem?_cons_zero, List.getElem?_cons_succ, List.set_cons_zero, List.set_cons_succ]
    exact q'
  · refine tuple_end (.inl ?_)
    unfold rowD takenI at q
    rw [List.map_map] at q
    exact q
def g_dsum : DRs := fun ds st Q => ∃ c : List Int, ds = [rowD c] ∧ Cnt c ∧ Q (.int (ML.sumL (ML.flowsI c))) st
theorem ar_dsum (ds : List D) (st : DSt) (Q : DK) (h : g_dsum ds st Q) : ds.length = 1 := by
  obtain ⟨_, rfl, _⟩ := h
  rfl
theorem sem_dsum (ds : List D) (st : DSt) (Q : DK) (h : g_dsum ds st Q) : F_distance_sum g_flows { nx := fun _ st' => Rt st Q .non st', rt := Rt st Q } (startD 1 ds) st := by
  obtain ⟨c, rfl, hc, q⟩ := h
  have st1 : startD 1 [rowD c] = [some (.tup (c.map D.int))] := rfl
  simp only [F_distance_sum, st1, e_var, e_C, e_op, e_neg, e_isN, e_notN, e_and, e_or, e_not, e_test, e_tAnd, e_tOr, e_tNot, e_tYes, e_if, e_aNil, e_aCons, e_tup, e_lst, e_lstN, e_len0, e_len1, e_len2, e_len3, e_len4, e_len5, e_cb, e_on1, e_on2, e_onI, e_onB, e_onO, e_onO0, e_onOO, e_I0, e_I, e_add, e_addT, e_addS, e_addL, e_addLR, e_addRL, e_addRR, e_mul, e_mulL, e_mulT, e_rev, e_revT, e_ix, e_eqI, e_eqS, e_eqB, e_neI, e_neS, e_neB, e_ltI, e_chain, e_len, e_abs, e_2I, e_tuple1, e_tuple2, e_tuple3, e_listT, e_listN, e_allR, e_seqT, e_seqK, e_seqL, e_isi, e_isB, e_notB, e_truth, e_next, e_seq, e_drop, e_ret, e_retN, e_ifS, e_set, e_asg, e_par, e_nm, e_gsN, e_gsC, e_gTpK, e_gTpL, e_sum, e_maxL, e_minL, e_maxDef, e_int, e_intB, e_aug, e_on3, e_par3, e_newK, e_getK, e_keyI, e_keyS, e_inK, e_ninK, e_putK, e_lenK, e_lstS, e_seqX, e_gTpT, e_oN, e_oS, e_sl, e_slT, e_slL, e_finT, e_finN, e_index, e_idxT, e_idxL, e_mIx, e_ixST, e_ixSL, e_mtL, e_w, e_w1, e_w2, e_wE, e_wZ, e_itK, e_itT, e_itL, e_itT2, e_itL2, e_lc, e_for, e_wipe0, e_wipe, e_okI, e_okR, e_gSb, List.getElem?_cons_zero, List.getElem?_cons_succ, List.set_cons_zero, List.set_cons_succ]
  refine ⟨c, rfl, hc, ?_⟩
  unfold rowD
  simp only [e_var, e_C, e_op, e_neg, e_isN, e_notN, e_and, e_or, e_not, e_test, e_tAnd, e_tOr, e_tNot, e_tYes, e_if, e_aNil, e_aCons, e_tup, e_lst, e_lstN, e_len0, e_len1, e_len2, e_len3, e_len4, e_len5, e_cb, e_on1, e_on2, e_onI, e_onB, e_onO, e_onO0, e_onOO, e_I0, e_I, e_add, e_addT, e_addS, e_addL, e_addLR, e_addRL, e_addRR, e_mul, e_mulL, e_mulT, e_rev, e_revT, e_ix, e_eqI, e_eqS, e_eqB, e_neI, e_neS, e_neB, e_ltI, e_chain, e_len, e_abs, e_2I, e_tuple1, e_tuple2, e_tuple3, e_listT, e_listN, e_allR, e_seqT, e_seqK, e_seqL, e_isi, e_isB, e_notB, e_truth, e_next, e_seq, e_drop, e_ret, e_retN, e_ifS, e_set, e_asg, e_par, e_nm, e_gsN, e_gsC, e_gTpK, e_gTpL, e_sum, e_maxL, e_minL, e_maxDef, e_int, e_intB, e_aug, e_on3, e_par3, e_newK, e_getK, e_keyI, e_keyS, e_inK, e_ninK, e_putK, e_lenK, e_lstS, e_seqX, e_gTpT, e_oN, e_oS, e_sl, e_slT, e_slL, e_finT, e_finN, e_index, e_idxT, e_idxL, e_mIx, e_ixST, e_ixSL, e_mtL, e_w, e_w1, e_w2, e_wE, e_wZ, e_itK, e_itT, e_itL, e_itT2, e_itL2, e_lc, e_for, e_wipe0, e_wipe, e_okI, e_okR, e_gSb, List.getElem?_cons_zero, List.getElem?_cons_succ, List.set_cons_zero, List.set_cons_succ, intsD_ints, ML.sum_sumL]
  exact .inl q
def waitsI (c : List Int) : List Int := (List.range c.length).flatMap fun s => (List.range (c.getD s 0).toNat).map fun k : Nat => ML.cy (ML.flowsI c) (s + (c.length - 1)) + (k : Int)
theorem waits_len {c : List Int} (h : Cnt c) : (waitsI c).length ≤ c.length := by
  have e : ((waitsI c).length : Int) = ML.sumL c := by
    unfold waitsI
    rw [ML.sumL_N]
    have gen : ∀ m, m ≤ c.length → (((List.range m).flatMap fun s => (List.range (c.getD s 0).toNat).map fun k : Nat => ML.cy (ML.flowsI c) (s + (c.length - 1)) + (k : Int)).length : Int) = ML.sumN m fun i => c.getD i 0 := by
      intro m
      induction m with
      | zero => intro _; rfl
      | succ m ih =>
        intro hm
        rw [List.range_succ, List.flatMap_append, List.length_append, Int.natCast_add, ih (by omega)]
        show _ + _ = _ + _
        have z : 0 ≤ c.getD m 0 := by
          rw [List.getD_eq_getElem?_getD, List.getElem?_eq_getElem (by omega)]
          exact h.nn _ (List.getElem_mem _)
        simp only [List.flatMap_cons, List.flatMap_nil, List.append_nil, List.length_map, List.length_range]
        omega
    exact gen _ (Nat.le_refl _)
  have := h.room
  omega
def g_waits : DRs := fun ds st Q => ∃ c : List Int, ds = [rowD c] ∧ Cnt c ∧ Q (.lst ((waitsI c).map D.int)) st
theorem ar_waits (ds : List D) (st : DSt) (Q : DK) (h : g_waits ds st Q) : ds.length = 1 := by
  obtain ⟨_, rfl, _⟩ := h
  rfl
theorem comp2_rng {te : DTE} {r : DEnv} {f1 : DTI} {vs1 : List Nat} {Q : List D → DSt → Prop} {st : DSt} {xs : List D} {i j : Nat} (len : Nat → Nat) (h : Nat → Nat → D) :
    ∀ (m n : Nat) (acc : List D), acc.length + ((List.range m).flatMap fun s => (List.range (len (n + s))).map (h (n + s))).length ≤ sizeLine →
      (∀ k, n ≤ k → k < n + m → ∀ R : DIt → DSt → Prop, R ⟨rgD 0 (len k), none⟩ st → f1 (r.set i (some (.int (k : Nat)))) st R) →
      (∀ k l, n ≤ k → k < n + m → l < len k → Ev te ((wipeD (r.set i (some (.int (k : Nat)))) vs1).set j (some (.int (l : Nat)))) st (h k l)) →
      Q (acc ++ ((List.range m).flatMap fun s => (List.range (len (n + s))).map (h (n + s)))) st →
      comp2 ⟨xs, none⟩ (gNm i) dtYes f1 (gNm j) dtYes te r vs1 Q ((List.range m).map fun s => D.int ((n + s : Nat) : Int)) acc st
  | 0, n, acc, _, _, _, q => by
    have q' : Q acc st := by simpa using q
    exact q'
  | m + 1, n, acc, le, h1, h2, q => by
    have er : (List.range (m + 1)).map (fun s => D.int ((n + s : Nat) : Int)) = .int (n : Nat) :: (List.range m).map fun s => D.int ((n + 1 + s : Nat) : Int) := by
      rw [List.range_succ_eq_map, List.map_cons, List.map_map]
      congr 1
      exact List.map_congr_left fun s _ => by show D.int ((n + (s + 1) : Nat) : Int) = _; rw [show n + (s + 1) = n + 1 + s by omega]
    have ef : ((List.range (m + 1)).flatMap fun s => (List.range (len (n + s))).map (h (n + s))) = (List.range (len n)).map (h n) ++ (List.range m).flatMap fun s => (List.range (len (n + 1 + s))).map (h (n + 1 + s)) := by
      rw [List.range_succ_eq_map, List.flatMap_cons, List.flatMap_map]
      refine congrArg (fun f => _ ++ (List.range m).flatMap f) (funext fun s => ?_)
      rw [show n + Nat.succ s = n + 1 + s by omega]
    rw [er]
    rw [ef] at le q
    rw [List.length_append] at le
    show f1 (r.set i (some (.int (n : Nat)))) st _
    refine h1 n (Nat.le_refl _) (by omega) _ ?_
    refine compI_rng (fun d => match d with | .int l => h n l.toNat | _ => .non) _ acc (by rw [rgD_length]; simp at le; omega) (fun d hd => ?_) ?_
    · obtain ⟨l, lt, rfl⟩ := rgD_mem hd
      rw [Int.zero_add]
      exact h2 n l (Nat.le_refl _) (by omega) lt
    · have e3 : (rgD 0 (len n)).map (fun d => match d with | .int l => h n l.toNat | _ => .non) = (List.range (len n)).map (h n) := by
        rw [rgD0, List.map_map]
        rfl
      rw [e3]
      refine comp2_rng len h m (n + 1) _ (by rw [List.length_append]; omega) (fun k a b => h1 k (by omega) (by omega)) (fun k l a b => h2 k l (by omega) (by omega)) ?_
      rw [List.append_assoc]
      exact q
theorem sem_waits (ds : List D) (st : DSt) (Q : DK) (h : g_waits ds st Q) : F_waits g_flows { nx := fun _ st' => Rt st Q .non st', rt := Rt st Q } (startD 4 ds) st := by
  obtain ⟨c, rfl, hc, q⟩ := h
  have st4 : startD 4 [rowD c] = [some (.tup (c.map D.int)), none, none, none] := rfl
  have big : (1000 : Nat) ≤ sizeLine := by decide
  have few := hc.few
  have wl := waits_len hc
  simp only [F_waits, st4]
  rw [e_seq]
  simp only [e_var, e_C, e_op, e_neg, e_isN, e_notN, e_and, e_or, e_not, e_test, e_tAnd, e_tOr, e_tNot, e_tYes, e_if, e_aNil, e_aCons, e_tup, e_lst, e_lstN, e_len0, e_len1, e_len2, e_len3, e_len4, e_len5, e_cb, e_on1, e_on2, e_onI, e_onB, e_onO, e_onO0, e_onOO, e_I0, e_I, e_add, e_addT, e_addS, e_addL, e_addLR, e_addRL, e_addRR, e_mul, e_mulL, e_mulT, e_rev, e_revT, e_ix, e_eqI, e_eqS, e_eqB, e_neI, e_neS, e_neB, e_ltI, e_chain, e_len, e_abs, e_2I, e_tuple1, e_tuple2, e_tuple3, e_listT, e_listN, e_allR, e_seqT, e_seqK, e_seqL, e_isi, e_isB, e_notB, e_truth, e_next, e_drop, e_ret, e_retN, e_ifS, e_set, e_asg, e_par, e_nm, e_gsN, e_gsC, e_gTpK, e_gTpL, e_sum, e_maxL, e_minL, e_maxDef, e_int, e_intB, e_aug, e_on3, e_par3, e_newK, e_getK, e_keyI, e_keyS, e_inK, e_ninK, e_putK, e_lenK, e_lstS, e_seqX, e_gTpT, e_oN, e_oS, e_sl, e_slT, e_slL, e_finT, e_finN, e_index, e_idxT, e_idxL, e_mIx, e_ixST, e_ixSL, e_mtL, e_w, e_w1, e_w2, e_wE, e_wZ, e_itK, e_itT, e_itL, e_itT2, e_itL2, e_lc, e_for, e_wipe0, e_wipe, e_okI, e_okR, e_gSb, List.getElem?_cons_zero, List.getElem?_cons_succ, List.set_cons_zero, List.set_cons_succ]
  refine ⟨c, rfl, hc, ?_⟩
  unfold rowD
  simp only [e_var, e_C, e_op, e_neg, e_isN, e_notN, e_and, e_or, e_not, e_test, e_tAnd, e_tOr, e_tNot, e_tYes, e_if, e_aNil, e_aCons, e_tup, e_lst, e_lstN, e_len0, e_len1, e_len2, e_len3, e_len4, e_len5, e_cb, e_on1, e_on2, e_onI, e_onB, e_onO, e_onO0, e_onOO, e_I0, e_I, e_add, e_addT, e_addS, e_addL, e_addLR, e_addRL, e_addRR, e_mul, e_mulL, e_mulT, e_rev, e_revT, e_ix, e_eqI, e_eqS, e_eqB, e_neI, e_neS, e_neB, e_ltI, e_chain, e_len, e_abs, e_2I, e_tuple1, e_tuple2, e_tuple3, e_listT, e_listN, e_allR, e_seqT, e_seqK, e_seqL, e_isi, e_isB, e_notB, e_truth, e_next, e_drop, e_ret, e_retN, e_ifS, e_set, e_asg, e_par, e_nm, e_gsN, e_gsC, e_gTpK, e_gTpL, e_sum, e_maxL, e_minL, e_maxDef, e_int, e_intB, e_aug, e_on3, e_par3, e_newK, e_getK, e_keyI, e_keyS, e_inK, e_ninK, e_putK, e_lenK, e_lstS, e_seqX, e_gTpT, e_oN, e_oS, e_sl, e_slT, e_slL, e_finT, e_finN, e_index, e_idxT, e_idxL, e_mIx, e_ixST, e_ixSL, e_mtL, e_w, e_w1, e_w2, e_wE, e_wZ, e_itK, e_itT, e_itL, e_itT2, e_itL2, e_lc, e_for, e_wipe0, e_wipe, e_okI, e_okR, e_gSb, List.getElem?_cons_zero, List.getElem?_cons_succ, List.set_cons_zero, List.set_cons_succ, e_lc2, List.length_map, Int.toNat_natCast]
  refine ⟨⟨by omega, by omega⟩, ?_⟩
  have er : rgD 0 c.length = (List.range c.length).map fun s => D.int ((0 + s : Nat) : Int) := by
    rw [rgD0]
    exact List.map_congr_left fun s _ => by rw [Nat.zero_add]
  have ew : ((List.range c.length).flatMap fun s => (List.range ((fun s => (c.getD s 0).toNat) (0 + s))).map ((fun s (k : Nat) => D.int (ML.cy (ML.flowsI c) (s + (c.length - 1)) + (k : Int))) (0 + s))) = (waitsI c).map D.int := by
    unfold waitsI
    rw [List.map_flatMap]
    simp only [Nat.zero_add, List.map_map]
    rfl
  rw [er]
  refine comp2_rng (fun s => (c.getD s 0).toNat) (fun s k => .int (ML.cy (ML.flowsI c) (s + (c.length - 1)) + (k : Int))) c.length 0 [] (by rw [ew, List.length_map]; simp; omega) (fun k _ lt R hR => ?_) (fun k l _ lt ll Q' q' => ?_) ?_
  · have lk : k < c.length := by omega
    have z : 0 ≤ c.getD k 0 ∧ c.getD k 0 ≤ c.length := by
      rw [List.getD_eq_getElem?_getD, List.getElem?_eq_getElem lk]
      exact ⟨hc.nn _ (List.getElem_mem _), hc.le (List.getElem_mem _)⟩
    simp only [e_var, e_C, e_op, e_neg, e_isN, e_notN, e_and, e_or, e_not, e_test, e_tAnd, e_tOr, e_tNot, e_tYes, e_if, e_aNil, e_aCons, e_tup, e_lst, e_lstN, e_len0, e_len1, e_len2, e_len3, e_len4, e_len5, e_cb, e_on1, e_on2, e_onI, e_onB, e_onO, e_onO0, e_onOO, e_I0, e_I, e_add, e_addT, e_addS, e_addL, e_addLR, e_addRL, e_addRR, e_mul, e_mulL, e_mulT, e_rev, e_revT, e_ix, e_eqI, e_eqS, e_eqB, e_neI, e_neS, e_neB, e_ltI, e_chain, e_len, e_abs, e_2I, e_tuple1, e_tuple2, e_tuple3, e_listT, e_listN, e_allR, e_seqT, e_seqK, e_seqL, e_isi, e_isB, e_notB, e_truth, e_next, e_drop, e_ret, e_retN, e_ifS, e_set, e_asg, e_par, e_nm, e_gsN, e_gsC, e_gTpK, e_gTpL, e_sum, e_maxL, e_minL, e_maxDef, e_int, e_intB, e_aug, e_on3, e_par3, e_newK, e_getK, e_keyI, e_keyS, e_inK, e_ninK, e_putK, e_lenK, e_lstS, e_seqX, e_gTpT, e_oN, e_oS, e_sl, e_slT, e_slL, e_finT, e_finN, e_index, e_idxT, e_idxL, e_mIx, e_ixST, e_ixSL, e_mtL, e_w, e_w1, e_w2, e_wE, e_wZ, e_itK, e_itT, e_itL, e_itT2, e_itL2, e_lc, e_for, e_wipe0, e_wipe, e_okI, e_okR, e_gSb, List.getElem?_cons_zero, List.getElem?_cons_succ, List.set_cons_zero, List.set_cons_succ, row_at lk]
    exact ⟨⟨by omega, by omega⟩, hR⟩
  · have lk : k < c.length := by omega
    simp only [e_var, e_C, e_op, e_neg, e_isN, e_notN, e_and, e_or, e_not, e_test, e_tAnd, e_tOr, e_tNot, e_tYes, e_if, e_aNil, e_aCons, e_tup, e_lst, e_lstN, e_len0, e_len1, e_len2, e_len3, e_len4, e_len5, e_cb, e_on1, e_on2, e_onI, e_onB, e_onO, e_onO0, e_onOO, e_I0, e_I, e_add, e_addT, e_addS, e_addL, e_addLR, e_addRL, e_addRR, e_mul, e_mulL, e_mulT, e_rev, e_revT, e_ix, e_eqI, e_eqS, e_eqB, e_neI, e_neS, e_neB, e_ltI, e_chain, e_len, e_abs, e_2I, e_tuple1, e_tuple2, e_tuple3, e_listT, e_listN, e_allR, e_seqT, e_seqK, e_seqL, e_isi, e_isB, e_notB, e_truth, e_next, e_drop, e_ret, e_retN, e_ifS, e_set, e_asg, e_par, e_nm, e_gsN, e_gsC, e_gTpK, e_gTpL, e_sum, e_maxL, e_minL, e_maxDef, e_int, e_intB, e_aug, e_on3, e_par3, e_newK, e_getK, e_keyI, e_keyS, e_inK, e_ninK, e_putK, e_lenK, e_lstS, e_seqX, e_gTpT, e_oN, e_oS, e_sl, e_slT, e_slL, e_finT, e_finN, e_index, e_idxT, e_idxL, e_mIx, e_ixST, e_ixSL, e_mtL, e_w, e_w1, e_w2, e_wE, e_wZ, e_itK, e_itT, e_itL, e_itT2, e_itL2, e_lc, e_for, e_wipe0, e_wipe, e_okI, e_okR, e_gSb, List.getElem?_cons_zero, List.getElem?_cons_succ, List.set_cons_zero, List.set_cons_succ, prev_at (ML.flowsI_length c) lk]
    exact q'
  · rw [ew, List.nil_append]
    exact .inl q
def maxI (l : List Int) : Int := l.foldl max 0
theorem maxI_spec (l : List Int) (h : ∀ x ∈ l, 0 ≤ x) : (l = [] ∧ maxI l = 0 ∨ maxI l ∈ l) ∧ ∀ y ∈ l, y ≤ maxI l := by
  obtain ⟨m1, m2⟩ := fmax_spec l 0
  refine ⟨?_, fun y hy => m2 y (List.mem_cons_of_mem _ hy)⟩
  cases l with
  | nil => exact .inl ⟨rfl, rfl⟩
  | cons a r =>
    right
    rcases List.mem_cons.mp m1 with z | z
    · have := m2 a (List.mem_cons_of_mem _ List.mem_cons_self)
      have := h a List.mem_cons_self
      unfold maxI
      rw [z]
      have : a = 0 := by omega
      rw [this]
      exact List.mem_cons_self
    · exact z
theorem max_one {l : List Int} {a b : Int} (h1 : a ∈ l) (h2 : ∀ y ∈ l, y ≤ a) (h3 : b ∈ l) (h4 : ∀ y ∈ l, y ≤ b) : a = b := by
  have := h2 b h3
  have := h4 a h1
  omega
theorem waits_nn {c : List Int} (hc : Cnt c) : ∀ x ∈ waitsI c, 0 ≤ x := by
  intro x hx
  unfold waitsI at hx
  obtain ⟨s, _, hx⟩ := List.mem_flatMap.mp hx
  obtain ⟨k, _, rfl⟩ := List.mem_map.mp hx
  have := hc.flow.nn (s + (c.length - 1))
  omega
def g_great : DRs := fun ds st Q => ∃ c : List Int, ds = [rowD c] ∧ Cnt c ∧ Q (.int (maxI (waitsI c))) st
theorem ar_great (ds : List D) (st : DSt) (Q : DK) (h : g_great ds st Q) : ds.length = 1 := by
  obtain ⟨_, rfl, _⟩ := h
  rfl
theorem sem_great (ds : List D) (st : DSt) (Q : DK) (h : g_great ds st Q) : F_greatest_distance g_waits { nx := fun _ st' => Rt st Q .non st', rt := Rt st Q } (startD 1 ds) st := by
  obtain ⟨c, rfl, hc, q⟩ := h
  have st1 : startD 1 [rowD c] = [some (.tup (c.map D.int))] := rfl
  simp only [F_greatest_distance, st1, e_var, e_C, e_op, e_neg, e_isN, e_notN, e_and, e_or, e_not, e_test, e_tAnd, e_tOr, e_tNot, e_tYes, e_if, e_aNil, e_aCons, e_tup, e_lst, e_lstN, e_len0, e_len1, e_len2, e_len3, e_len4, e_len5, e_cb, e_on1, e_on2, e_onI, e_onB, e_onO, e_onO0, e_onOO, e_I0, e_I, e_add, e_addT, e_addS, e_addL, e_addLR, e_addRL, e_addRR, e_mul, e_mulL, e_mulT, e_rev, e_revT, e_ix, e_eqI, e_eqS, e_eqB, e_neI, e_neS, e_neB, e_ltI, e_chain, e_len, e_abs, e_2I, e_tuple1, e_tuple2, e_tuple3, e_listT, e_listN, e_allR, e_seqT, e_seqK, e_seqL, e_isi, e_isB, e_notB, e_truth, e_next, e_seq, e_drop, e_ret, e_retN, e_ifS, e_set, e_asg, e_par, e_nm, e_gsN, e_gsC, e_gTpK, e_gTpL, e_sum, e_maxL, e_minL, e_maxDef, e_int, e_intB, e_aug, e_on3, e_par3, e_newK, e_getK, e_keyI, e_keyS, e_inK, e_ninK, e_putK, e_lenK, e_lstS, e_seqX, e_gTpT, e_oN, e_oS, e_sl, e_slT, e_slL, e_finT, e_finN, e_index, e_idxT, e_idxL, e_mIx, e_ixST, e_ixSL, e_mtL, e_w, e_w1, e_w2, e_wE, e_wZ, e_itK, e_itT, e_itL, e_itT2, e_itL2, e_lc, e_for, e_wipe0, e_wipe, e_okI, e_okR, e_gSb, List.getElem?_cons_zero, List.getElem?_cons_succ, List.set_cons_zero, List.set_cons_succ]
  refine ⟨c, rfl, hc, ?_⟩
  simp only [e_var, e_C, e_op, e_neg, e_isN, e_notN, e_and, e_or, e_not, e_test, e_tAnd, e_tOr, e_tNot, e_tYes, e_if, e_aNil, e_aCons, e_tup, e_lst, e_lstN, e_len0, e_len1, e_len2, e_len3, e_len4, e_len5, e_cb, e_on1, e_on2, e_onI, e_onB, e_onO, e_onO0, e_onOO, e_I0, e_I, e_add, e_addT, e_addS, e_addL, e_addLR, e_addRL, e_addRR, e_mul, e_mulL, e_mulT, e_rev, e_revT, e_ix, e_eqI, e_eqS, e_eqB, e_neI, e_neS, e_neB, e_ltI, e_chain, e_len, e_abs, e_2I, e_tuple1, e_tuple2, e_tuple3, e_listT, e_listN, e_allR, e_seqT, e_seqK, e_seqL, e_isi, e_isB, e_notB, e_truth, e_next, e_seq, e_drop, e_ret, e_retN, e_ifS, e_set, e_asg, e_par, e_nm, e_gsN, e_gsC, e_gTpK, e_gTpL, e_sum, e_maxL, e_minL, e_maxDef, e_int, e_intB, e_aug, e_on3, e_par3, e_newK, e_getK, e_keyI, e_keyS, e_inK, e_ninK, e_putK, e_lenK, e_lstS, e_seqX, e_gTpT, e_oN, e_oS, e_sl, e_slT, e_slL, e_finT, e_finN, e_index, e_idxT, e_idxL, e_mIx, e_ixST, e_ixSL, e_mtL, e_w, e_w1, e_w2, e_wE, e_wZ, e_itK, e_itT, e_itL, e_itT2, e_itL2, e_lc, e_for, e_wipe0, e_wipe, e_okI, e_okR, e_gSb, List.getElem?_cons_zero, List.getElem?_cons_succ, List.set_cons_zero, List.set_cons_succ, intsD_ints]
  obtain ⟨sp, up⟩ := maxI_spec (waitsI c) (waits_nn hc)
  refine ⟨fun e => ?_, fun m m1 m2 => ?_⟩
  · rcases sp with ⟨_, z⟩ | z
    · rw [z] at q; exact .inl q
    · rw [e] at z; cases z
  · rcases sp with ⟨z, _⟩ | z
    · rw [z] at m1; cases m1
    · rw [max_one m1 m2 z up]; exact .inl q
def sqSum (l : List Int) : Int := ML.sumL (l.map fun x => x * x)
def g_sq : DRs := fun ds st Q => ∃ c : List Int, ds = [rowD c] ∧ Cnt c ∧ Q (.int (sqSum (waitsI c))) st
theorem ar_sq (ds : List D) (st : DSt) (Q : DK) (h : g_sq ds st Q) : ds.length = 1 := by
  obtain ⟨_, rfl, _⟩ := h
  rfl
end DL
namespace DL
open PySem PySem.Spec PyProof.Rows L2 LamX PySem.W SL
section
variable {st : DSt} {p : Nat} {o o2 : O} {junk : List O} {x y z : O}
theorem ownA : (st ++ x :: junk)[st.length]? = some x := by simp
theorem putA : (st ++ x :: junk).set st.length y = st ++ y :: junk := by simp
end
theorem take_ev {p : Nat} {z : Int} {n : Nat} {st : DSt} {Q : DK} (pot : Pot (n + 1) p st) (z0 : 0 < z) (z1 : z ≤ 1000) (q : ∀ (r : Nat) (o : O), (r : Int) < z → PotO n o → Q (.int r) (st.set p o)) : g_take [.ref p, .int z] st Q :=
  ⟨p, z, n, rfl, pot, z0, z1, fun r o r0 r1 po => by
    obtain ⟨k, rfl⟩ := Int.eq_ofNat_of_zero_le r0
    exact q k o r1 po⟩
theorem pick_ev {p : Nat} {xs : List D} {n : Nat} {st : DSt} {Q : DK} (pot : Pot (n + 1) p st) (ne : xs ≠ []) (few : xs.length ≤ 1000) (q : ∀ (d : D) (o : O), d ∈ xs → PotO n o → Q d (st.set p o)) : g_pick [.ref p, .lst xs] st Q :=
  ⟨p, _, xs, n, rfl, fun z => (by cases z), rfl, ne, few, pot, q⟩
theorem sum_set {l : List Int} {i : Nat} (h : i < l.length) (x : Int) : ML.sumL (l.set i x) = ML.sumL l - l.getD i 0 + x := by
  induction l generalizing i with
  | nil => cases h
  | cons y r ih =>
    cases i with
    | zero => show x + ML.sumL r = y + ML.sumL r - y + x; omega
    | succ i =>
      show y + ML.sumL (r.set i x) = y + ML.sumL r - r.getD i 0 + x
      rw [ih (by simpa using h)]
      omega
theorem getD_mem {l : List Int} {i : Nat} (h : i < l.length) : l.getD i 0 ∈ l := by
  rw [List.getD_eq_getElem?_getD, List.getElem?_eq_getElem h]
  exact List.getElem_mem h
theorem sumL_rep (n : Nat) : ML.sumL (List.replicate n 0) = 0 := by
  induction n with
  | zero => rfl
  | succ n ih => rw [List.replicate_succ, ML.sumL_cons, ih]; rfl
theorem rep_flat {α : Type} (n : Nat) (a : α) : (List.replicate n [a]).flatten = List.replicate n a := by
  induction n with
  | zero => rfl
  | succ n ih => rw [List.replicate_succ, List.flatten_cons, ih, List.replicate_succ]; rfl
end DL
namespace DL
open PySem PySem.Spec PyProof.Rows L2 LamX PySem.W SL
theorem lay_at {sl : List Int} {s : Nat} {x : Int} (h : sl[s]? = some x) : atI (sl.map D.int) (s : Int) = some (.int x) := atI_nat (by rw [List.getElem?_map, h]; rfl)
theorem At.d {sl : List Int} {s k : Nat} (h : At sl s k) : atI (sl.map D.int) (s : Int) = some (.int (k : Nat)) := lay_at h
section
variable {m n : Nat} {P : List (List Int)} {R : List (List (List Int))}
end
end DL
namespace DL
open PySem PySem.Spec PyProof.Rows L2 LamX PySem.W SL
structure Hist (m n : Nat) (h : List Nat) : Prop where
  nd : h.Nodup
  lt : ∀ k ∈ h, k < m
  few : h.length ≤ n
def emp (n : Nat) : List Int := List.replicate n (-1)
section
variable {m n : Nat} {P : List (List Int)} {R : List (List (List Int))}
end
end DL
namespace DL
open PySem PySem.Spec PyProof.Rows L2 LamX PySem.W SL
theorem dist_mod {n a : Nat} (i : Nat) : ML.dist n a (i % n) = ML.dist n a i := by unfold ML.dist; rw [Nat.mod_add_mod]
theorem isTk_iff {c : List Int} {s : Nat} (h : s < c.length) : isTk c s = true ↔ ML.tk (ML.cy c) (ML.cy (ML.flowsI c)) (s + (c.length - 1)) := by
  unfold isTk ML.tk
  rw [decide_eq_true_eq, show s + (c.length - 1) + 1 = s + c.length by omega, ML.cy_per, ML.cy_lt h]
structure More (c : List Int) (a L : Nat) : Prop where
  hc : Cnt c
  ha : a < c.length
  lt : ML.sumL c < c.length
  pas : ML.Passed c.length a L (ML.cy c) (ML.cy (ML.flowsI c))
def plus (c : List Int) (a : Nat) : List Int := c.set a (c.getD a 0 + 1)
theorem plus_length (c : List Int) (a : Nat) : (plus c a).length = c.length := by unfold plus; rw [List.length_set]
theorem plus_cnt {c : List Int} {a : Nat} (h : Cnt c) (ha : a < c.length) (lt : ML.sumL c < c.length) : Cnt (plus c a) := by
  refine ⟨fun z => ?_, by rw [plus_length]; exact h.few, fun x hx => ?_, ?_⟩
  · have := plus_length c a
    rw [z] at this
    exact h.ne (List.length_eq_zero_iff.mp this.symm)
  · unfold plus at hx
    rcases List.mem_or_eq_of_mem_set hx with w | w
    · exact h.nn x w
    · have := h.nn _ (getD_mem ha)
      omega
  · rw [plus_length]
    unfold plus
    rw [sum_set ha]
    omega
theorem plus_cy {c : List Int} {a : Nat} (ha : a < c.length) (i : Nat) : ML.cy (plus c a) i = ML.addC c.length a (ML.cy c) i := by
  have n0 : 0 < c.length := by omega
  unfold ML.addC
  have lm := Nat.mod_lt i n0
  have dz : ML.dist c.length a i = 0 ↔ i % c.length = a := by rw [← dist_mod i]; exact ML.dist_zero ha lm
  unfold ML.cy
  rw [plus_length]
  unfold plus
  by_cases e : i % c.length = a
  · rw [if_pos (dz.mpr e), e, List.getD_eq_getElem?_getD, List.getElem?_set_self ha]
    rfl
  · rw [if_neg (fun z => e (dz.mp z)), List.getD_eq_getElem?_getD, List.getElem?_set_ne (fun z => e z.symm), ← List.getD_eq_getElem?_getD]
    omega
def addL (F : List Int) (a t : Nat) : List Int := (List.range F.length).map fun s => F.getD s 0 + if ML.dist F.length a s < t then 1 else 0
theorem addL_length (F : List Int) (a t : Nat) : (addL F a t).length = F.length := by unfold addL; rw [List.length_map, List.length_range]
theorem addL_at {F : List Int} {a t s : Nat} (h : s < F.length) : (addL F a t).getD s 0 = F.getD s 0 + if ML.dist F.length a s < t then 1 else 0 := by
  unfold addL
  rw [List.getD_eq_getElem?_getD, List.getElem?_map, List.getElem?_eq_getElem (by rw [List.length_range]; exact h), List.getElem_range]
  rfl
theorem getD_ext {xs ys : List Int} (l : xs.length = ys.length) (h : ∀ i, i < xs.length → xs.getD i 0 = ys.getD i 0) : xs = ys := by
  refine List.ext_getElem l fun i h1 h2 => ?_
  have e := h i h1
  rw [List.getD_eq_getElem?_getD, List.getElem?_eq_getElem h1, List.getD_eq_getElem?_getD, List.getElem?_eq_getElem h2] at e
  simpa using e
theorem More.flows {c : List Int} {a L : Nat} (m : More c a L) : ML.flowsI (plus c a) = addL (ML.flowsI c) a L := by
  have n0 : 0 < c.length := m.hc.pos
  have lf := ML.flowsI_length c
  have cn := plus_cnt m.hc m.ha m.lt
  have c0 : ∀ i, 0 ≤ ML.cy c i := fun i => m.hc.nn _ (getD_mem (Nat.mod_lt _ n0))
  have F1 := m.hc.flow.more c0 m.pas
  have F2 := cn.flow
  rw [plus_length] at F2
  have F2' : ML.Flow c.length (ML.addC c.length a (ML.cy c)) (ML.cy (ML.flowsI (plus c a))) := ⟨F2.per, F2.nn, fun i => by rw [F2.rec_, plus_cy m.ha], F2.zero⟩
  refine getD_ext (by rw [ML.flowsI_length, plus_length, addL_length, lf]) fun i hi => ?_
  rw [ML.flowsI_length, plus_length] at hi
  have e := F2'.one F1 n0 i
  rw [ML.cy_lt (by rw [ML.flowsI_length, plus_length]; exact hi)] at e
  rw [e, addL_at (by rw [lf]; exact hi), lf]
  unfold ML.addF
  rw [ML.cy_lt (by rw [lf]; exact hi)]
theorem More.tk {c : List Int} {a L : Nat} (m : More c a L) {s : Nat} (h : s < c.length) : isTk (plus c a) s = true ↔ isTk c s = true ∨ s = (a + L) % c.length := by
  have n0 : 0 < c.length := m.hc.pos
  have c0 : ∀ i, 0 ≤ ML.cy c i := fun i => m.hc.nn _ (getD_mem (Nat.mod_lt _ n0))
  have z := ML.tk_more m.hc.flow c0 m.pas (s + (c.length - 1))
  rw [isTk_iff (by rw [plus_length]; exact h), isTk_iff h, plus_length]
  have e1 : ML.tk (ML.cy (plus c a)) (ML.cy (ML.flowsI (plus c a))) (s + (c.length - 1)) ↔ ML.tk (ML.addC c.length a (ML.cy c)) (ML.addF c.length a L (ML.cy (ML.flowsI c))) (s + (c.length - 1)) := by
    unfold ML.tk
    rw [plus_cy m.ha]
    have cn := plus_cnt m.hc m.ha m.lt
    have F2 := cn.flow
    rw [plus_length] at F2
    have F2' : ML.Flow c.length (ML.addC c.length a (ML.cy c)) (ML.cy (ML.flowsI (plus c a))) := ⟨F2.per, F2.nn, fun i => by rw [F2.rec_, plus_cy m.ha], F2.zero⟩
    rw [F2'.one (m.hc.flow.more c0 m.pas) n0]
  rw [e1, z, show s + (c.length - 1) + 1 = s + c.length by omega, ML.dist_per, ML.dist_eq m.ha h m.pas.lt]
theorem More.yes {c : List Int} {a L t : Nat} (m : More c a L) (h : t < L) : isTk c ((a + t) % c.length) = true := by
  have n0 : 0 < c.length := m.hc.pos
  have lm := Nat.mod_lt (a + t) n0
  rw [isTk_iff lm]
  refine m.pas.yes _ ?_
  have ll := m.pas.lt
  rw [show (a + t) % c.length + (c.length - 1) + 1 = (a + t) % c.length + c.length by omega, ML.dist_per, (ML.dist_eq m.ha lm (by omega)).mpr rfl]
  exact h
theorem More.no {c : List Int} {a L : Nat} (m : More c a L) : isTk c ((a + L) % c.length) = false := by
  have n0 : 0 < c.length := m.hc.pos
  have lm := Nat.mod_lt (a + L) n0
  have z : ¬ isTk c ((a + L) % c.length) = true := by
    rw [isTk_iff lm]
    refine m.pas.no _ ?_
    rw [show (a + L) % c.length + (c.length - 1) + 1 = (a + L) % c.length + c.length by omega, ML.dist_per, (ML.dist_eq m.ha lm m.pas.lt).mpr rfl]
  cases h : isTk c ((a + L) % c.length) with
  | true => exact absurd h z
  | false => rfl
structure Full (c : List Int) (kvs : List (Key × D)) : Prop where
  ex : ∃ ks : List Int, kvs.map (·.1) = ks.map Sum.inl ∧ ks.Nodup ∧ ∀ x, x ∈ ks ↔ x ∈ takenI c
theorem takenI_mem {c : List Int} {x : Int} : x ∈ takenI c ↔ ∃ s : Nat, x = s ∧ s < c.length ∧ isTk c s = true := by
  unfold takenI
  rw [List.mem_map]
  constructor
  · rintro ⟨s, hs, rfl⟩
    obtain ⟨h1, h2⟩ := List.mem_filter.mp hs
    exact ⟨s, rfl, List.mem_range.mp h1, h2⟩
  · rintro ⟨s, rfl, h1, h2⟩
    exact ⟨s, List.mem_filter.mpr ⟨List.mem_range.mpr h1, h2⟩, rfl⟩
theorem takenI_at {c : List Int} {s : Nat} (h : s < c.length) : (s : Int) ∈ takenI c ↔ isTk c s = true := by
  rw [takenI_mem]
  constructor
  · rintro ⟨k, e, _, h2⟩
    have : s = k := by omega
    subst this
    exact h2
  · exact fun h2 => ⟨s, rfl, h, h2⟩
theorem valD_some {κ : Type} [DecidableEq κ] {kvs : List (κ × D)} {k : κ} : (valD kvs k).isSome = true ↔ k ∈ kvs.map (·.1) := by
  unfold valD
  rw [Option.isSome_map, List.find?_isSome]
  constructor
  · rintro ⟨p, hp, e⟩
    exact List.mem_map.mpr ⟨p, hp, of_decide_eq_true e⟩
  · intro h
    obtain ⟨p, hp, e⟩ := List.mem_map.mp h
    exact ⟨p, hp, decide_eq_true e⟩
theorem Full.at_ {c : List Int} {kvs : List (Key × D)} (f : Full c kvs) {s : Nat} (h : s < c.length) : (valD kvs (.inl (s : Int))).isSome = isTk c s := by
  obtain ⟨ks, e, nd, m⟩ := f.ex
  rw [Bool.eq_iff_iff, valD_some, e]
  rw [← takenI_at h, ← m]
  constructor
  · intro z
    obtain ⟨x, hx, e⟩ := List.mem_map.mp z
    cases e
    exact hx
  · exact fun z => List.mem_map.mpr ⟨_, z, rfl⟩
theorem putD_new {κ : Type} [DecidableEq κ] {kvs : List (κ × D)} {k : κ} {v : D} (h : (valD kvs k).isSome = false) : putD kvs k v = kvs ++ [(k, v)] := by
  unfold putD
  rw [if_neg]
  intro z
  obtain ⟨p, hp, e⟩ := List.any_eq_true.mp z
  have := valD_some.mpr (List.mem_map.mpr ⟨p, hp, of_decide_eq_true e⟩)
  rw [h] at this
  cases this
theorem Full.more {c : List Int} {a L : Nat} {kvs : List (Key × D)} {v : D} (f : Full c kvs) (m : More c a L) : Full (plus c a) (putD kvs (.inl (((a + L) % c.length : Nat) : Int)) v) := by
  have n0 : 0 < c.length := m.hc.pos
  have lm := Nat.mod_lt (a + L) n0
  have no := m.no
  rw [putD_new (by rw [f.at_ lm]; exact no)]
  obtain ⟨ks, e, nd, mm⟩ := f.ex
  have ni : (((a + L) % c.length : Nat) : Int) ∉ ks := fun z => by
    have := (takenI_at lm).mp ((mm _).mp z)
    rw [no] at this
    cases this
  refine ⟨ks ++ [(((a + L) % c.length : Nat) : Int)], by rw [List.map_append, List.map_append, e]; rfl, ?_, fun x => ?_⟩
  · rw [List.nodup_append]
    refine ⟨nd, by simp, fun y hy z hz => ?_⟩
    rw [List.mem_singleton.mp hz]
    exact fun w => ni (w ▸ hy)
  · rw [List.mem_append, List.mem_singleton, mm, takenI_mem, takenI_mem, plus_length]
    constructor
    · rintro (⟨s, rfl, h1, h2⟩ | rfl)
      · exact ⟨s, rfl, h1, (m.tk h1).mpr (.inl h2)⟩
      · exact ⟨_, rfl, lm, (m.tk lm).mpr (.inr rfl)⟩
    · rintro ⟨s, rfl, h1, h2⟩
      rcases (m.tk h1).mp h2 with z | z
      · exact .inl ⟨s, rfl, h1, z⟩
      · rw [z]; exact .inr rfl
structure Upto (c : List Int) (i j : Nat) (cc : List Int) : Prop where
  len : cc.length = c.length
  at_ : ∀ s, s < c.length → cc.getD s 0 = if s < i then c.getD s 0 else if s = i then (j : Int) else 0
theorem Upto.next {c cc : List Int} {i : Nat} (h : Upto c i (c.getD i 0).toNat cc) (nn : ∀ x ∈ c, 0 ≤ x) (hi : i < c.length) : Upto c (i + 1) 0 cc := by
  refine ⟨h.len, fun s hs => ?_⟩
  rw [h.at_ s hs]
  have z := nn _ (getD_mem hi)
  rcases Nat.lt_trichotomy s i with q | q | q
  · rw [if_pos q, if_pos (by omega)]
  · subst q
    rw [if_neg (Nat.lt_irrefl _), if_pos rfl, if_pos (by omega), Int.toNat_of_nonneg z]
  · rw [if_neg (by omega), if_neg (by omega), if_neg (by omega)]
    split <;> rfl
theorem Upto.plus {c cc : List Int} {i j : Nat} (h : Upto c i j cc) (hi : i < c.length) : Upto c i (j + 1) (plus cc i) := by
  have li : i < cc.length := by rw [h.len]; exact hi
  refine ⟨by rw [plus_length, h.len], fun s hs => ?_⟩
  unfold DL.plus
  by_cases e : s = i
  · subst e
    rw [List.getD_eq_getElem?_getD, List.getElem?_set_self li, if_neg (Nat.lt_irrefl _), if_pos rfl]
    show cc.getD s 0 + 1 = _
    rw [h.at_ s hs, if_neg (Nat.lt_irrefl _), if_pos rfl]
    omega
  · rw [List.getD_eq_getElem?_getD, List.getElem?_set_ne (fun z => e z.symm), ← List.getD_eq_getElem?_getD, h.at_ s hs, if_neg e, if_neg e]
theorem Upto.le {c cc : List Int} {i j : Nat} (h : Upto c i j cc) (nn : ∀ x ∈ c, 0 ≤ x) (hj : i < c.length → (j : Int) ≤ c.getD i 0) : ML.sumL cc ≤ ML.sumL c := by
  rw [ML.sumL_N, ML.sumL_N, h.len]
  refine ML.sumN_le fun s hs => ?_
  rw [h.at_ s hs]
  split
  · exact Int.le_refl _
  · split
    · rename_i e; subst e; exact hj hs
    · exact nn _ (getD_mem hs)
theorem Upto.lt {c cc : List Int} {i j : Nat} (h : Upto c i j cc) (nn : ∀ x ∈ c, 0 ≤ x) (hi : i < c.length) (hj : (j : Int) < c.getD i 0) : ML.sumL cc < ML.sumL c := by
  have z := (h.plus hi).le nn fun _ => by omega
  unfold DL.plus at z
  rw [sum_set (by rw [h.len]; exact hi)] at z
  omega
theorem Upto.nn {c cc : List Int} {i j : Nat} (h : Upto c i j cc) (nn : ∀ x ∈ c, 0 ≤ x) : ∀ x ∈ cc, 0 ≤ x := by
  intro x hx
  obtain ⟨s, hs⟩ := List.mem_iff_getElem?.mp hx
  have ls := (List.getElem?_eq_some_iff.mp hs).1
  rw [h.len] at ls
  have e := h.at_ s ls
  rw [List.getD_eq_getElem?_getD, hs] at e
  have e' : x = _ := e
  rw [e']
  split
  · exact nn _ (getD_mem ls)
  · split <;> omega
theorem Upto.cnt {c cc : List Int} {i j : Nat} (h : Upto c i j cc) (hc : Cnt c) (hj : i < c.length → (j : Int) ≤ c.getD i 0) : Cnt cc := by
  refine ⟨fun z => ?_, by rw [h.len]; exact hc.few, h.nn hc.nn, ?_⟩
  · have := h.len
    rw [z] at this
    exact hc.ne (List.length_eq_zero_iff.mp this.symm)
  · rw [h.len]
    exact Int.le_trans (h.le hc.nn hj) hc.room
theorem Upto.all {c cc : List Int} {j : Nat} (h : Upto c c.length j cc) : cc = c := getD_ext h.len fun s hs => by
  rw [h.len] at hs
  rw [h.at_ s hs, if_pos hs]
theorem scan_rep0 : ∀ n : Nat, ML.scan 0 (List.replicate n 0) = List.replicate n 0 ∧ ML.run 0 (List.replicate n 0) = 0
  | 0 => ⟨rfl, rfl⟩
  | n + 1 => by
    obtain ⟨a, b⟩ := scan_rep0 n
    rw [List.replicate_succ]
    have e : ML.step 0 0 = 0 := by decide
    constructor
    · show ML.step 0 0 :: ML.scan (ML.step 0 0) _ = _
      rw [e, a]
    · rw [ML.run_cons, e, b]
theorem flows_rep0 (n : Nat) : ML.flowsI (List.replicate n 0) = List.replicate n 0 := by
  unfold ML.flowsI
  rw [(scan_rep0 n).2, (scan_rep0 n).1]
end DL
namespace DL
open PySem PySem.Spec PyProof.Rows L2 LamX PySem.W SL
end DL
namespace ML
theorem Flow.bound {n : Nat} {c f : Nat → Int} (F : Flow n c f) (c0 : ∀ i, 0 ≤ c i) (cp : ∀ i, c (i + n) = c i) (n0 : 0 < n) (i : Nat) : f i ≤ sumN n c := by
  obtain ⟨z, hz⟩ := F.zero
  have up : ∀ k, f (z + k) ≤ sumN k (fun j => c (j + (z + 1))) := by
    intro k
    induction k with
    | zero => show f z ≤ 0; omega
    | succ k ih =>
      show f (z + (k + 1)) ≤ sumN k (fun j => c (j + (z + 1))) + c (k + (z + 1))
      have e := F.rec_ (z + k)
      have c1 := c0 (z + k + 1)
      have f1 := F.nn (z + k)
      rw [show z + (k + 1) = z + k + 1 by omega, e, show k + (z + 1) = z + k + 1 by omega]
      unfold step
      split <;> omega
  have mono : ∀ b a, a ≤ b → sumN a (fun j => c (j + (z + 1))) ≤ sumN b (fun j => c (j + (z + 1))) := by
    intro b
    induction b with
    | zero => intro a h; rw [Nat.le_zero.mp h]; exact Int.le_refl _
    | succ b ih =>
      intro a h
      rcases Nat.lt_or_ge a (b + 1) with q | q
      · have h1 := ih a (by omega)
        have h2 := c0 (b + (z + 1))
        show _ ≤ sumN b (fun j => c (j + (z + 1))) + c (b + (z + 1))
        omega
      · rw [show a = b + 1 by omega]; exact Int.le_refl _
  have e : i + n * (z + 1) = z + (i + n * (z + 1) - z) := by
    have : z + 1 ≤ n * (z + 1) := Nat.le_mul_of_pos_left _ n0
    omega
  -- the rest below n
  have key : ∀ k, f (z + k % n) = f (z + k) := fun k => by
    have := per_mul F.per (z + k % n) (k / n)
    rw [Nat.add_assoc, Nat.mod_add_div] at this
    exact this.symm
  rw [← per_mul F.per i (z + 1), e, ← key]
  refine Int.le_trans (up _) (Int.le_trans (mono n _ (Nat.le_of_lt (Nat.mod_lt _ n0))) ?_)
  rw [sumN_shifts cp]
  exact Int.le_refl _
end ML
namespace DL
open PySem PySem.Spec PyProof.Rows L2 LamX PySem.W SL
theorem Cnt.c0 {c : List Int} (h : Cnt c) (i : Nat) : 0 ≤ ML.cy c i := h.nn _ (getD_mem (Nat.mod_lt _ h.pos))
theorem Cnt.fl {c : List Int} (h : Cnt c) : ∀ x ∈ ML.flowsI c, 0 ≤ x ∧ x ≤ c.length := by
  intro x hx
  obtain ⟨i, hi⟩ := List.mem_iff_getElem?.mp hx
  have li := (List.getElem?_eq_some_iff.mp hi).1
  have e : ML.cy (ML.flowsI c) i = x := by rw [ML.cy_lt li, List.getD_eq_getElem?_getD, hi]; rfl
  have b := h.flow.bound h.c0 (ML.cy_per c) h.pos i
  have n := h.flow.nn i
  rw [e] at b n
  rw [← ML.sumL_cy] at b
  have := h.room
  omega
theorem Cnt.sm {c : List Int} (h : Cnt c) (l : c.length ≤ 64) : Sm 1 1411 (rowD c) :=
  sm_row (m := 64) (fun x hx => by have := h.nn x hx; have := h.le hx; omega) l
theorem Cnt.step {c : List Int} (h : Cnt c) {i : Nat} (hi : i < c.length) : (ML.flowsI c).getD i 0 = ML.step (ML.cy (ML.flowsI c) (i + (c.length - 1))) (c.getD i 0) := by
  have z := h.flow.rec_ (i + (c.length - 1))
  rw [show i + (c.length - 1) + 1 = i + c.length by omega, h.flow.per, ML.cy_per, ML.cy_lt hi, ML.cy_lt (by rw [ML.flowsI_length]; exact hi)] at z
  exact z
end DL
namespace DL
open PySem PySem.Spec PyProof.Rows L2 LamX PySem.W SL
theorem takenI_asc (c : List Int) : (takenI c).Pairwise (· < ·) := by
  unfold takenI
  refine List.Pairwise.map _ (fun a b h => ?_) (List.Pairwise.filter _ List.pairwise_lt_range)
  omega
theorem sum_addL {F : List Int} {a L : Nat} (ha : a < F.length) (hL : L ≤ F.length) : ML.sumL (addL F a L) = ML.sumL F + L := by
  rw [ML.sumL_N, addL_length, ML.sumL_N]
  have e : ML.sumN F.length (fun i => (addL F a L).getD i 0) = ML.sumN F.length (ML.addF F.length a L fun i => F.getD i 0) := ML.sumN_congr fun i h => by rw [addL_at h]; rfl
  rw [e, ML.sum_addF ha hL]
theorem More.sum {c : List Int} {a L : Nat} (m : More c a L) : ML.sumL (ML.flowsI (plus c a)) = ML.sumL (ML.flowsI c) + L := by
  have lF := ML.flowsI_length c
  rw [m.flows, sum_addL (by rw [lF]; exact m.ha) (by rw [lF]; exact Nat.le_of_lt m.pas.lt)]
end DL
namespace DL
open PySem PySem.Spec PyProof.Rows L2 LamX PySem.W SL
theorem sm_intB {i : Int} (h : i.natAbs < 10 ^ 12) : Sm 0 20 (.int i) := by
  refine ⟨.int i, rfl, ⟨?_, by simp [PyData.depth], Nat.le_trans (PyData.shown_int_le h) (by decide), by simp [PyData.canLay0]⟩⟩
  simp only [PyData.showable]
  refine decide_eq_true ?_
  by_cases z : i.natAbs = 0
  · rw [z]; decide
  · exact Nat.lt_trans ((Nat.log2_lt z).mpr (Nat.lt_trans h (by decide : 10 ^ 12 < 2 ^ 64))) (by decide)
theorem cutT (xs : List D) (k : Nat) : cutD xs none (some (k : Int)) = xs.take k := by
  unfold cutD
  have z : HT.sIx xs.length xs.length (some (k : Int)) = min k xs.length := HT.sIx_nat xs.length xs.length k
  rw [z, HT.sIx_none, List.drop_zero, Nat.sub_zero]
  by_cases h : k ≤ xs.length
  · rw [Nat.min_eq_left h]
  · rw [Nat.min_eq_right (by omega), List.take_length, List.take_of_length_le (by omega)]
end DL
namespace ML
theorem sumN_zero (n : Nat) : sumN n (fun _ => (0 : Int)) = 0 := by rw [sumN_const]; simp
theorem sumN_sub (n : Nat) (g h : Nat → Int) : sumN n (fun i => g i - h i) = sumN n g - sumN n h := by
  induction n with
  | zero => rfl
  | succ n ih => simp only [sumN]; rw [ih]; omega
theorem sumN_mul (n : Nat) (a : Int) (g : Nat → Int) : sumN n (fun i => a * g i) = a * sumN n g := by
  induction n with
  | zero => simp [sumN]
  | succ n ih => simp only [sumN]; rw [ih, Int.mul_add]
theorem sumN_swap (n m : Nat) (g : Nat → Nat → Int) : sumN n (fun i => sumN m (fun j => g i j)) = sumN m (fun j => sumN n (fun i => g i j)) := by
  induction n with
  | zero => simp only [sumN]; exact (sumN_zero m).symm
  | succ n ih => simp only [sumN]; rw [ih, ← sumN_add]
theorem sumN_split (a b : Nat) (g : Nat → Int) : sumN (a + b) g = sumN a g + sumN b (fun i => g (a + i)) := by
  induction b with
  | zero => simp [sumN]
  | succ b ih => rw [show a + (b + 1) = (a + b) + 1 by omega]; simp only [sumN]; rw [ih]; omega
theorem sumN_one {n x : Nat} (h : x < n) : sumN n (fun i => if i = x then (1 : Int) else 0) = 1 := by
  induction n with
  | zero => omega
  | succ n ih =>
    simp only [sumN]
    by_cases e : x = n
    · subst e
      rw [if_pos rfl, sumN_congr (h := fun _ => 0) (fun i hi => if_neg (by omega)), sumN_zero]
      rfl
    · rw [if_neg (fun z => e z.symm), ih (by omega)]
      rfl
theorem sumN_dist {n a : Nat} (h : a ≤ n) (n0 : 0 < n) (g : Nat → Int) : sumN n (fun u => g (dist n a u)) = sumN n g := by
  have z := sumN_shifts (n := n) (g := fun i => g (i % n)) (fun i => by simp) (n - a)
  have e : sumN n (fun i => g (i % n)) = sumN n g := sumN_congr fun i hi => by rw [Nat.mod_eq_of_lt hi]
  rw [e] at z
  exact z
def sq (i : Nat) : Int := (i : Int) * i
theorem waits_sq (x c : Nat) : sumN c (fun k => ((x : Int) + k) * ((x : Int) + k)) = sumN (x + c) sq - sumN x sq := by
  rw [sumN_split]
  have e : sumN c (fun k => ((x : Int) + k) * ((x : Int) + k)) = sumN c (fun i => sq (x + i)) := sumN_congr fun i _ => by unfold sq; rw [Int.natCast_add]
  rw [e]
  omega
theorem sq_flows {n : Nat} {c f : Nat → Int} (F : Flow n c f) (n0 : 0 < n) (c0 : ∀ i, 0 ≤ c i) (cp : ∀ i, c (i + n) = c i) :
    sumN n (fun s => sumN (c s).toNat fun k => (f (s + (n - 1)) + (k : Int)) * (f (s + (n - 1)) + (k : Int))) = sumN n fun s => f s * f s := by
  have e : ∀ s, s < n → (sumN (c s).toNat fun k => (f (s + (n - 1)) + (k : Int)) * (f (s + (n - 1)) + (k : Int))) = sumN ((f s).toNat + 1) sq - sumN (f (s + (n - 1))).toNat sq := by
    intro s hs
    have x0 := F.nn (s + (n - 1))
    have y0 := F.nn s
    have cs := c0 s
    have ex : (((f (s + (n - 1))).toNat : Nat) : Int) = f (s + (n - 1)) := by omega
    have w := waits_sq (f (s + (n - 1))).toNat (c s).toNat
    rw [ex] at w
    rw [w]
    have st := F.rec_ (s + (n - 1))
    have e1 : s + (n - 1) + 1 = s + n := by omega
    rw [e1, F.per, cp] at st
    unfold step at st
    by_cases z : f (s + (n - 1)) + c s = 0
    · have a1 : (f (s + (n - 1))).toNat = 0 := by omega
      have a2 : (c s).toNat = 0 := by omega
      have a3 : (f s).toNat = 0 := by
        split at st <;> omega
      rw [a1, a2, a3]
      rfl
    · have a1 : (f (s + (n - 1))).toNat + (c s).toNat = (f s).toNat + 1 := by
        split at st <;> omega
      rw [a1]
  rw [sumN_congr e, sumN_sub]
  have sh := sumN_shifts (n := n) (g := fun i => sumN (f i).toNat sq) (fun i => by simp only [F.per]) (n - 1)
  rw [sh, ← sumN_sub]
  refine sumN_congr fun s hs => ?_
  have y0 := F.nn s
  show (sumN (f s).toNat sq + sq (f s).toNat) - sumN (f s).toNat sq = f s * f s
  have ey : (((f s).toNat : Nat) : Int) = f s := by omega
  unfold sq
  rw [ey]
  omega
theorem tri_sum (d : Nat) : ∀ n : Nat, d ≤ n → 2 * sumN n (fun a => sumN n fun j => if a + j < d then (1 : Int) else 0) = (d : Int) * (d + 1) := by
  have inner : ∀ (n a d : Nat), d ≤ n → sumN n (fun j => if a + j < d then (1 : Int) else 0) = ((d - a : Nat) : Int) := by
    intro n
    induction n with
    | zero => intro a d h; have : d = 0 := by omega
              subst this; simp [sumN]
    | succ n ih =>
      intro a d h
      rw [sumN_first]
      have s1 : sumN n (fun i => if a + (i + 1) < d then (1 : Int) else 0) = sumN n (fun j => if a + j < d - 1 then (1 : Int) else 0) := sumN_congr fun i _ => by
        by_cases q : a + (i + 1) < d
        · rw [if_pos q, if_pos (by omega)]
        · rw [if_neg q, if_neg (by omega)]
      rw [s1, ih a (d - 1) (by omega)]
      by_cases q : a + 0 < d
      · rw [if_pos q]; omega
      · rw [if_neg q]; omega
  have outer : ∀ (n d : Nat), d ≤ n → 2 * sumN n (fun a => ((d - a : Nat) : Int)) = (d : Int) * (d + 1) := by
    intro n
    induction n with
    | zero => intro d h; have : d = 0 := by omega
              subst this; simp [sumN]
    | succ n ih =>
      intro d h
      rw [sumN_first]
      cases d with
      | zero =>
        rw [sumN_congr (h := fun _ => (0 : Int)) (fun i _ => by simp), sumN_zero]
        simp
      | succ d =>
        have z := ih d (by omega)
        rw [sumN_congr (h := fun a => ((d - a : Nat) : Int)) (fun i _ => by rw [Nat.add_sub_add_right])]
        rw [Int.mul_add, z]
        have e : ((d + 1 - 0 : Nat) : Int) = (d : Int) + 1 := by omega
        rw [e]
        have e2 : ((d + 1 : Nat) : Int) = (d : Int) + 1 := by omega
        rw [e2]
        generalize (d : Int) = x
        rw [Int.add_mul x 1 (x + 1 + 1), Int.mul_add x (x + 1) 1]
        omega
  intro n h
  rw [sumN_congr (h := fun a => ((d - a : Nat) : Int)) fun a _ => inner n a d h]
  exact outer n d h
structure Pl (n : Nat) (o : Nat → Prop) (h d : Nat → Nat) : Prop where
  home : ∀ s, s < n → o s → h s < n
  far : ∀ s, s < n → o s → d s < n ∧ (h s + d s) % n = s
variable {n : Nat} {o : Nat → Prop} [DecidablePred o] {h d : Nat → Nat}
def ev (n : Nat) (o : Nat → Prop) [DecidablePred o] (h d : Nat → Nat) (u j s : Nat) : Int := if o s ∧ dist n (h s) u + j < d s then 1 else 0
def psd (n : Nat) (o : Nat → Prop) [DecidablePred o] (h d : Nat → Nat) (u : Nat) : Int := sumN n (ev n o h d u 0)
theorem ev_less (P : Pl n o h d) {u : Nat} (hu : u < n) (j : Nat) : sumN n (ev n o h d u j) - 1 ≤ sumN n (ev n o h d u (j + 1)) := by
  have n0 : 0 < n := by omega
  have one := sumN_one (n := n) (x := (u + (j + 1)) % n) (Nat.mod_lt _ n0)
  have le : sumN n (ev n o h d u j) ≤ sumN n (fun s => ev n o h d u (j + 1) s + if s = (u + (j + 1)) % n then (1 : Int) else 0) := sumN_le fun s hs => by
    unfold ev
    by_cases a : o s ∧ dist n (h s) u + j < d s
    · rw [if_pos a]
      by_cases b : dist n (h s) u + (j + 1) < d s
      · rw [if_pos ⟨a.1, b⟩]
        split <;> omega
      · have f := P.far s hs a.1
        have hh := P.home s hs a.1
        have e : d s = dist n (h s) u + (j + 1) := by omega
        have es : s = (u + (j + 1)) % n := by
          rw [e] at f
          rw [← f.2]
          unfold dist
          have k : (h s + (u + (n - h s)) % n) % n = u % n := by rw [Nat.add_mod_mod, show h s + (u + (n - h s)) = u + n by omega, Nat.add_mod_right]
          rw [← Nat.add_assoc, Nat.add_mod, k, ← Nat.add_mod]
        rw [if_pos es]
        split <;> omega
    · rw [if_neg a]
      split <;> split <;> omega
  rw [sumN_add, one] at le
  omega
theorem ev_ge (P : Pl n o h d) {u : Nat} (hu : u < n) : ∀ j : Nat, psd n o h d u - (j : Int) ≤ sumN n (ev n o h d u j)
  | 0 => by unfold psd; omega
  | j + 1 => by
    have a := ev_ge P hu j
    have b := ev_less P hu j
    omega
theorem ev_nn (u j : Nat) : 0 ≤ sumN n (ev n o h d u j) := by
  have z := sumN_le (n := n) (g := fun _ => (0 : Int)) (h := ev n o h d u j) fun s _ => by unfold ev; split <;> omega
  rw [sumN_zero] at z
  exact z
theorem psd_nn (u : Nat) : 0 ≤ psd n o h d u := ev_nn u 0
theorem sumN_pos : ∀ {n : Nat} {g : Nat → Int}, 0 < sumN n g → ∃ i, i < n ∧ 0 < g i
  | 0, g, p => by simp [sumN] at p
  | n + 1, g, p => by
    simp only [sumN] at p
    by_cases q : 0 < sumN n g
    · obtain ⟨i, hi, w⟩ := sumN_pos q
      exact ⟨i, by omega, w⟩
    · exact ⟨n, by omega, by omega⟩
theorem psd_far (P : Pl n o h d) {u : Nat} (hu : u < n) (p : 0 < psd n o h d u) : ∃ s, s < n ∧ o s ∧ psd n o h d u ≤ (d s : Int) := by
  have z := ev_ge P hu (psd n o h d u - 1).toNat
  obtain ⟨s, hs, w⟩ := sumN_pos (n := n) (g := ev n o h d u (psd n o h d u - 1).toNat) (by omega)
  unfold ev at w
  split at w
  · rename_i q
    exact ⟨s, hs, q.1, by omega⟩
  · omega
theorem psd_sum (P : Pl n o h d) (n0 : 0 < n) : sumN n (psd n o h d) = sumN n fun s => if o s then (d s : Int) else 0 := by
  unfold psd
  rw [sumN_swap]
  refine sumN_congr fun s hs => ?_
  unfold ev
  by_cases a : o s
  · rw [if_pos a]
    have f := P.far s hs a
    have hh := P.home s hs a
    have e : sumN n (fun u => if o s ∧ dist n (h s) u + 0 < d s then (1 : Int) else 0) = sumN n (fun u => (fun x => if x < d s then (1 : Int) else 0) (dist n (h s) u)) := sumN_congr fun u _ => by
      by_cases q : dist n (h s) u < d s
      · simp only [a, q, true_and, Nat.add_zero]
      · simp only [a, q, true_and, Nat.add_zero]
    rw [e, sumN_dist (by omega) n0 fun x => if x < d s then (1 : Int) else 0]
    have cnt : ∀ n d : Nat, d ≤ n → sumN n (fun x => if x < d then (1 : Int) else 0) = d := by
      intro n
      induction n with
      | zero => intro d hd; have : d = 0 := by omega
                subst this; rfl
      | succ n ih =>
        intro d hd
        simp only [sumN]
        by_cases q : n < d
        · have : d = n + 1 := by omega
          subst this
          rw [if_pos q, sumN_congr (h := fun x => if x < n then (1 : Int) else 0) (fun i hi => by rw [if_pos hi, if_pos (by omega)]), ih n (Nat.le_refl n)]
          omega
        · rw [if_neg q, ih d (by omega)]
          omega
    exact cnt n (d s) (by omega)
  · rw [if_neg a, sumN_congr (h := fun _ => (0 : Int)) (fun u _ => if_neg fun z => a z.1), sumN_zero]
theorem psd_sq (P : Pl n o h d) (n0 : 0 < n) (le : ∀ u, u < n → psd n o h d u ≤ n) : sumN n (fun u => psd n o h d u * psd n o h d u) ≤ sumN n fun s => if o s then (d s : Int) * d s else 0 := by
  have A : ∀ u, u < n → psd n o h d u * psd n o h d u + psd n o h d u ≤ 2 * sumN n (fun j => sumN n (ev n o h d u j)) := fun u hu => by
    have p0 := psd_nn (n := n) (o := o) (h := h) (d := d) u
    obtain ⟨x, hx⟩ : ∃ x : Nat, psd n o h d u = (x : Int) := ⟨(psd n o h d u).toNat, by omega⟩
    have t := tri_sum x n (by have := le u hu; omega)
    have b : sumN n (fun a => sumN n fun j => if a + j < x then (1 : Int) else 0) ≤ sumN n (fun j => sumN n (ev n o h d u j)) := sumN_le fun a ha => by
      have g := ev_ge P hu a
      have g0 := ev_nn (n := n) (o := o) (h := h) (d := d) u a
      have inn : ∀ (m : Nat), sumN m (fun j => if a + j < x then (1 : Int) else 0) ≤ ((x - a : Nat) : Int) := by
        intro m
        have : ∀ m y : Nat, sumN m (fun j => if j < y then (1 : Int) else 0) ≤ (y : Int) := by
          intro m
          induction m with
          | zero => intro y; simp [sumN]
          | succ m ih =>
            intro y
            rw [sumN_first]
            cases y with
            | zero => rw [sumN_congr (h := fun _ => (0 : Int)) (fun i _ => if_neg (by omega)), sumN_zero]; simp
            | succ y =>
              have z := ih y
              rw [sumN_congr (h := fun j => if j < y then (1 : Int) else 0) (fun i _ => by by_cases q : i < y; rw [if_pos q, if_pos (by omega)]; rw [if_neg q, if_neg (by omega)])]
              rw [if_pos (by omega)]
              omega
        have z := this m (x - a)
        rw [sumN_congr (h := fun j => if j < x - a then (1 : Int) else 0) (fun i _ => by by_cases q : a + i < x; rw [if_pos q, if_pos (by omega)]; rw [if_neg q, if_neg (by omega)])]
        exact z
      have i2 := inn n
      rw [hx] at g
      omega
    rw [hx]
    have : (x : Int) * x + x = (x : Int) * (x + 1) := by rw [Int.mul_add]; omega
    rw [this]
    omega
  have B : 2 * sumN n (fun u => sumN n (fun j => sumN n (ev n o h d u j))) = sumN n (fun s => if o s then (d s : Int) * (d s + 1) else 0) := by
    have e1 : sumN n (fun u => sumN n (fun j => sumN n (ev n o h d u j))) = sumN n (fun s => sumN n (fun u => sumN n (fun j => ev n o h d u j s))) := by
      rw [sumN_congr (h := fun u => sumN n (fun s => sumN n (fun j => ev n o h d u j s))) fun u _ => sumN_swap n n _]
      exact sumN_swap n n _
    rw [e1, ← sumN_mul]
    refine sumN_congr fun s hs => ?_
    unfold ev
    by_cases a : o s
    · rw [if_pos a]
      have f := P.far s hs a
      have hh := P.home s hs a
      have e : sumN n (fun u => sumN n fun j => if o s ∧ dist n (h s) u + j < d s then (1 : Int) else 0) = sumN n (fun u => (fun x => sumN n fun j => if x + j < d s then (1 : Int) else 0) (dist n (h s) u)) := sumN_congr fun u _ => sumN_congr fun j _ => by
        simp only [a, true_and]
      rw [e, sumN_dist (by omega) n0 fun x => sumN n fun j => if x + j < d s then (1 : Int) else 0]
      exact tri_sum (d s) n (by omega)
    · rw [if_neg a, sumN_congr (h := fun _ => (0 : Int)) (fun u _ => by rw [sumN_congr (h := fun _ => (0 : Int)) (fun j _ => if_neg fun z => a z.1), sumN_zero]), sumN_zero]
      rfl
  have C := psd_sum P n0
  have D : sumN n (fun u => psd n o h d u * psd n o h d u + psd n o h d u) ≤ sumN n (fun u => 2 * sumN n (fun j => sumN n (ev n o h d u j))) := sumN_le A
  rw [sumN_mul, B, sumN_add] at D
  have E : sumN n (fun s => if o s then (d s : Int) * (d s + 1) else 0) = sumN n (fun s => if o s then (d s : Int) * d s else 0) + sumN n fun s => if o s then (d s : Int) else 0 := by
    rw [← sumN_add]
    refine sumN_congr fun s _ => ?_
    by_cases a : o s
    · simp only [a, if_true]; rw [Int.mul_add]; omega
    · simp only [a, if_false]; rfl
  rw [E] at D
  have F : sumN n (psd n o h d) = sumN n (fun u => psd n o h d u) := rfl
  omega
end ML
namespace DL
open PySem PySem.Spec PyProof.Rows L2 LamX PySem.W SL
def hm (hs : List Nat) (k : Nat) : Nat := hs.getD k 0
def lineP (n : Nat) (hs : List Nat) : List (List Int) := hs.map fun h : Nat => lineI n (h : Int)
structure Lin (m n : Nat) (hs : List Nat) (P : List (List Int)) (R : List (List (List Int))) : Prop where
  s : Setg m n P R
  len : hs.length = m
  lt : ∀ h ∈ hs, h < n
  p : P = lineP n hs
  n0 : 0 < n
section
variable {m n : Nat} {hs : List Nat} {P : List (List Int)} {R : List (List (List Int))}
theorem Lin.hm_lt (S : Lin m n hs P R) {k : Nat} (hk : k < m) : hm hs k < n := S.lt _ (getD_memL (by rw [S.len]; exact hk))
theorem Lin.pr (S : Lin m n hs P R) {a i : Nat} (ha : a < m) (hi : i < n) : DL.pr P a i = (hm hs a + i) % n := by
  have e : P.getD a [] = lineI n ((hm hs a : Nat) : Int) := by
    rw [S.p]
    unfold lineP hm
    rw [List.getD_eq_getElem?_getD, List.getD_eq_getElem?_getD, List.getElem?_map, List.getElem?_eq_getElem (by rw [S.len]; exact ha)]
    rfl
  unfold DL.pr
  rw [e]
  unfold lineI
  rw [List.getD_eq_getElem?_getD, List.getElem?_map, List.getElem?_range hi]
  show ((((hm hs a : Nat) : Int) + ((i : Nat) : Int)) % (n : Int)).toNat = _
  rw [← Int.natCast_add, ← Int.natCast_emod]
  rfl
theorem Lin.rk (S : Lin m n hs P R) {a s : Nat} (ha : a < m) (hs' : s < n) : DL.rk P a s = ML.dist n (hm hs a) s := by
  have h1 := S.hm_lt ha
  have l := ML.dist_lt (n := n) (a := hm hs a) (i := s) S.n0
  have e := S.pr ha l
  have z := (ML.dist_eq (n := n) h1 hs' l).mp rfl
  rw [← z] at e
  have w := S.s.rk_pr ha l
  rw [e] at w
  exact w
def one (b : Bool) : Int := if b then 1 else 0
theorem At.getD {sl : List Int} {s k : Nat} (h : At sl s k) : sl.getD s (-1) = (k : Int) := by
  unfold At at h
  rw [List.getD_eq_getElem?_getD, h]
  rfl
theorem sumN_upd {x : Nat} {g g' : Nat → Int} : ∀ {n : Nat}, x < n → (∀ s, s < n → s ≠ x → g' s = g s) → ML.sumN n g' = ML.sumN n g - g x + g' x
  | 0, h, _ => absurd h (Nat.not_lt_zero _)
  | n + 1, h, e => by
    show ML.sumN n g' + g' n = ML.sumN n g + g n - g x + g' x
    by_cases q : x = n
    · subst q
      rw [ML.sumN_congr (h := g) fun i hi => e i (by omega) (by omega)]
      omega
    · rw [sumN_upd (n := n) (by omega) fun s hs => e s (by omega), e n (by omega) (fun z => q z.symm)]
      omega
structure FE (n : Nat) (sl : List Int) (x t : Nat) : Prop where
  lt : t < n
  tk : ∀ j, j < t → ∃ k, At sl ((x + j) % n) k
  free : sl[(x + t) % n]? = some (-1)
theorem FE.next {sl : List Int} {x t a : Nat} (F : FE n sl x (t + 1)) (hx : x < n) (l : sl.length = n) : FE n (sl.set x (a : Int)) ((x + 1) % n) t ∧ FE n sl ((x + 1) % n) t := by
  have lt := F.lt
  have e : ∀ j, ((x + 1) % n + j) % n = (x + (j + 1)) % n := fun j => by rw [Nat.mod_add_mod, show x + 1 + j = x + (j + 1) by omega]
  refine ⟨⟨by omega, fun j hj => ?_, ?_⟩, ⟨by omega, fun j hj => ?_, ?_⟩⟩
  · rw [e]
    obtain ⟨k, hk⟩ := F.tk (j + 1) (by omega)
    exact taken_set (by omega) hk
  · rw [e, List.getElem?_set_ne]
    · exact F.free
    · intro z
      by_cases q : x + (t + 1) < n
      · rw [Nat.mod_eq_of_lt q] at z
        omega
      · rw [show x + (t + 1) = (x + (t + 1) - n) + n by omega, Nat.add_mod_right, Nat.mod_eq_of_lt (by omega)] at z
        omega
  · rw [e]
    exact F.tk (j + 1) (by omega)
  · rw [e]
    exact F.free
end
end DL
namespace DL
open PySem PySem.Spec PyProof.Rows L2 LamX PySem.W SL
end DL
namespace DL
open PySem PySem.Spec PyProof.Rows L2 LamX PySem.W SL
end DL
namespace DL
open PySem PySem.Spec PyProof.Rows L2 LamX PySem.W SL
end DL
namespace DL
open PySem PySem.Spec PyProof.Rows L2 LamX PySem.W SL
end DL
namespace DL
open PySem PySem.Spec PyProof.Rows L2 LamX PySem.W SL
theorem sumL_range (m : Nat) (g : Nat → Int) : ML.sumL ((List.range m).map g) = ML.sumN m g := by
  induction m with
  | zero => rfl
  | succ m ih =>
    rw [List.range_succ, List.map_append, ML.sumL_append, ih]
    show _ + (g m + 0) = _ + g m
    omega
theorem sumL_flat {α : Type} (l : List α) (f : α → List Int) : ML.sumL (l.flatMap f) = ML.sumL (l.map fun x => ML.sumL (f x)) := by
  induction l with
  | nil => rfl
  | cons x r ih =>
    rw [List.flatMap_cons, ML.sumL_append, ih]
    rfl
theorem sumN_more {m m' : Nat} {g h : Nat → Int} (le : m ≤ m') (gh : ∀ i, i < m → g i ≤ h i) (h0 : ∀ i, 0 ≤ h i) : ML.sumN m g ≤ ML.sumN m' h := by
  induction m' with
  | zero => rw [Nat.le_zero.mp le]; exact Int.le_refl _
  | succ k ih =>
    show ML.sumN m g ≤ ML.sumN k h + h k
    rcases Nat.lt_or_ge m (k + 1) with q | q
    · have := ih (by omega)
      have := h0 k
      omega
    · have e : m = k + 1 := by omega
      subst e
      show ML.sumN k g + g k ≤ _
      have := ML.sumN_le (n := k) fun i hi => gh i (by omega)
      have := gh k (by omega)
      omega
theorem sqSum_waits (c : List Int) : sqSum (waitsI c) = ML.sumN c.length fun s => ML.sumN (c.getD s 0).toNat fun k => (ML.cy (ML.flowsI c) (s + (c.length - 1)) + (k : Int)) * (ML.cy (ML.flowsI c) (s + (c.length - 1)) + (k : Int)) := by
  unfold sqSum waitsI
  rw [List.map_flatMap, sumL_flat, sumL_range]
  refine ML.sumN_congr fun s _ => ?_
  rw [List.map_map, ← sumL_range]
  rfl
theorem sq_mono {a b : Int} (h0 : 0 ≤ a) (h : a ≤ b) : a * a ≤ b * b := Int.mul_le_mul h h h0 (Int.le_trans h0 h)
theorem More.flow_le {c : List Int} {a L : Nat} (m : More c a L) (i : Nat) : ML.cy (ML.flowsI c) i ≤ ML.cy (ML.flowsI (plus c a)) i := by
  have lF := ML.flowsI_length c
  have n0 := m.hc.pos
  unfold ML.cy
  rw [m.flows, addL_length, lF]
  have lm := Nat.mod_lt i n0
  rw [addL_at (by rw [lF]; exact lm)]
  split <;> omega
theorem plus_ge {c : List Int} {a : Nat} (ha : a < c.length) {s : Nat} (hs : s < c.length) : c.getD s 0 ≤ (plus c a).getD s 0 := by
  unfold plus
  by_cases e : s = a
  · subst e
    rw [List.getD_eq_getElem?_getD (l := c.set s _), List.getElem?_set_self hs]
    show _ ≤ c.getD s 0 + 1
    omega
  · rw [List.getD_eq_getElem?_getD (l := c.set a _), List.getElem?_set_ne (fun z => e z.symm), ← List.getD_eq_getElem?_getD]
    exact Int.le_refl _
theorem More.sq {c : List Int} {a L : Nat} (m : More c a L) : sqSum (waitsI c) ≤ sqSum (waitsI (plus c a)) := by
  rw [sqSum_waits, sqSum_waits, plus_length]
  refine ML.sumN_le fun s hs => ?_
  have pg := plus_ge m.ha hs
  refine sumN_more (by omega) (fun k _ => sq_mono ?_ ?_) fun k => ?_
  · have := m.hc.flow.nn (s + (c.length - 1)); omega
  · have := m.flow_le (s + (c.length - 1)); omega
  · have f0 := (plus_cnt m.hc m.ha m.lt).flow.nn (s + (c.length - 1))
    exact Int.mul_nonneg (by omega) (by omega)
theorem waits_lt {c : List Int} (hc : Cnt c) : ∀ x ∈ waitsI c, 0 ≤ x ∧ x ≤ 2 * c.length := by
  intro x hx
  have n0 := hc.pos
  unfold waitsI at hx
  obtain ⟨s, hs, hx⟩ := List.mem_flatMap.mp hx
  obtain ⟨k, hk, rfl⟩ := List.mem_map.mp hx
  have ls := List.mem_range.mp hs
  have lk := List.mem_range.mp hk
  have z := hc.le (getD_mem ls)
  have f := hc.fl _ (getD_mem (l := ML.flowsI c) (i := (s + (c.length - 1)) % (ML.flowsI c).length) (by rw [ML.flowsI_length]; exact Nat.mod_lt _ n0))
  unfold ML.cy
  omega
theorem sem_sq (ds : List D) (st : DSt) (Q : DK) (h : g_sq ds st Q) : F_square_sum g_waits { nx := fun _ st' => Rt st Q .non st', rt := Rt st Q } (startD 2 ds) st := by
  obtain ⟨c, rfl, hc, q⟩ := h
  have st2 : startD 2 [rowD c] = [some (.tup (c.map D.int)), none] := rfl
  have big : (1000 : Nat) ≤ sizeLine := by decide
  have wl := waits_len hc
  have few := hc.few
  simp only [F_square_sum, st2, e_var, e_C, e_op, e_neg, e_isN, e_notN, e_and, e_or, e_not, e_test, e_tAnd, e_tOr, e_tNot, e_tYes, e_if, e_aNil, e_aCons, e_tup, e_lst, e_lstN, e_len0, e_len1, e_len2, e_len3, e_len4, e_len5, e_cb, e_on1, e_on2, e_onI, e_onB, e_onO, e_onO0, e_onOO, e_I0, e_I, e_add, e_addT, e_addS, e_addL, e_addLR, e_addRL, e_addRR, e_mul, e_mulL, e_mulT, e_rev, e_revT, e_ix, e_eqI, e_eqS, e_eqB, e_neI, e_neS, e_neB, e_ltI, e_chain, e_len, e_abs, e_2I, e_tuple1, e_tuple2, e_tuple3, e_listT, e_listN, e_allR, e_seqT, e_seqK, e_seqL, e_isi, e_isB, e_notB, e_truth, e_next, e_seq, e_drop, e_ret, e_retN, e_ifS, e_set, e_asg, e_par, e_nm, e_gsN, e_gsC, e_gTpK, e_gTpL, e_sum, e_maxL, e_minL, e_maxDef, e_int, e_intB, e_aug, e_on3, e_par3, e_newK, e_getK, e_keyI, e_keyS, e_inK, e_ninK, e_putK, e_lenK, e_lstS, e_seqX, e_gTpT, e_oN, e_oS, e_sl, e_slT, e_slL, e_finT, e_finN, e_index, e_idxT, e_idxL, e_mIx, e_ixST, e_ixSL, e_mtL, e_w, e_w1, e_w2, e_wE, e_wZ, e_itK, e_itT, e_itL, e_itT2, e_itL2, e_lc, e_for, e_wipe0, e_wipe, e_okI, e_okR, e_gSb, List.getElem?_cons_zero, List.getElem?_cons_succ, List.set_cons_zero, List.set_cons_succ]
  refine ⟨c, rfl, hc, ?_⟩
  try simp only [e_var, e_C, e_op, e_neg, e_isN, e_notN, e_and, e_or, e_not, e_test, e_tAnd, e_tOr, e_tNot, e_tYes, e_if, e_aNil, e_aCons, e_tup, e_lst, e_lstN, e_len0, e_len1, e_len2, e_len3, e_len4, e_len5, e_cb, e_on1, e_on2, e_onI, e_onB, e_onO, e_onO0, e_onOO, e_I0, e_I, e_add, e_addT, e_addS, e_addL, e_addLR, e_addRL, e_addRR, e_mul, e_mulL, e_mulT, e_rev, e_revT, e_ix, e_eqI, e_eqS, e_eqB, e_neI, e_neS, e_neB, e_ltI, e_chain, e_len, e_abs, e_2I, e_tuple1, e_tuple2, e_tuple3, e_listT, e_listN, e_allR, e_seqT, e_seqK, e_seqL, e_isi, e_isB, e_notB, e_truth, e_next, e_drop, e_ret, e_retN, e_ifS, e_set, e_asg, e_par, e_nm, e_gsN, e_gsC, e_gTpK, e_gTpL, e_sum, e_maxL, e_minL, e_maxDef, e_int, e_intB, e_aug, e_on3, e_par3, e_newK, e_getK, e_keyI, e_keyS, e_inK, e_ninK, e_putK, e_lenK, e_lstS, e_seqX, e_gTpT, e_oN, e_oS, e_sl, e_slT, e_slL, e_finT, e_finN, e_index, e_idxT, e_idxL, e_mIx, e_ixST, e_ixSL, e_mtL, e_w, e_w1, e_w2, e_wE, e_wZ, e_itK, e_itT, e_itL, e_itT2, e_itL2, e_lc, e_for, e_wipe0, e_wipe, e_okI, e_okR, e_gSb, List.getElem?_cons_zero, List.getElem?_cons_succ, List.set_cons_zero, List.set_cons_succ, List.length_map]
  refine ⟨by omega, ?_⟩
  refine compL_gen D.int (fun x => .int (x * x)) (waitsI c) [] (fun x hx Q' k => k _ fun Q2 q2 => ?_) ?_
  · have := waits_lt hc x hx
    try simp only [e_var, e_C, e_op, e_neg, e_isN, e_notN, e_and, e_or, e_not, e_test, e_tAnd, e_tOr, e_tNot, e_tYes, e_if, e_aNil, e_aCons, e_tup, e_lst, e_lstN, e_len0, e_len1, e_len2, e_len3, e_len4, e_len5, e_cb, e_on1, e_on2, e_onI, e_onB, e_onO, e_onO0, e_onOO, e_I0, e_I, e_add, e_addT, e_addS, e_addL, e_addLR, e_addRL, e_addRR, e_mul, e_mulL, e_mulT, e_rev, e_revT, e_ix, e_eqI, e_eqS, e_eqB, e_neI, e_neS, e_neB, e_ltI, e_chain, e_len, e_abs, e_2I, e_tuple1, e_tuple2, e_tuple3, e_listT, e_listN, e_allR, e_seqT, e_seqK, e_seqL, e_isi, e_isB, e_notB, e_truth, e_next, e_drop, e_ret, e_retN, e_ifS, e_set, e_asg, e_par, e_nm, e_gsN, e_gsC, e_gTpK, e_gTpL, e_sum, e_maxL, e_minL, e_maxDef, e_int, e_intB, e_aug, e_on3, e_par3, e_newK, e_getK, e_keyI, e_keyS, e_inK, e_ninK, e_putK, e_lenK, e_lstS, e_seqX, e_gTpT, e_oN, e_oS, e_sl, e_slT, e_slL, e_finT, e_finN, e_index, e_idxT, e_idxL, e_mIx, e_ixST, e_ixSL, e_mtL, e_w, e_w1, e_w2, e_wE, e_wZ, e_itK, e_itT, e_itL, e_itT2, e_itL2, e_lc, e_for, e_wipe0, e_wipe, e_okI, e_okR, e_gSb, List.getElem?_cons_zero, List.getElem?_cons_succ, List.set_cons_zero, List.set_cons_succ]
    exact ⟨.inl ⟨by omega, by omega⟩, q2⟩
  rw [List.nil_append]
  try simp only [e_var, e_C, e_op, e_neg, e_isN, e_notN, e_and, e_or, e_not, e_test, e_tAnd, e_tOr, e_tNot, e_tYes, e_if, e_aNil, e_aCons, e_tup, e_lst, e_lstN, e_len0, e_len1, e_len2, e_len3, e_len4, e_len5, e_cb, e_on1, e_on2, e_onI, e_onB, e_onO, e_onO0, e_onOO, e_I0, e_I, e_add, e_addT, e_addS, e_addL, e_addLR, e_addRL, e_addRR, e_mul, e_mulL, e_mulT, e_rev, e_revT, e_ix, e_eqI, e_eqS, e_eqB, e_neI, e_neS, e_neB, e_ltI, e_chain, e_len, e_abs, e_2I, e_tuple1, e_tuple2, e_tuple3, e_listT, e_listN, e_allR, e_seqT, e_seqK, e_seqL, e_isi, e_isB, e_notB, e_truth, e_next, e_drop, e_ret, e_retN, e_ifS, e_set, e_asg, e_par, e_nm, e_gsN, e_gsC, e_gTpK, e_gTpL, e_sum, e_maxL, e_minL, e_maxDef, e_int, e_intB, e_aug, e_on3, e_par3, e_newK, e_getK, e_keyI, e_keyS, e_inK, e_ninK, e_putK, e_lenK, e_lstS, e_seqX, e_gTpT, e_oN, e_oS, e_sl, e_slT, e_slL, e_finT, e_finN, e_index, e_idxT, e_idxL, e_mIx, e_ixST, e_ixSL, e_mtL, e_w, e_w1, e_w2, e_wE, e_wZ, e_itK, e_itT, e_itL, e_itT2, e_itL2, e_lc, e_for, e_wipe0, e_wipe, e_okI, e_okR, e_gSb, List.getElem?_cons_zero, List.getElem?_cons_succ, List.set_cons_zero, List.set_cons_succ, intsD_map, ML.sum_sumL]
  exact .inl q
theorem sort_app {xs : List Int} {x : Int} (h1 : xs.Pairwise (· < ·)) (h2 : ∀ y ∈ xs, y ≠ x) {ys : List Int} (h3 : ys.Pairwise (· < ·)) (h4 : ∀ y, y ∈ ys ↔ y ∈ xs ∨ y = x) : sortI (xs ++ [x]) = ys := by
  refine asc_one (sort_asc ?_) h3 fun y => ?_
  · rw [List.nodup_append]
    refine ⟨asc_nodup h1, by simp, fun a ha b hb => ?_⟩
    rw [List.mem_singleton.mp hb]
    exact h2 a ha
  · rw [(sortI_perm _).mem_iff, List.mem_append, List.mem_singleton, h4]
theorem More.taken {c : List Int} {a L : Nat} (m : More c a L) : sortI (takenI c ++ [(((a + L) % c.length : Nat) : Int)]) = takenI (plus c a) := by
  have lm := Nat.mod_lt (a + L) m.hc.pos
  refine sort_app (takenI_asc c) (fun y hy z => ?_) (takenI_asc _) fun y => ?_
  · rw [z] at hy
    have := (takenI_at lm).mp hy
    rw [m.no] at this
    cases this
  · rw [takenI_mem, takenI_mem, plus_length]
    constructor
    · rintro ⟨s, rfl, h1, h2⟩
      rcases (m.tk h1).mp h2 with z | z
      · exact .inl ⟨s, rfl, h1, z⟩
      · rw [z]; exact .inr rfl
    · rintro (⟨s, rfl, h1, h2⟩ | rfl)
      · exact ⟨s, rfl, h1, (m.tk h1).mpr (.inl h2)⟩
      · exact ⟨_, rfl, lm, (m.tk lm).mpr (.inr rfl)⟩
end DL
namespace DL
open PySem PySem.Spec PyProof.Rows L2 LamX PySem.W SL
def Dn (a b x y : Nat) : Prop := x < y ∧ (x < a ∨ (x = a ∧ y < b))
structure Half (m a b : Nat) (rs : List (List Int)) : Prop where
  len : rs.length = m
  nd : ∀ x, x < m → (rs.getD x []).Nodup
  inr : ∀ x, x < m → ∀ z ∈ rs.getD x [], ∃ y : Nat, y < m ∧ z = (y : Int) ∧ (Dn a b x y ∨ Dn a b y x)
  one : ∀ x y, x < m → y < m → Dn a b x y → ((y : Int) ∈ rs.getD x [] ↔ ¬ (x : Int) ∈ rs.getD y [])
theorem Half.congr {m a b c d : Nat} {rs : List (List Int)} (h : Half m a b rs) (e : ∀ x y, x < m → y < m → (Dn a b x y ↔ Dn c d x y)) : Half m c d rs :=
  ⟨h.len, h.nd, fun x hx z hz => by
    obtain ⟨y, hy, ez, q⟩ := h.inr x hx z hz
    exact ⟨y, hy, ez, q.imp (e x y hx hy).mp (e y x hy hx).mp⟩, fun x y hx hy q => h.one x y hx hy ((e x y hx hy).mpr q)⟩
theorem Half.start (m : Nat) : Half m 0 0 (List.replicate m []) := by
  have z : ∀ x, (List.replicate m ([] : List Int)).getD x [] = [] := fun x => by
    rw [List.getD_eq_getElem?_getD, List.getElem?_replicate]
    split <;> rfl
  refine ⟨by simp, fun x hx => by rw [z]; exact List.nodup_nil, fun x hx y hy => ?_, fun x y hx hy q => ?_⟩
  · rw [z] at hy
    cases hy
  · unfold Dn at q
    omega
theorem mem_setD {rs : List (List Int)} {u x : Nat} {v z : Int} (h : u < rs.length) : z ∈ (rs.set u (rs.getD u [] ++ [v])).getD x [] ↔ z ∈ rs.getD x [] ∨ (x = u ∧ z = v) := by
  by_cases e : x = u
  · subst e
    rw [List.getD_eq_getElem?_getD (l := rs.set _ _), List.getElem?_set_self h]
    show z ∈ rs.getD x [] ++ [v] ↔ _
    rw [List.mem_append, List.mem_singleton]
    simp
  · rw [List.getD_eq_getElem?_getD (l := rs.set _ _), List.getElem?_set_ne (fun w => e w.symm), ← List.getD_eq_getElem?_getD]
    simp [e]
theorem Half.step {m a b u v : Nat} {rs : List (List Int)} (h : Half m a b rs) (ab : a < b) (hb : b < m) (uv : (u = a ∧ v = b) ∨ (u = b ∧ v = a)) : Half m a (b + 1) (rs.set u (rs.getD u [] ++ [(v : Int)])) := by
  have hu : u < rs.length := by rw [h.len]; omega
  have nv : ¬ (v : Int) ∈ rs.getD u [] := fun z => by
    obtain ⟨y, hy, ez, q⟩ := h.inr u (by omega) _ z
    unfold Dn at q
    omega
  have nu : ¬ (u : Int) ∈ rs.getD v [] := fun z => by
    obtain ⟨y, hy, ez, q⟩ := h.inr v (by omega) _ z
    unfold Dn at q
    omega
  refine ⟨by rw [List.length_set]; exact h.len, fun x hx => ?_, fun x hx z hz => ?_, fun x y hx hy q => ?_⟩
  · by_cases e : x = u
    · subst e
      rw [List.getD_eq_getElem?_getD (l := rs.set _ _), List.getElem?_set_self hu]
      show (rs.getD x [] ++ [(v : Int)]).Nodup
      rw [List.nodup_append]
      refine ⟨h.nd x hx, by simp, fun a ha b hb => ?_⟩
      rw [List.mem_singleton.mp hb]
      rintro rfl
      exact nv ha
    · rw [List.getD_eq_getElem?_getD (l := rs.set _ _), List.getElem?_set_ne (fun w => e w.symm), ← List.getD_eq_getElem?_getD]
      exact h.nd x hx
  · rcases (mem_setD hu).mp hz with q | ⟨e1, e2⟩
    · obtain ⟨y, hy, ez, q⟩ := h.inr x hx z q
      refine ⟨y, hy, ez, ?_⟩
      unfold Dn at q ⊢
      omega
    · refine ⟨v, by omega, e2, ?_⟩
      unfold Dn
      omega
  · rw [mem_setD hu, mem_setD hu]
    by_cases e : x = a ∧ y = b
    · obtain ⟨rfl, rfl⟩ := e
      rcases uv with ⟨rfl, rfl⟩ | ⟨rfl, rfl⟩
      · constructor
        · rintro _ (z | ⟨z, _⟩)
          · exact nu z
          · omega
        · exact fun _ => .inr ⟨rfl, rfl⟩
      · constructor
        · rintro (z | ⟨z, _⟩) _
          · exact nu z
          · omega
        · exact fun z => absurd (.inr ⟨rfl, rfl⟩) z
    · have q' : Dn a b x y := by unfold Dn at q ⊢; omega
      have z := h.one x y hx hy q'
      have w1 : ¬ (x = u ∧ (y : Int) = (v : Int)) := fun w => by unfold Dn at q'; omega
      have w2 : ¬ (y = u ∧ (x : Int) = (v : Int)) := fun w => by unfold Dn at q'; omega
      simp only [w1, w2, or_false]
      exact z
theorem Half.tb {m : Nat} {rs : List (List Int)} (h : Half m m m rs) : Tb m (rs.map sortI) := by
  have g : ∀ x, x < m → (rs.map sortI).getD x [] = sortI (rs.getD x []) := fun x hx => by
    rw [List.getD_eq_getElem?_getD, List.getElem?_map, List.getD_eq_getElem?_getD, List.getElem?_eq_getElem (by rw [h.len]; exact hx)]
    rfl
  have mm : ∀ x, x < m → ∀ z, z ∈ (rs.map sortI).getD x [] ↔ z ∈ rs.getD x [] := fun x hx z => by rw [g x hx, (sortI_perm _).mem_iff]
  refine ⟨by rw [List.length_map]; exact h.len, fun x hx => ?_, fun x hx z hz => ?_, fun x y hx hy => ?_⟩
  · rw [g x hx]
    exact sort_asc (h.nd x hx)
  · obtain ⟨y, hy, ez, _⟩ := h.inr x hx z ((mm x hx z).mp hz)
    omega
  · unfold dec
    by_cases e : x = y
    · rw [if_pos e]
      have z : ¬ (x : Int) ∈ (rs.map sortI).getD x [] := fun q => by
        obtain ⟨y, hy, ez, q⟩ := h.inr x hx _ ((mm x hx _).mp q)
        unfold Dn at q
        omega
      rw [decide_eq_false z]
      rfl
    · rw [if_neg e]
      simp only [mm x hx, mm y hy]
      have z : ((y : Int) ∈ rs.getD x [] ↔ ¬ (x : Int) ∈ rs.getD y []) := by
        rcases Nat.lt_or_gt_of_ne e with q | q
        · exact h.one x y hx hy ⟨q, .inl hx⟩
        · have := h.one y x hy hx ⟨q, .inl hy⟩
          constructor
          · exact fun a b => this.mp b a
          · exact fun a => Classical.byContradiction fun b => a (this.mpr b)
      by_cases q : (x : Int) ∈ rs.getD y []
      · rw [decide_eq_true q, decide_eq_false fun w => z.mp w q]; rfl
      · rw [decide_eq_false q, decide_eq_true (z.mpr q)]; rfl
end DL
namespace DL
open PySem PySem.Spec PyProof.Rows L2 LamX PySem.W SL
theorem Hist.left {m n : Nat} {a b : List Nat} (h : Hist m n (a ++ b)) : Hist m n a := by
  have nd := h.nd
  have fw := h.few
  rw [List.nodup_append] at nd
  rw [List.length_append] at fw
  exact ⟨nd.1, fun k hk => h.lt k (List.mem_append_left _ hk), by omega⟩
end DL
namespace DL
open PySem PySem.Spec PyProof.Rows L2 LamX PySem.W SL
section
variable {m n : Nat} {hs : List Nat} {P : List (List Int)} {R : List (List (List Int))}
theorem flow_le {c : List Int} (hc : Cnt c) {u : Nat} (hu : u < c.length) : 0 ≤ (ML.flowsI c).getD u 0 ∧ (ML.flowsI c).getD u 0 ≤ c.length := by
  have f := hc.fl _ (getD_mem (l := ML.flowsI c) (i := u) (by rw [ML.flowsI_length]; exact hu))
  omega
theorem cy_flow {c : List Int} {u : Nat} (hu : u < c.length) : ML.cy (ML.flowsI c) u = (ML.flowsI c).getD u 0 := ML.cy_lt (by rw [ML.flowsI_length]; exact hu)
theorem sq_waits_flows {c : List Int} (hc : Cnt c) : sqSum (waitsI c) = ML.sumN c.length fun s => (ML.flowsI c).getD s 0 * (ML.flowsI c).getD s 0 := by
  rw [sqSum_waits]
  have z := ML.sq_flows hc.flow hc.pos (fun i => hc.nn _ (getD_mem (Nat.mod_lt _ hc.pos))) (ML.cy_per c)
  have y : (ML.sumN c.length fun s => ML.cy (ML.flowsI c) s * ML.cy (ML.flowsI c) s) = ML.sumN c.length fun s => (ML.flowsI c).getD s 0 * (ML.flowsI c).getD s 0 := ML.sumN_congr fun s hs' => by rw [cy_flow hs']
  rw [← y, ← z]
  exact ML.sumN_congr fun s hs' => by rw [ML.cy_lt hs']
theorem wait_flow {c : List Int} (hc : Cnt c) {w : Int} (hw : w ∈ waitsI c) : ∃ u, u < c.length ∧ w ≤ (ML.flowsI c).getD u 0 := by
  unfold waitsI at hw
  obtain ⟨s, hs, hw⟩ := List.mem_flatMap.mp hw
  obtain ⟨k, hk, rfl⟩ := List.mem_map.mp hw
  have ls := List.mem_range.mp hs
  have lk := List.mem_range.mp hk
  refine ⟨s, ls, ?_⟩
  have r := hc.flow.rec_ (s + (c.length - 1))
  have e : s + (c.length - 1) + 1 = s + c.length := by have := hc.pos; omega
  rw [e, hc.flow.per, ML.cy_per, cy_flow ls, ML.cy_lt ls] at r
  unfold ML.step at r
  split at r <;> omega
end
end DL
namespace DL
open PySem PySem.Spec PyProof.Rows L2 LamX PySem.W SL
section
variable {T : List (Addr × Str)} {X : Cx} {a b : Expr} {fa fb : DTE} {pos : Pos}
end
end DL
namespace DL
open PySem PySem.Spec PyProof.Rows L2 LamX PySem.W SL
def onT (x : D) (k : List D → Prop) : Prop := match x with | .tup xs => k xs | _ => False
theorem onT.of {x : D} {k : List D → Prop} (h : onT x k) : ∃ xs, x = .tup xs ∧ k xs := by
  cases x with
  | tup xs => exact ⟨xs, rfl, h⟩
  | _ => exact h.elim
section
variable {T : List (Addr × Str)} {X : Cx}
end
end DL
namespace DL
open PySem PySem.Spec PyProof.Rows L2 LamX PySem.W SL
end DL
namespace DL
open PySem PySem.Spec PyProof.Rows L2 LamX PySem.W SL
end DL
namespace DL
open PySem PySem.Spec PyProof.Rows L2 LamX PySem.W SL
def hL (hs : List Nat) : List D := hs.map fun h : Nat => D.int (h : Nat)
structure HLay (m n : Nat) (hs : List Nat) (sl : List Int) : Prop where
  len : hs.length = m
  lt : ∀ h ∈ hs, h < n
  lay : Lay m n sl
  n0 : 0 < n
  few : n ≤ 100
theorem HLay.hm_lt {m n : Nat} {hs : List Nat} {sl : List Int} (S : HLay m n hs sl) {k : Nat} (hk : k < m) : hm hs k < n := S.lt _ (getD_memL (by rw [S.len]; exact hk))
end DL
namespace DL
open PySem PySem.Spec PyProof.Rows L2 LamX PySem.W SL
section
variable {m n : Nat} {hs : List Nat} {P : List (List Int)} {R : List (List (List Int))}
end
end DL
namespace ML
theorem waits_gen (g : Nat → Int) (x c : Nat) : sumN c (fun k => g (x + k)) = sumN (x + c) g - sumN x g := by
  rw [sumN_split]
  omega
theorem gen_flows (g : Nat → Int) (g0 : g 0 = 0) {n : Nat} {c f : Nat → Int} (F : Flow n c f) (n0 : 0 < n) (c0 : ∀ i, 0 ≤ c i) (cp : ∀ i, c (i + n) = c i) :
    sumN n (fun s => sumN (c s).toNat fun k => g ((f (s + (n - 1))).toNat + k)) = sumN n fun s => g (f s).toNat := by
  have e : ∀ s, s < n → (sumN (c s).toNat fun k => g ((f (s + (n - 1))).toNat + k)) = sumN ((f s).toNat + 1) g - sumN (f (s + (n - 1))).toNat g := by
    intro s hs
    have x0 := F.nn (s + (n - 1))
    have y0 := F.nn s
    have cs := c0 s
    rw [waits_gen]
    have st := F.rec_ (s + (n - 1))
    have e1 : s + (n - 1) + 1 = s + n := by omega
    rw [e1, F.per, cp] at st
    unfold step at st
    by_cases z : f (s + (n - 1)) + c s = 0
    · have a1 : (f (s + (n - 1))).toNat = 0 := by omega
      have a2 : (c s).toNat = 0 := by omega
      have a3 : (f s).toNat = 0 := by
        split at st <;> omega
      rw [a1, a2, a3]
      show sumN 0 g - sumN 0 g = (sumN 0 g + g 0) - sumN 0 g
      rw [g0]
      rfl
    · have a1 : (f (s + (n - 1))).toNat + (c s).toNat = (f s).toNat + 1 := by
        split at st <;> omega
      rw [a1]
  rw [sumN_congr e, sumN_sub]
  have sh := sumN_shifts (n := n) (g := fun i => sumN (f i).toNat g) (fun i => by simp only [F.per]) (n - 1)
  rw [sh, ← sumN_sub]
  refine sumN_congr fun s hs => ?_
  show (sumN (f s).toNat g + g (f s).toNat) - sumN (f s).toNat g = g (f s).toNat
  omega
end ML
namespace DL
open PySem PySem.Spec PyProof.Rows L2 LamX PySem.W SL
theorem waits_sum (g : Nat → Int) (g0 : g 0 = 0) {c : List Int} (hc : Cnt c) : ML.sumL ((waitsI c).map fun w => g w.toNat) = ML.sumN c.length fun s => g ((ML.flowsI c).getD s 0).toNat := by
  have z := ML.gen_flows g g0 hc.flow hc.pos (fun i => hc.nn _ (getD_mem (Nat.mod_lt _ hc.pos))) (ML.cy_per c)
  have y : (ML.sumN c.length fun s => g (ML.cy (ML.flowsI c) s).toNat) = ML.sumN c.length fun s => g ((ML.flowsI c).getD s 0).toNat := ML.sumN_congr fun s hs' => by rw [cy_flow hs']
  rw [← y, ← z]
  unfold waitsI
  rw [List.map_flatMap, sumL_flat, sumL_range]
  refine ML.sumN_congr fun s hs => ?_
  rw [List.map_map, sumL_range, ML.cy_lt hs]
  refine ML.sumN_congr fun k _ => ?_
  have x0 := hc.flow.nn (s + (c.length - 1))
  show g ((ML.cy (ML.flowsI c) (s + (c.length - 1)) + (k : Int)).toNat) = _
  congr 1
  omega
theorem sumL_pos : ∀ {l : List Int} {x : Int}, (∀ y ∈ l, 0 ≤ y) → x ∈ l → x ≤ ML.sumL l := fun h hx => sum_mem_le h _ hx
theorem sumL_zero : ∀ {l : List Int}, (∀ y ∈ l, y = 0) → ML.sumL l = 0
  | [], _ => rfl
  | x :: r, h => by
    rw [ML.sumL_cons, h x (by simp), sumL_zero fun y hy => h y (List.mem_cons_of_mem _ hy)]
    rfl
theorem max_alike {l l2 : List Int} (nn : ∀ x ∈ l, 0 ≤ x) (same : ∀ g : Nat → Int, g 0 = 0 → ML.sumL (l2.map fun w => g w.toNat) = ML.sumL (l.map fun w => g w.toNat)) {x : Int} (hx : x ∈ l) (x0 : 0 < x) : ∃ y ∈ l2, x ≤ y := by
  apply Classical.byContradiction
  intro no
  have lt : ∀ y ∈ l2, y < x := fun y hy => Int.not_le.mp fun le => no ⟨y, hy, le⟩
  have s := same (fun v => if x ≤ (v : Int) then 1 else 0) (if_neg (by omega))
  have a : ML.sumL (l2.map fun w => if x ≤ ((w.toNat : Nat) : Int) then (1 : Int) else 0) = 0 := sumL_zero fun y hy => by
    obtain ⟨w, hw, rfl⟩ := List.mem_map.mp hy
    exact if_neg (by have := lt w hw; omega)
  have b : (1 : Int) ≤ ML.sumL (l.map fun w => if x ≤ ((w.toNat : Nat) : Int) then (1 : Int) else 0) := sumL_pos (fun y hy => by
    obtain ⟨w, hw, rfl⟩ := List.mem_map.mp hy
    split <;> omega) (List.mem_map.mpr ⟨x, hx, if_pos (by omega)⟩)
  rw [a] at s
  omega
structure Put (n : Nat) (cc far : List Int) : Prop where
  ex : ∃ (o : Nat → Bool) (h d : Nat → Nat), ML.Pl n (fun s => o s = true) h d ∧ (∀ s, s < n → (o s = true ↔ isTk cc s = true)) ∧ (∀ g : Int → Int, ML.sumL (far.map g) = ML.sumN n (fun s => if o s = true then g (d s) else 0)) ∧ (∀ s, s < n → o s = true → ((d s : Nat) : Int) ∈ far) ∧ ∀ u, u < n → ML.psd n (fun s => o s = true) h d u = (ML.flowsI cc).getD u 0
theorem rep_getD {n i : Nat} : (List.replicate n (0 : Int)).getD i 0 = 0 := by
  rw [List.getD_eq_getElem?_getD, List.getElem?_replicate]
  split <;> rfl
theorem Put.start (n : Nat) : Put n (List.replicate n 0) [] := by
  refine ⟨fun _ => false, fun _ => 0, fun _ => 0, ⟨fun s _ h => (by cases h), fun s _ h => (by cases h)⟩, fun s hs => ?_, fun g => ?_, fun s _ h => (by cases h), fun u hu => ?_⟩
  · have e1 : isTk (List.replicate n 0) s = false := by
      unfold isTk ML.cy
      rw [flows_rep0, rep_getD, rep_getD]
      rfl
    rw [e1]
  · rw [ML.sumN_congr (h := fun _ => (0 : Int)) (fun s _ => if_neg (fun z => by cases z)), ML.sumN_zero]
    rfl
  · rw [flows_rep0, rep_getD]
    unfold ML.psd ML.ev
    rw [ML.sumN_congr (h := fun _ => (0 : Int)) (fun s _ => if_neg (fun z => by cases z.1)), ML.sumN_zero]
theorem Put.step {n : Nat} {cc far : List Int} {i L : Nat} (P : Put n cc far) (l : cc.length = n) (mo : More cc i L) : Put n (plus cc i) (far ++ [(L : Int)]) := by
  obtain ⟨o, h, d, pl, occ, sm, mem, ps⟩ := P.ex
  have hi := mo.ha
  rw [l] at hi
  have n0 : 0 < n := by omega
  have Ll := mo.pas.lt
  rw [l] at Ll
  have no := mo.no
  rw [l] at no
  have xl : (i + L) % n < n := Nat.mod_lt _ n0
  have ox : o ((i + L) % n) = false := by
    cases e : o ((i + L) % n) with
    | false => rfl
    | true =>
      have := (occ _ xl).mp e
      rw [no] at this
      cases this
  generalize hx : (i + L) % n = x at no xl ox
  refine ⟨fun s => o s || decide (s = x), fun s => if s = x then i else h s, fun s => if s = x then L else d s, ⟨fun s hs q => ?_, fun s hs q => ?_⟩, fun s hs => ?_, fun g => ?_, fun s hs q => ?_, fun u hu => ?_⟩
  · by_cases e : s = x
    · simp only [if_pos e]; exact hi
    · simp only [if_neg e]
      simp [e] at q
      exact pl.home s hs q
  · by_cases e : s = x
    · simp only [if_pos e]
      exact ⟨Ll, by rw [hx, e]⟩
    · simp only [if_neg e]
      simp [e] at q
      exact pl.far s hs q
  · have t := mo.tk (s := s) (by rw [l]; exact hs)
    rw [l, hx] at t
    rw [t, Bool.or_eq_true, decide_eq_true_eq, occ s hs]
  · rw [List.map_append, ML.sumL_append, sm g]
    have up := sumN_upd (n := n) (x := x) (g := fun s => if o s = true then g (d s) else 0) (g' := fun s => if (o s || decide (s = x)) = true then g ((if s = x then L else d s : Nat) : Int) else 0) xl fun s _ ne => by
      simp only [ne, decide_false, Bool.or_false, if_false]
    rw [up]
    simp only [ox, Bool.false_or, decide_true, if_true]
    show _ + (g L + 0) = _
    simp
  · by_cases e : s = x
    · simp only [if_pos e]; simp
    · simp only [if_neg e]
      simp [e] at q
      exact List.mem_append_left _ (mem s hs q)
  · have up := sumN_upd (n := n) (x := x) (g := ML.ev n (fun s => o s = true) h d u 0) (g' := ML.ev n (fun s => (o s || decide (s = x)) = true) (fun s => if s = x then i else h s) (fun s => if s = x then L else d s) u 0) xl fun s _ ne => by
      unfold ML.ev
      simp only [ne, decide_false, Bool.or_false, if_false]
    unfold ML.psd
    rw [up, mo.flows, addL_at (by rw [ML.flowsI_length, l]; exact hu), ML.flowsI_length, l, ← ps u hu]
    unfold ML.psd ML.ev
    simp only [ox, Bool.false_or, decide_true, if_true, Nat.add_zero, true_and, if_false, Bool.false_eq_true, false_and]
    omega
theorem Put.sq {n : Nat} {c far : List Int} (P : Put n c far) (l : c.length = n) (hc : Cnt c) : sqSum (waitsI c) ≤ ML.sumL (far.map fun x => x * x) := by
  obtain ⟨o, h, d, pl, occ, sm, mem, ps⟩ := P.ex
  have n0 : 0 < n := by have := hc.pos; omega
  have z := ML.psd_sq pl n0 fun u hu => by
    rw [ps u hu]
    have := flow_le hc (u := u) (by omega)
    omega
  rw [sq_waits_flows hc, l, sm]
  rw [ML.sumN_congr (h := fun u => (ML.flowsI c).getD u 0 * (ML.flowsI c).getD u 0) fun u hu => by rw [ps u hu]] at z
  exact z
theorem Put.max {n : Nat} {c far : List Int} (P : Put n c far) (l : c.length = n) (hc : Cnt c) {w : Int} (hw : w ∈ waitsI c) (w0 : 0 < w) : ∃ x ∈ far, w ≤ x := by
  obtain ⟨o, h, d, pl, occ, sm, mem, ps⟩ := P.ex
  obtain ⟨u, hu, le⟩ := wait_flow hc hw
  rw [l] at hu
  rw [← ps u hu] at le
  obtain ⟨s, hs', os, q⟩ := ML.psd_far pl hu (by omega)
  exact ⟨_, mem s hs' os, by omega⟩
end DL
namespace DL
open PySem PySem.Spec PyProof.Rows L2 LamX PySem.W SL
end DL
namespace DL
open PySem PySem.Spec PyProof.Rows L2 LamX PySem.W SL
end DL
namespace DL
open PySem PySem.Spec PyProof.Rows L2 LamX PySem.W SL
structure HalfR (m : Nat) (E : Nat → Nat → Prop) (rs : List (List Int)) : Prop where
  len : rs.length = m
  nd : ∀ x, x < m → (rs.getD x []).Nodup
  inr : ∀ x, x < m → ∀ z ∈ rs.getD x [], ∃ y : Nat, y < m ∧ z = (y : Int) ∧ (E x y ∨ E y x)
  one : ∀ x y, x < m → y < m → E x y → ((y : Int) ∈ rs.getD x [] ↔ ¬ (x : Int) ∈ rs.getD y [])
section
variable {m : Nat} {E F : Nat → Nat → Prop} {rs : List (List Int)}
theorem HalfR.congr (h : HalfR m E rs) (e : ∀ x y, x < m → y < m → (E x y ↔ F x y)) : HalfR m F rs :=
  ⟨h.len, h.nd, fun x hx z hz => by
    obtain ⟨y, hy, ez, q⟩ := h.inr x hx z hz
    exact ⟨y, hy, ez, q.imp (e x y hx hy).mp (e y x hy hx).mp⟩, fun x y hx hy q => h.one x y hx hy ((e x y hx hy).mpr q)⟩
theorem HalfR.start (m : Nat) (E : Nat → Nat → Prop) (no : ∀ x y, ¬ E x y) : HalfR m E (List.replicate m []) := by
  have z : ∀ x, (List.replicate m ([] : List Int)).getD x [] = [] := fun x => by
    rw [List.getD_eq_getElem?_getD, List.getElem?_replicate]
    split <;> rfl
  refine ⟨by simp, fun x hx => by rw [z]; exact List.nodup_nil, fun x hx y hy => ?_, fun x y hx hy q => absurd q (no x y)⟩
  rw [z] at hy
  cases hy
theorem HalfR.step {a b u v : Nat} (h : HalfR m E rs) (ab : a ≠ b) (ha : a < m) (hb : b < m) (n1 : ¬ E a b) (n2 : ¬ E b a) (uv : (u = a ∧ v = b) ∨ (u = b ∧ v = a)) : HalfR m (fun x y => E x y ∨ (x = a ∧ y = b)) (rs.set u (rs.getD u [] ++ [(v : Int)])) := by
  have hum : u < m := by omega
  have hvm : v < m := by omega
  have hu : u < rs.length := by rw [h.len]; exact hum
  have no : ¬ E u v ∧ ¬ E v u := by
    rcases uv with ⟨rfl, rfl⟩ | ⟨rfl, rfl⟩
    · exact ⟨n1, n2⟩
    · exact ⟨n2, n1⟩
  have nv : ¬ (v : Int) ∈ rs.getD u [] := fun z => by
    obtain ⟨y, hy, ez, q⟩ := h.inr u hum _ z
    have : y = v := by omega
    subst this
    exact q.elim no.1 no.2
  have nu : ¬ (u : Int) ∈ rs.getD v [] := fun z => by
    obtain ⟨y, hy, ez, q⟩ := h.inr v hvm _ z
    have : y = u := by omega
    subst this
    exact q.elim no.2 no.1
  refine ⟨by rw [List.length_set]; exact h.len, fun x hx => ?_, fun x hx z hz => ?_, fun x y hx hy q => ?_⟩
  · by_cases e : x = u
    · subst e
      rw [List.getD_eq_getElem?_getD (l := rs.set _ _), List.getElem?_set_self hu]
      show (rs.getD x [] ++ [(v : Int)]).Nodup
      rw [List.nodup_append]
      refine ⟨h.nd x hx, by simp, fun a ha b hb => ?_⟩
      rw [List.mem_singleton.mp hb]
      rintro rfl
      exact nv ha
    · rw [List.getD_eq_getElem?_getD (l := rs.set _ _), List.getElem?_set_ne (fun w => e w.symm), ← List.getD_eq_getElem?_getD]
      exact h.nd x hx
  · rcases (mem_setD hu).mp hz with q | ⟨e1, e2⟩
    · obtain ⟨y, hy, ez, q⟩ := h.inr x hx z q
      exact ⟨y, hy, ez, q.imp .inl .inl⟩
    · refine ⟨v, hvm, e2, ?_⟩
      rcases uv with ⟨rfl, rfl⟩ | ⟨rfl, rfl⟩
      · exact .inl (.inr ⟨e1, rfl⟩)
      · exact .inr (.inr ⟨rfl, e1⟩)
  · rw [mem_setD hu, mem_setD hu]
    by_cases e : x = a ∧ y = b
    · obtain ⟨rfl, rfl⟩ := e
      rcases uv with ⟨rfl, rfl⟩ | ⟨rfl, rfl⟩
      · constructor
        · rintro _ (z | ⟨z, _⟩)
          · exact nu z
          · exact ab z.symm
        · exact fun _ => .inr ⟨rfl, rfl⟩
      · constructor
        · rintro (z | ⟨z, _⟩) _
          · exact nu z
          · exact ab z
        · exact fun z => absurd (.inr ⟨rfl, rfl⟩) z
    · have q' : E x y := q.elim id fun w => absurd w e
      have z := h.one x y hx hy q'
      have w1 : ¬ (x = u ∧ (y : Int) = (v : Int)) := fun w => by
        have : y = v := by omega
        rw [w.1, this] at q'
        exact no.1 q'
      have w2 : ¬ (y = u ∧ (x : Int) = (v : Int)) := fun w => by
        have : x = v := by omega
        rw [w.1, this] at q'
        exact no.2 q'
      simp only [w1, w2, or_false]
      exact z
theorem HalfR.few (h : HalfR m E rs) {u : Nat} (hu : u < m) : (rs.getD u []).length ≤ m := by
  have z := sub_len (ys := DL.R m) (h.nd u hu) fun x hx => by
    obtain ⟨y, hy, ez, _⟩ := h.inr u hu x hx
    rw [R_mem]
    omega
  rw [R_length] at z
  exact z
theorem HalfR.tb (h : HalfR m E rs) (all : ∀ x y, x < m → y < m → x ≠ y → E x y ∨ E y x) (irr : ∀ x, ¬ E x x) : Tb m (rs.map sortI) := by
  refine Half.tb ⟨h.len, h.nd, fun x hx z hz => ?_, fun x y hx hy q => ?_⟩
  · obtain ⟨y, hy, ez, q⟩ := h.inr x hx z hz
    have ne : x ≠ y := fun e => by
      subst e
      exact q.elim (irr x) (irr x)
    refine ⟨y, hy, ez, ?_⟩
    unfold Dn
    omega
  · unfold Dn at q
    rcases all x y hx hy (by omega) with e | e
    · exact h.one x y hx hy e
    · have := h.one y x hy hx e
      constructor
      · exact fun a b => this.mp b a
      · exact fun a => Classical.byContradiction fun b => a (this.mpr b)
end
def Along (hs : List Nat) (a b x y : Nat) : Prop := ∃ i j, i < j ∧ hs[i]? = some x ∧ hs[j]? = some y ∧ (i < a ∨ (i = a ∧ j < b))
theorem Along.step {hs : List Nat} (nd : hs.Nodup) {a b u v x y : Nat} (ab : a < b) (hu : hs[a]? = some u) (hv : hs[b]? = some v) : (Along hs a b x y ∨ (x = u ∧ y = v)) ↔ Along hs a (b + 1) x y := by
  constructor
  · rintro (⟨i, j, ij, h1, h2, q⟩ | ⟨rfl, rfl⟩)
    · exact ⟨i, j, ij, h1, h2, by omega⟩
    · exact ⟨a, b, ab, hu, hv, by omega⟩
  · rintro ⟨i, j, ij, h1, h2, q⟩
    by_cases e : i = a ∧ j = b
    · obtain ⟨rfl, rfl⟩ := e
      rw [hu] at h1
      rw [hv] at h2
      exact .inr ⟨(Option.some.inj h1).symm, (Option.some.inj h2).symm⟩
    · exact .inl ⟨i, j, ij, h1, h2, by omega⟩
end DL
namespace DL
open PySem PySem.Spec PyProof.Rows L2 LamX PySem.W SL
structure Rul (m n : Nat) (R : List (List (List Int))) : Prop where
  len : R.length = n
  tb : ∀ t ∈ R, Tb m t
  m0 : 1 ≤ m
  m16 : m ≤ 16
  n0 : 1 ≤ n
  n16 : n ≤ 16
theorem Rul.at0 {m n : Nat} {R : List (List (List Int))} (W : Rul m n R) : atI (R.map rowsD) 0 = some (.tup ((R.getD 0 []).map rowD)) ∧ (R.getD 0 []).length = m := by
  have lR := W.len
  have n0 := W.n0
  have h := List.getElem?_eq_getElem (l := R) (i := 0) (by omega)
  have e : R.getD 0 [] = R[0] := by rw [List.getD_eq_getElem?_getD, h]; rfl
  rw [e]
  exact ⟨at_map (i := 0) h, (W.tb _ (List.getElem_mem _)).len⟩
end DL
namespace DL
open PySem PySem.Spec PyProof.Rows L2 LamX PySem.W SL
end DL
namespace DL
open PySem PySem.Spec PyProof.Rows L2 LamX PySem.W SL
section
variable {m n : Nat} {P : List (List Int)} {R : List (List (List Int))}
end
end DL
namespace DL
open PySem PySem.Spec PyProof.Rows L2 LamX PySem.W SL
section
variable {m n : Nat} {P : List (List Int)} {R : List (List (List Int))}
end
end DL
namespace DL
open PySem PySem.Spec PyProof.Rows L2 LamX PySem.W SL
end DL
namespace DL
open PySem PySem.Spec PyProof.Rows L2 LamX PySem.W SL
end DL
namespace DL
open PySem PySem.Spec PyProof.Rows L2 LamX PySem.W SL
section
variable {m n : Nat} {P : List (List Int)} {R : List (List (List Int))}
def First (m n : Nat) (P : List (List Int)) (s0 : Nat) : Prop := s0 < n ∧ ∀ a, a < m → pr P a 0 = s0
theorem First.ne (S : Setg m n P R) {s0 a i : Nat} (F : First m n P s0) (ha : a < m) (hi : i < n) (i1 : 1 ≤ i) : pr P a i ≠ s0 := fun e => by
  have h := S.rk_pr ha hi
  rw [e, ← F.2 a ha, S.rk_pr ha (by omega)] at h
  omega
end
end DL
namespace DL
open PySem PySem.Spec PyProof.Rows L2 LamX PySem.W SL
section
variable {m n : Nat} {P : List (List Int)} {R : List (List (List Int))}
end
theorem eq_lst {st : DSt} {k c : Nat} {xs : List D} {Q : DK} (sm : Sm k c (.lst xs)) (hk : k ≤ 50) (neg : Bool) (q : Q (.bl (if neg then false else true)) st) : dEqG neg (.lst xs) (.lst xs) st Q := by
  obtain ⟨p, e1, el⟩ := sm
  have p1 : pdS st (.lst xs) = some p := by rw [← e1]; rfl
  show dEqD neg (.lst xs) (.lst xs) st Q
  unfold dEqD
  rw [p1]
  refine ⟨⟨Sm.shaped el hk, Sm.shaped el hk⟩, ?_⟩
  rw [pdT_eqv e1]
  cases neg <;> exact q
end DL
namespace DL
open PySem PySem.Spec PyProof.Rows L2 LamX PySem.W SL
end DL
namespace DL
open PySem PySem.Spec PyProof.Rows L2 LamX PySem.W SL
section
variable {m n : Nat} {P : List (List Int)} {R : List (List (List Int))}
end
def nL (h : List Nat) : List D := h.map fun k : Nat => D.int (k : Nat)
end DL
namespace DL
open PySem PySem.Spec PyProof.Rows L2 LamX PySem.W SL
end DL
namespace DL
open PySem PySem.Spec PyProof.Rows L2 LamX PySem.W SL
theorem waits_sq_le {c : List Int} (hc : Cnt c) (l : c.length ≤ 64) : 0 ≤ sqSum (waitsI c) ∧ sqSum (waitsI c) ≤ 10 ^ 9 := by
  have wl := waits_lt hc
  have ln := waits_len hc
  have key : ∀ l : List Int, (∀ x ∈ l, 0 ≤ x ∧ x ≤ 128) → 0 ≤ sqSum l ∧ sqSum l ≤ (l.length : Int) * (128 * 128) := by
    intro l
    induction l with
    | nil => intro _; exact ⟨Int.le_refl 0, by simp [sqSum, ML.sumL]⟩
    | cons x r ih =>
      intro h
      obtain ⟨a, b⟩ := ih fun y hy => h y (List.mem_cons_of_mem _ hy)
      have hx := h x (by simp)
      have e : sqSum (x :: r) = x * x + sqSum r := rfl
      have u0 : 0 ≤ x * x := Int.mul_nonneg hx.1 hx.1
      have u1 : x * x ≤ 128 * 128 := Int.mul_le_mul hx.2 hx.2 hx.1 (by decide)
      rw [e, List.length_cons]
      have : ((r.length + 1 : Nat) : Int) * (128 * 128) = (r.length : Int) * (128 * 128) + 128 * 128 := by omega
      omega
  obtain ⟨a, b⟩ := key (waitsI c) fun x hx => by have := wl x hx; omega
  refine ⟨a, Int.le_trans b ?_⟩
  have : ((waitsI c).length : Int) ≤ 64 := by omega
  omega
end DL
namespace ML
def spread (rs : List (Int × Int)) : List Int := rs.flatMap fun p => List.replicate p.1.toNat p.2
theorem spread_cons (p : Int × Int) (rs : List (Int × Int)) : spread (p :: rs) = List.replicate p.1.toNat p.2 ++ spread rs := by unfold spread; simp
structure Rn (rs : List (Int × Int)) : Prop where
  ne : rs ≠ []
  size : ∀ p ∈ rs, 1 ≤ p.1
  nn : ∀ p ∈ rs, 0 ≤ p.2
theorem scan_append (f : Int) : ∀ a b : List Int, scan f (a ++ b) = scan f a ++ scan (run f a) b
  | [], b => rfl
  | x :: a, b => by
    show step f x :: scan (step f x) (a ++ b) = step f x :: (scan (step f x) a ++ _)
    rw [scan_append (step f x) a b]
    rfl
theorem sumL_rep (m : Nat) (c : Int) : sumL (List.replicate m c) = (m : Int) * c := by
  induction m with
  | zero => simp [sumL]
  | succ m ih => rw [List.replicate_succ, sumL_cons, ih, Int.natCast_add, Int.add_mul]; simp; omega
theorem spread_sum : ∀ rs : List (Int × Int), (∀ p ∈ rs, 0 ≤ p.1) → sumL (spread rs) = (rs.map fun p => p.1 * p.2).sum ∧ ((spread rs).length : Int) = (rs.map fun p => p.1).sum
  | [], _ => ⟨rfl, rfl⟩
  | p :: rs, h => by
    obtain ⟨a, b⟩ := spread_sum rs fun q hq => h q (List.mem_cons_of_mem _ hq)
    have h1 := h p (by simp)
    have e : ((p.1.toNat : Nat) : Int) = p.1 := by omega
    rw [spread_cons, sumL_append, sumL_rep, a, e, List.length_append, List.length_replicate, Int.natCast_add, b, e]
    simp
def com (c : List Int) (s : Nat) : Int := run (run 0 c) (c.take s)
theorem com_prev {c : List Int} (ne : c ≠ []) (room : sumL c ≤ c.length) {s : Nat} (h : s < c.length) : com c s = cy (flowsI c) (s + (c.length - 1)) := by
  have lF := flowsI_length c
  have n0 : 0 < c.length := List.length_pos_iff.mpr ne
  unfold com cy
  rw [lF]
  cases s with
  | zero =>
    have e : (0 + (c.length - 1)) % c.length = c.length - 1 := by rw [Nat.zero_add]; exact Nat.mod_eq_of_lt (by omega)
    have z := scan_last (c := c) (run 0 c) ne
    rw [e, List.getD_eq_getElem?_getD]
    show run 0 c = ((scan (run 0 c) c)[c.length - 1]?).getD 0
    rw [z, run_again room]
    rfl
  | succ s =>
    have e : (s + 1 + (c.length - 1)) % c.length = s := by
      rw [show s + 1 + (c.length - 1) = s + c.length by omega, Nat.add_mod_right]
      exact Nat.mod_eq_of_lt (by omega)
    rw [e, List.getD_eq_getElem?_getD]
    have z : (flowsI c)[s]? = some (run (run 0 c) (c.take (s + 1))) := scan_at (run 0 c) c s (by omega)
    rw [z]
    rfl
end ML
namespace ML
end ML
namespace DL
open PySem PySem.Spec PyProof.Rows L2 LamX PySem.W SL
structure Rok (rs : List (Int × Int)) : Prop where
  n : ML.Rn rs
  few : rs.length ≤ 1000
  sm : ∀ p ∈ rs, p.1 < 2 ^ 63 ∧ p.2 < 2 ^ 63
  room : (rs.map fun p => p.1 * p.2).sum ≤ (rs.map fun p => p.1).sum
abbrev spr (rs : List (Int × Int)) : List Int := ML.spread rs
theorem Rok.nn1 {rs : List (Int × Int)} (R : Rok rs) : ∀ p ∈ rs, 0 ≤ p.1 := fun p hp => by have := R.n.size p hp; omega
theorem Rok.room2 {rs : List (Int × Int)} (R : Rok rs) : ML.sumL (spr rs) ≤ (spr rs).length := by
  obtain ⟨a, b⟩ := ML.spread_sum rs R.nn1
  have := R.room
  show ML.sumL (ML.spread rs) ≤ ((ML.spread rs).length : Int)
  rw [a, b]
  exact this
theorem Rok.ne2 {rs : List (Int × Int)} (R : Rok rs) : spr rs ≠ [] := by
  obtain ⟨p, r, rfl⟩ := List.exists_cons_of_ne_nil R.n.ne
  have := R.n.size p (by simp)
  show ML.spread (p :: r) ≠ []
  rw [ML.spread_cons]
  intro e
  have := congrArg List.length e
  simp at this
  omega
theorem Runs.seq {rs : List (Int × Int)} {d : D} (h : Runs rs d) (st : DSt) : seqS st d = some (rs.map pairD) := by rcases h with rfl | rfl <;> rfl
theorem flows_nn (c : List Int) : ∀ x ∈ ML.flowsI c, 0 ≤ x := fun x hx => ML.scan_nn _ _ x hx
end DL
namespace DL
open PySem PySem.Spec PyProof.Rows L2 LamX PySem.W SL
theorem mulZero (l : Addr) (its : Array Value) (n : Nat) (dd : Option Addr) (sl : Array (Option Value)) (u : Tok) (ne : its.isEmpty = false) :
    Meets (Builtin.«tuple.__mul__» ⟨[.ref l, .int 0 u], []⟩) (fun _ R s => s.heap.get? l = some ⟨.type "tuple", dd, .seq its n, sl⟩ ∧ R (.ok (.ret (.ref s.heap.objs.size))) { s with heap := s.heap.push { cls := .type "tuple", data := .seq #[] } }) :=
  .of_wp fun prog w A R s h => by
    obtain ⟨hp, g, d, tk, os⟩ := s
    obtain ⟨hl, q⟩ := h
    have f1 := AutoSeq1.idx_int
    have c1 : (its.isEmpty || (0 : Int) == 1) = false := by rw [ne]; rfl
    wp_walk using wpAny_loadPart' hl
    repeat (first
      | (refine wpAny_ite_false (decide_eq_false (by rw [c1]; exact Bool.false_ne_true)) ?_; wp_walk using wpAny_loadPart' hl))
    exact ⟨_, rfl, q⟩
def rRepZ (K : Frag) : R2 := fun x y H Q => ∃ (l : Addr) (xs : List V), x = .ref l ∧ y = .int 0 ∧ SqT K H l xs ∧ xs ≠ [] ∧ ∀ (p : Addr) (ob : Obj), H p = none → ob.dict = none → Q (.ref p) (upd H p (.frz ob (.tup [])))
theorem op_repZ {X : Cx} : OpR X (binaryOp .Mult) (rRepZ X.K) := by
  intro pins s σ H x y v u Q I rx ry h
  obtain ⟨l, xs, rfl, rfl, hT, hne, q⟩ := h
  cases rx
  obtain ⟨t, rfl⟩ := ry
  obtain ⟨its, r, ⟨⟨cls, dd, data, sl⟩, ho, hc, n, hd⟩, hs⟩ := I.tuple hT
  simp only at hc hd
  subst hc hd
  have le : its.length = xs.length := r.length.symm
  have ne : its.toArray.isEmpty = false := by
    cases its with
    | nil => exact absurd (List.eq_nil_of_length_eq_zero le.symm) hne
    | cons _ _ => rfl
  have new : (s.heap.push { cls := .type "tuple", data := .seq #[] }).get? s.heap.objs.size = some { cls := .type "tuple", data := .seq #[] } := Heap.get?_push_size _ rfl
  exact wpAny_binaryOp_repeat_ref (T := "tuple") (U := "int") (by decide)
    ⟨_, ho, rfl⟩ (fun s' => typeIs_int s' _ t) noFill_tuple_mul F.fills_int_mul
    F.slot_int_rmul repeat_tuple F.slot_int_index.lookup
    (call_meets F.slot_int_rmul (typeIs_int s _ t) F.entry_int_rmul
      (F.args_int_rmul_2 _ _) (int_rmul_tuple _ t l its.toArray n dd sl)
      ⟨ho, rfl, ⟨_, ho, rfl⟩, call_meets F.slot_tuple_mul ⟨_, ho, rfl⟩
        F.entry_tuple_mul (F.args_tuple_mul_2 _ _) (mulZero l its.toArray n dd sl t ne) ⟨ho,
          ⟨.ref s.heap.objs.size, _, I.laid (t' := s.toks) (o := .frz { cls := .type "tuple", data := .seq #[] } (.tup [])) (fun b ob q => Heap.get?_push_of_some _ q) (Nat.le_refl _) ⟨new, by decide, [], .nil, _, new, rfl, _, rfl⟩, rfl, q _ _ (I.hok.fresh (Nat.le_refl _)) rfl⟩⟩⟩)
def dMulT : DR2 := fun x y st Q => match x, y with
  | .tup xs, .int k => xs ≠ [] ∧ 0 ≤ k ∧ k ≤ 1000 ∧ xs.length ≤ 1000 ∧ Q (.tup (List.replicate k.toNat xs).flatten) st
  | _, _ => False
theorem e_mulTT {xs : List D} {i : Int} {st : DSt} {Q : DK} : dMulT (.tup xs) (.int i) st Q = (xs ≠ [] ∧ 0 ≤ i ∧ i ≤ 1000 ∧ xs.length ≤ 1000 ∧ Q (.tup (List.replicate i.toNat xs).flatten) st) := rfl
section
variable {T : List (Addr × Str)} {X : Cx} {K : Frag} {a b : Expr} {fa fb : DTE} {pos : Pos}
theorem opD_mulT : OpD T K (fun x y H Q => rMulA K x y H Q ∨ rRepZ K x y H Q) dMulT := by
  intro M H st x y vx vy Q' Q s rx ry h k
  unfold dMulT at h
  split at h
  · rename_i ds m
    obtain ⟨h1, h2, h3, h4, q⟩ := h
    by_cases m0 : m = 0
    · subst m0
      cases ry
      have rx' := rx
      cases rx with
      | tup n1 e1 d1 r1 =>
        exact .inr ⟨_, _, rfl, rfl, .inl (.inr ⟨_, e1⟩), fun z => h1 (r1.nil_iff.mpr z), fun p ob np hd => k.tup s .nil np hd q⟩
    · refine .inl (opD_mul (.inl rfl) M H st (.tup ds) (.int m) vx vy Q' Q s rx ry ?_ k)
      rw [e_mulT]
      exact ⟨h1, by omega, h3, h4, q⟩
  · exact h.elim
theorem de_mulT (ha : DE T X a fa) (hb : DE T X b fb) : DE T X (.BinOp a .Mult b pos) (dOp dMulT fa fb) := de_op (OpR.or op_mulA op_repZ) opD_mulT ha hb
end
end DL
namespace DL
open PySem PySem.Spec PyProof.Rows L2 LamX PySem.W SL
end DL
namespace DL
open PySem PySem.Spec PyProof.Rows L2 LamX PySem.W SL
theorem maxI_alike {l l2 : List Int} (n1 : ∀ x ∈ l, 0 ≤ x) (n2 : ∀ x ∈ l2, 0 ≤ x) (same : ∀ g : Nat → Int, g 0 = 0 → ML.sumL (l2.map fun w => g w.toNat) = ML.sumL (l.map fun w => g w.toNat)) : maxI l = maxI l2 := by
  have le : ∀ {l l2 : List Int}, (∀ x ∈ l, 0 ≤ x) → (∀ x ∈ l2, 0 ≤ x) → (∀ g : Nat → Int, g 0 = 0 → ML.sumL (l2.map fun w => g w.toNat) = ML.sumL (l.map fun w => g w.toNat)) → maxI l ≤ maxI l2 := fun {l l2} n1 n2 same => by
    obtain ⟨a, b⟩ := maxI_spec l n1
    obtain ⟨a2, b2⟩ := maxI_spec l2 n2
    have z2 : 0 ≤ maxI l2 := by
      rcases a2 with ⟨_, z⟩ | z
      · omega
      · exact n2 _ z
    rcases a with ⟨_, z⟩ | z
    · omega
    · by_cases p : 0 < maxI l
      · obtain ⟨y, hy, w⟩ := max_alike n1 same z p
        have := b2 y hy
        omega
      · omega
  exact Int.le_antisymm (le n1 n2 same) (le n2 n1 fun g g0 => (same g g0).symm)
theorem max_waits_flows {c : List Int} (hc : Cnt c) : maxI (waitsI c) = maxI (ML.flowsI c) := by
  refine maxI_alike (waits_nn hc) (flows_nn c) fun g g0 => ?_
  rw [waits_sum g g0 hc, ML.sumL_N, List.length_map, ML.flowsI_length]
  refine ML.sumN_congr fun s hs => ?_
  rw [List.getD_eq_getElem?_getD, List.getElem?_map, List.getD_eq_getElem?_getD, List.getElem?_eq_getElem (by rw [ML.flowsI_length]; exact hs)]
  rfl
theorem Rok.cnt {rs : List (Int × Int)} (R : Rok rs) (l : (spr rs).length ≤ 900) : Cnt (spr rs) := by
  refine ⟨R.ne2, l, fun x hx => ?_, R.room2⟩
  obtain ⟨p, hp, hx⟩ := List.mem_flatMap.mp hx
  rw [List.eq_of_mem_replicate hx]
  exact R.n.nn p hp
end DL
namespace DL
open PySem PySem.Spec PyProof.Rows L2 LamX PySem.W SL
end DL
namespace DL
open PySem PySem.Spec PyProof.Rows L2 LamX PySem.W SL
end DL
namespace DL
open PySem PySem.Spec PyProof.Rows L2 LamX PySem.W SL
end DL
namespace DL
open PySem PySem.Spec PyProof.Rows L2 LamX PySem.W SL
end DL
namespace DL
open PySem PySem.Spec PyProof.Rows L2 LamX PySem.W SL
section
variable {m n : Nat} {P : List (List Int)} {R : List (List (List Int))}
end
end DL
namespace DL
open PySem PySem.Spec PyProof.Rows L2 LamX PySem.W SL
section
variable {m n : Nat} {P : List (List Int)} {R : List (List (List Int))}
end
end DL
namespace DL
open PySem PySem.Spec PyProof.Rows L2 LamX PySem.W SL
section
variable {m n : Nat} {P : List (List Int)} {R : List (List (List Int))}
end
end DL
namespace DL
open PySem PySem.Spec PyProof.Rows L2 LamX PySem.W SL
end DL
namespace DL
open PySem PySem.Spec PyProof.Rows L2 LamX PySem.W SL
end DL
namespace DL
open PySem PySem.Spec PyProof.Rows L2 LamX PySem.W SL
theorem Rok.of {rs : List (Int × Int)} (ne : rs ≠ []) (few : rs.length ≤ 1000) (h : ∀ p ∈ rs, 1 ≤ p.1 ∧ p.1 < 2 ^ 63 ∧ 0 ≤ p.2 ∧ p.2 < 2 ^ 63) (room : (rs.map fun p => p.1 * p.2).sum ≤ (rs.map fun p => p.1).sum) : Rok rs :=
  ⟨⟨ne, fun p hp => (h p hp).1, fun p hp => (h p hp).2.2.1⟩, few, fun p hp => ⟨(h p hp).2.1, (h p hp).2.2.2⟩, room⟩
end DL
namespace DL
open PySem PySem.Spec PyProof.Rows L2 LamX PySem.W SL
end DL
namespace DL
open PySem PySem.Spec PyProof.Rows L2 LamX PySem.W SL
end DL
namespace DL
open PySem PySem.Spec PyProof.Rows L2 LamX PySem.W SL
end DL
namespace DL
open PySem PySem.Spec PyProof.Rows L2 LamX PySem.W SL
end DL
namespace DL
open PySem PySem.Spec PyProof.Rows L2 LamX PySem.W SL
theorem Rok.app {a b : List (Int × Int)} (A : Rok a) (B : Rok b) (few : a.length + b.length ≤ 1000) : Rok (a ++ b) := by
  refine ⟨⟨fun e => A.n.ne (List.append_eq_nil_iff.mp e).1, fun p hp => ?_, fun p hp => ?_⟩, by rw [List.length_append]; exact few, fun p hp => ?_, ?_⟩
  · rcases List.mem_append.mp hp with y | y
    · exact A.n.size p y
    · exact B.n.size p y
  · rcases List.mem_append.mp hp with y | y
    · exact A.n.nn p y
    · exact B.n.nn p y
  · rcases List.mem_append.mp hp with y | y
    · exact A.sm p y
    · exact B.sm p y
  · have := A.room
    have := B.room
    rw [List.map_append, List.map_append, List.sum_append, List.sum_append]
    omega
end DL
namespace SL
open PySem PySem.Spec PyProof.Rows L2
section
variable {prog : Program} {w : World} {A : Around} {R : Result → Shared → Prop} {itr : Addr} {seen mv : List Addr} {n : Nat} {Pk : Nat → Value → Prop} {Stt : Nat → Heap → Prop}
end
section
variable {prog : Program} {w : World} {A : Around} {E : Value → Shared → Prop} {s : Shared}
end
end SL
namespace DL
open PySem PySem.Spec PyProof.Rows L2 LamX PySem.W SL
section
variable {X : Cx}
end
end DL
namespace DL
open PySem PySem.Spec PyProof.Rows L2 LamX PySem.W SL
end DL
namespace DL
open PySem PySem.Spec PyProof.Rows L2 LamX PySem.W SL
end DL
namespace DL
open PySem PySem.Spec PyProof.Rows L2 LamX PySem.W SL
end DL
namespace SL
open PySem PySem.Spec PyProof.Rows L2
section
variable {prog : Program} {w : World} {A : Around} {E : Value → Shared → Prop} {s : Shared}
end
section
variable {prog : Program} {w : World} {A : Around} {R : Result → Shared → Prop}
end
section
variable {prog : Program} {w : World} {A : Around} {E : Value → Shared → Prop} {s : Shared}
end
end SL
namespace SL
open PySem PySem.Spec PyProof.Rows L2
structure NewE (H H2 : Hp) (box : Addr) (xs : List V) (ps : List Addr) : Prop where
  len : ps.length = xs.length
  nd : ps.Nodup
  nb : H box = none
  np : ∀ p ∈ ps, p ≠ box ∧ H p = none
  box_ : H2 box = some (.lst (ps.map V.ref))
  pair : ∀ (j : Nat) (p : Addr) (x : V), ps[j]? = some p → xs[j]? = some x → H2 p = some (.tup [.int (j : Nat), x])
  old : ∀ b, b ≠ box → b ∉ ps → H2 b = H b
theorem NewE.ext {H H2 : Hp} {box : Addr} {xs : List V} {ps : List Addr} (N : NewE H H2 box xs ps) {b : Addr} {o : HO} (e : H b = some o) : H2 b = some o := by
  rw [N.old b (fun z => by rw [z, N.nb] at e; cases e) (fun z => by rw [(N.np b z).2] at e; cases e)]
  exact e
section
variable {X : Cx} {pins : List (Addr × Obj)} {σ : L2.St} {H : Hp} {s : Shared}
end
end SL
namespace DL
open PySem PySem.Spec PyProof.Rows L2 LamX PySem.W SL
def dLEnum (fs : DTA) : DTE := fun r st Q => fs r st fun ds st1 => on1 ds fun x => match x with
  | .tup xs => Q (.lst (enumD xs)) st1
  | _ => False
@[simp] theorem e_lenum {fs : DTA} {r : DEnv} {st : DSt} {Q : DK} : dLEnum fs r st Q = fs r st fun ds st1 => on1 ds fun x => match x with
  | .tup xs => Q (.lst (enumD xs)) st1
  | _ => False := rfl
section
variable {T : List (Addr × Str)} {X : Cx}
end
end DL
set_option maxHeartbeats 2000000
namespace SL
open PySem PySem.Spec PyProof.Rows L2
def ExK (cls : Value) (d : Option Addr) (a : Addr) : HO := .ext fun h => ∃ (oe : Obj) (vs : Array Value), h.get? a = some oe ∧ Zc cls d oe ∧ oe.data = .fields vs
theorem exK_ok {P : Program} {w : World} {H : Hp} {h : Heap} {a : Addr} {cls : Value} {d : Option Addr} {oe : Obj} {vs : Array Value} (e : h.get? a = some oe) (z : Zc cls d oe) (f : oe.data = .fields vs) : ObjOk P w H h a (ExK cls d a) :=
  ⟨⟨oe, vs, e, z, f⟩, ⟨oe, e⟩, fun _ _ ⟨o, v, q, r⟩ k => ⟨o, v, k o q, r⟩⟩
theorem exK_at {P : Program} {w : World} {H : Hp} {h : Heap} {a : Addr} {cls : Value} {d : Option Addr} (hok : HOk P w H h) (e : H a = some (ExK cls d a)) : ∃ (oe : Obj) (vs : Array Value), h.get? a = some oe ∧ Zc cls d oe ∧ oe.data = .fields vs := by
  have x : ObjOk P w H h a (.ext fun h => ∃ (oe : Obj) (vs : Array Value), h.get? a = some oe ∧ Zc cls d oe ∧ oe.data = .fields vs) := hok a _ e
  exact x.1
section
variable {X : Cx} {pins : List (Addr × Obj)} {σ : L2.St} {H : Hp} {s : Shared} {a : Addr} {oe : Obj} {cls : Value} {d : Option Addr}
theorem gain (I : Inv X ((a, oe) :: pins) σ H s) (n0 : X.s_0.heap.get? a = none) (np : ∀ p ∈ X.pn ++ pins, p.1 ≠ a) (hz : Zc cls d oe) (hf : ∃ vs, oe.data = .fields vs) : Inv X pins σ (upd H a (ExK cls d a)) s := by
  obtain ⟨ha, na, nl, nf, nc⟩ := I.pin (a, oe) (List.mem_append_right _ List.mem_cons_self)
  obtain ⟨vs, hd⟩ := hf
  have ne0 : ∀ b o, X.s_0.heap.get? b = some o → b ≠ a := fun b o e z => by rw [z, n0] at e; cases e
  have neC : ∀ x c, X.env.cells.lookup x = some c → c ≠ a := fun x c e z => by
    obtain ⟨v, o, ho, hc⟩ := I.cell x c e
    rw [z, ha] at ho
    cases ho
    exact nc v hc
  refine ⟨I.ok, I.os, I.bare, ⟨I.base.keep, I.base.slot, fun b o e n hx => ?_, I.base.there, fun b xs e => ?_, fun b o u e => ?_, fun b ps e => ?_⟩, I.loc, I.cell, ?_, fun x c e => ?_, fun p hp => ?_, fun b u e => ?_, I.len⟩
  · rw [upd_ne (ne0 b o e)]
    exact I.base.free b o e n hx
  · have q := I.base.tups b xs e
    rw [upd_ne (ne_of_none q na)]
    exact q
  · have q := I.base.frzs b o u e
    rw [upd_ne (ne_of_none q na)]
    exact q
  · obtain ⟨more, q⟩ := I.base.tbls b ps e
    exact ⟨more, by rw [upd_ne (ne_of_none q na)]; exact q⟩
  · rw [upd_ne (Ne.symm nl)]
    exact I.free
  · rw [upd_ne (neC x c e)]
    exact I.freeC x c e
  · obtain ⟨q1, q2, q3, q4, q5⟩ := I.pin p (by
      rcases List.mem_append.mp hp with z | z
      · exact List.mem_append_left _ z
      · exact List.mem_append_right _ (List.mem_cons_of_mem _ z))
    exact ⟨q1, by rw [upd_ne (np p hp)]; exact q2, q3, q4, q5⟩
  · by_cases hb : b = a
    · subst hb
      rw [upd_same] at e
      cases e
      exact exK_ok ha hz hd
    · rw [upd_ne hb] at e
      exact (I.hok b u e).stay (fun c v _ q => q) (fun c q => by rw [upd_ne (ne_of_none q na)]; exact q) fun c xs q => by rw [upd_ne (ne_of_none q na)]; exact q
end
def wKeep (K : PySem.W.Frag) (c : Value) (i j : Nat) (D : Ends) : WX := fun cls d σ H => PySem.W.exmOne K cls c = some true ∧ ∀ a, H a = none → D.nx ((((σ.set i (some (.ref a))).set j (some (.ref a)))).set i none) (upd H a (ExK cls d a))
section
variable {X : Cx} {x n m : Str} {c : Value} {i j : Nat} {body : List Stmt} {np pos pos' p1 p2 p3 : Pos} {tb : WX → TS}
theorem ps_try_keep (hs : X.stack = X.env :: X.outer) (hf : X.env.frame = some X.env.locals) (hex : X.ex = []) (hN : X.N.Nodup) (hi : X.N[i]? = some n) (hln : X.env.kindOf n = some .local) (hj : X.N[j]? = some m) (hlm : X.env.kindOf m = some .local) (hij : i ≠ j) (hc : Names X x c)
    (hb : ∀ (W : WX) (pn : List (Addr × Obj)) (xe : Value → Shared → Prop), Takes (X.tr pn xe) W → PassesOwn (model X.prog X.w) X.A X.env xe → PSs (X.tr pn xe) body (tb W))
    (hd1 : (n == ("__debug__" : Str)) = false := by decide) (hd2 : (n == ("__classdict__" : Str)) = false := by decide) :
    PS X (.Try body [.ExceptHandler (some (.Name x np)) (some n) [.Assign [.Name m p1] (.Name n p2) p3] pos'] [] [] pos) (fun D σ H => tb (wKeep X.K c i j D) D σ H) := by
  refine ⟨fun pins s σ H D I h => ?_⟩
  have ok := I.ok
  have fr0 : X.A.frames = some (X.env :: X.outer) := by rw [ok.frames, hs]
  refine wpAny_Try_except ?_
  have caught : ∀ u s', XE (X.tr (X.pn ++ pins) (fun e s₁ => wpAny (model X.prog X.w) X.A (noteFrame e X.env) (fun _ s₂ => wpAny (model X.prog X.w) X.A (setFlight e none) (fun _ s₃ =>
      wpAny (model X.prog X.w) X.A (handleBy e X.env [.ExceptHandler (some (.Name x np)) (some n) [.Assign [.Name m p1] (.Name n p2) p3] pos']) (SP X pins D) X.xe s₃) X.xe s₂) X.xe s₁)) (wKeep X.K c i j D) u s' →
      wpAny (model X.prog X.w) X.A (noteFrame u X.env) (fun _ s₂ => wpAny (model X.prog X.w) X.A (setFlight u none) (fun _ s₃ => wpAny (model X.prog X.w) X.A (handleBy u X.env [.ExceptHandler (some (.Name x np)) (some n) [.Assign [.Name m p1] (.Name n p2) p3] pos']) (SP X pins D) X.xe s₃) X.xe s₂) X.xe s' := by
    rintro u s' ⟨a, B, sI, pins', σ1, H1, cls, d, rfl, J', nb, up, sky, na, os, ag, hb1, go⟩
    have J : Inv X pins σ1 H1 sI := J'.ofTry ok
    have sky1 : Sky B (X.env :: X.outer) a (Zc cls d) X.env.locals s'.heap := by rw [← hs]; exact sky
    refine Sky.land Zc.steady fr0 hf sky1 fun h3 fl3 up3 => ?_
    have J3 : Inv X pins σ1 H1 { s' with heap := h3 } := J.landed nb fl3.1 (up.trans up3) os ag
    obtain ⟨oe3, vs3, he3, hz3, hd3⟩ := fl3.there
    have nfr : a ∉ frs (X.env :: X.outer) := fun hm => by
      obtain ⟨_, o', e', hnf⟩ := fl3.2.2.1.mem hm
      rw [he3] at e'
      cases e'
      exact hnf _ hd3
    have nL : a ≠ X.env.locals := fun z => nfr (List.mem_filterMap.mpr ⟨X.env, List.mem_cons_self, by rw [hf, z]⟩)
    have nF : a ∉ X.fs := fun hm => by
      obtain ⟨e, he, q⟩ := List.mem_filterMap.mp hm
      exact nfr (List.mem_filterMap.mpr ⟨e, List.mem_cons_of_mem _ he, q⟩)
    have gone : sI.heap.get? a = none := by
      cases q : sI.heap.get? a with
      | none => rfl
      | some o =>
        have z := nb a o q (by rw [hs]; exact nfr)
        rw [fl3.2.1] at z
        cases z
    have n0 : X.s_0.heap.get? a = none := by
      cases q : X.s_0.heap.get? a with
      | none => rfl
      | some o =>
        obtain ⟨o', z⟩ := J.base.there a o q (by rw [hex]; exact fun z => nomatch z)
        rw [gone] at z
        cases z
    have npn : ∀ p ∈ X.pn ++ pins, p.1 ≠ a := fun p hp z => by
      have q := (J.pin p hp).1
      rw [z, gone] at q
      cases q
    have S3 := J3.suite he3 hd3 na nL nF
    refine wpAny_handleBy_cons (codeAny_handlers_test ?_) (by intro q; cases q)
    have LT : PySem.W.Looks (model X.prog X.w) h3 (typeOf (.ref a)) cls := fun A Q E s k q => wpAny_typeOf_ref (k _ _ he3) (by rw [hz3.1]; exact q)
    have LM := PySem.W.exm_one (M := model X.prog X.w) J3.kIn LT hb1
    have test : ∀ {Q : Value → Shared → Prop} {E : Value → Shared → Prop}, Q c { s' with heap := h3 } → wpAny (model X.prog X.w) (X.A.mark (some (.ref a))) (eval (.Name x np) X.env) Q E { s' with heap := h3 } := fun {Q E} q => by
      obtain ⟨g1, g2, g3 | ⟨g3, g4, g5⟩⟩ := hc
      · exact ld_glob (X := X.suite a ((a, oe3) :: (X.pn ++ pins))) S3 g1 g3 q g2
      · exact ld_blt (X := X.suite a ((a, oe3) :: (X.pn ++ pins))) S3 g1 g3 g4 q g5 g2
    refine test (LM.here ?_)
    refine codeAny_handlers_suite_as ?_
    refine HandSPX.lands_againZ fl3 fun h4 fl4 up4 => ?_
    have J4 : Inv X pins σ1 H1 { s' with heap := h4 } := J.landed nb fl4.1 ((up.trans up3).trans up4) os ag
    obtain ⟨oe4, vs4, he4, hz4, hd4⟩ := fl4.there
    have S4 := J4.suite he4 hd4 na nL nF
    refine store_ok (X := X.suite a ((a, oe4) :: (X.pn ++ pins))) (v := .ref a) S4 hN hi (.inl hln) rfl (fun s5 S5 => ?_) (.inr hln)
    have il : i < σ1.length := by rw [S4.len]; exact (List.getElem?_eq_some_iff.mp hi).1
    have asg : PSs (X.suite a ((a, oe4) :: (X.pn ++ pins))) [.Assign [.Name m p1] (.Name n p2) p3] _ := pss_one (ps_set (i := j) hN hj (.inl hlm) (pe_var (i := i) hi (.inl hln) hd1 hd2) (hf := .inr hlm))
    refine wpAny_mono (asg.run [] s5 _ H1 { nx := fun σ' H' => H' = H1 ∧ σ' = (σ1.set i (some (.ref a))).set j (some (.ref a)), rt := fun _ _ => False } S5 ⟨.ref a, List.getElem?_set_self il, rfl, rfl⟩) (fun f s6 hsp => ?_) (fun _ _ z => False.elim z)
    cases f with
    | next =>
      obtain ⟨σ6, H6, S6, rfl, rfl⟩ := hsp
      have P6 : Inv X ((a, oe4) :: pins) ((σ1.set i (some (.ref a))).set j (some (.ref a))) H6 s6 := ⟨ok, S6.os, S6.bare, S6.base, S6.loc, S6.cell, S6.free, S6.freeC, fun p hp => S6.pin p (by
        have e : (X.suite a ((a, oe4) :: (X.pn ++ pins))).pn = (a, oe4) :: (X.pn ++ pins) := rfl
        rw [e, List.append_nil]
        rcases List.mem_append.mp hp with z | z
        · exact List.mem_cons_of_mem _ (List.mem_append_left _ z)
        · rcases List.mem_cons.mp z with z | z
          · rw [z]; exact List.mem_cons_self
          · exact List.mem_cons_of_mem _ (List.mem_append_right _ z)), S6.hok, S6.len⟩
      refine (?_ : wpAny (model X.prog X.w) X.A (do bindName X.env n .none; unbindBehindTheSuite X.env n pos') _ _ s6)
      refine gone_ok P6 hN hi hln fun s7 J7 => ?_
      exact ⟨_, _, gain J7 n0 npn hz4 ⟨_, hd4⟩, go a na⟩
    | brk => obtain ⟨_, _, _, q⟩ := hsp; exact False.elim q
    | cont => obtain ⟨_, _, _, q⟩ := hsp; exact False.elim q
    | ret u => obtain ⟨_, _, _, _, _, q⟩ := hsp; exact False.elim q
  refine wpAny_mono ((hb (wKeep X.K c i j D) (X.pn ++ pins) _ caught PassesOwn.looking).run [] s σ H D (I.toTry _) h) (fun f s1 hsp => ?_) (fun e s1 he => he)
  cases f with
  | next =>
    obtain ⟨σ', H', J', q⟩ := hsp
    exact wpAny_execs_nil ⟨σ', H', J'.ofTry ok, q⟩
  | brk =>
    obtain ⟨σ', H', J', q⟩ := hsp
    exact ⟨σ', H', J'.ofTry ok, q⟩
  | cont =>
    obtain ⟨σ', H', J', q⟩ := hsp
    exact ⟨σ', H', J'.ofTry ok, q⟩
  | ret u =>
    obtain ⟨v, σ', H', J', r, q⟩ := hsp
    exact ⟨v, σ', H', J'.ofTry ok, r, q⟩
end
end SL
set_option maxHeartbeats 2000000
namespace DL
open PySem PySem.Spec PyProof.Rows L2 LamX PySem.W SL
abbrev Fld := Option (Str × Int)
def ExD (H : Hp) (fld : Fld) (d : Option Addr) : Prop := match fld with
  | none => d = none
  | some (n, i) => ∃ dd, d = some dd ∧ H dd = some (.xd [(n, .int i)])
def Wish (T : List (Addr × Str)) (K : Frag) (mg : Str → Option Value) (M : Pl) (H : Hp) (st : DSt) (C : Str) (fld : Fld) (E : XK) : Prop :=
  ∀ (M' : Pl) (H' : Hp) (cls : Value) (d : Option Addr), Grow M H M' H' → RS T K M' st H' → mg C = some cls → ExD H' fld d → E cls d H'
theorem Wish.grow {T : List (Addr × Str)} {K : Frag} {mg : Str → Option Value} {M M1 : Pl} {H H1 : Hp} {st : DSt} {C : Str} {fld : Fld} {E : XK} (w : Wish T K mg M H st C fld E) (g : Grow M H M1 H1) : Wish T K mg M1 H1 st C fld E :=
  fun M' H' cls d g1 s m x => w M' H' cls d (g.trans g1) s m x
def spX (T : List (Addr × Str)) (K : Frag) (mg : Str → Option Value) (n : Nat) (C : Str) (gx : List D → DSt → Fld → Prop) : Sp := fun vs H _ E => vs.length = n ∧ ∃ M st ds fld, RS T K M st H ∧ RVs K M H ds vs ∧ gx ds st fld ∧ Wish T K mg M H st C fld E
def liftX (T : List (Addr × Str)) (K : Frag) (M0 : Pl) (H0 : Hp) (B : DEnv → DSt → Prop) (σ : L2.St) (H : Hp) : Prop := ∃ M r st, RS T K M st H ∧ RE K M H r σ ∧ Grow M0 H0 M H ∧ B r st
section
variable {T : List (Addr × Str)} {X : Cx} {M0 : Pl} {H0 : Hp} {s1 : Stmt} {rest a b : List Stmt} {F1 : DTS} {B B2 : DEnv → DSt → Prop} {c : Expr} {t : DTT} {pos : Pos}
theorem pss_no {ss : List Stmt} : PSs X ss (fun _ _ _ => False) := ⟨fun _ _ _ _ _ _ h => h.elim⟩
theorem x_last (h : PS X s1 (fun _ => liftX T X.K M0 H0 B)) : PSs X (s1 :: rest) (fun _ => liftX T X.K M0 H0 B) := PSs.imp (pss_cons h (pss_no (ss := rest))) fun D σ H z => z
theorem x_seq (h1 : DSt1 T X s1 F1) (h2 : PSs X rest (fun _ => liftX T X.K M0 H0 B)) : PSs X (s1 :: rest) (fun _ => liftX T X.K M0 H0 fun r st => F1 { nx := B, rt := fun _ _ => False } r st) :=
  PSs.imp (pss_cons h1 h2) fun D σ H ⟨M, r, st, s, re, g, h⟩ => ⟨M, r, st, _, s, re, h, fun M1 H1 σ1 r1 st1 g1 s1 re1 q => ⟨M1, r1, st1, s1, re1, g.trans g1, q⟩, fun _ _ _ _ _ _ _ _ q => q.elim, fun _ _ _ _ _ _ _ _ q => q.elim, fun _ _ _ _ _ _ _ _ q => q.elim⟩
theorem x_if (hc : DT T X c t) (ha : PSs X a (fun _ => liftX T X.K M0 H0 B)) : PS X (.If c a b pos) (fun _ => liftX T X.K M0 H0 fun r st => t r st fun v st1 => v = true ∧ B r st1) :=
  PS.imp (ps_if hc ha (pss_no (ss := b))) fun D σ H ⟨M, r, st, s, re, g, h⟩ => ⟨M, r, st, _, s, re, h, fun M1 H1 st1 v g1 s1 q => by
    obtain ⟨rfl, q⟩ := q
    rw [if_pos rfl]
    exact ⟨M1, r, st1, s1, re.grow g1, g.trans g1, q⟩⟩
end
def spIni (K : Frag) (n : Str) : Sp := fun vs H Q _ => ∃ (a C : Addr) (y : V), vs = [.ref a, y] ∧ OexC K C ∧ PySem.W.findIn K (.ref C) n = some none ∧ H a = some (exo a C none) ∧ ∀ dx, H dx = none → dx ≠ a → Q .non (upd (upd H dx (exd dx [(n, y)])) a (exo a C (some dx)))
section
variable {P : Program} {w : World} {K : Frag} {mg : Str → Option Value} {base : Heap}
theorem ini_ok {qual p0 p1 n : Str} {st : Stmt} {f : Addr} {fd : FuncData} {N : List Str} {x1 x2 x3 x4 x5 : Pos} (F : Fun K "__init__" qual st f fd) (S : FnScope N [p0, p1] (defScope st)) (eN : N = [p0, p1]) (eb : defBody st = [.Assign [.Attribute (.Name p0 x1) n x2] (.Name p1 x3) x4])
    (v0 : Vis (defScope st) p0) (v1 : Vis (defScope st) p1) (q0 : (p0 == ("__debug__" : Str)) = false ∧ (p0 == ("__classdict__" : Str)) = false) (q1 : (p1 == ("__debug__" : Str)) = false ∧ (p1 == ("__classdict__" : Str)) = false) : FnOk P w K mg base CX0 1 f fd [p0, p1] (spIni K n) := by
  refine F.ok S (fun vs H Q E h => ?_) fun cdv A outer s H vs Q E hr h => ?_
  · obtain ⟨a, C, y, rfl, _⟩ := h
    rfl
  · obtain ⟨a, C, y, rfl, oc, fn, ha, k⟩ := h
    subst eN
    rw [eb]
    refine ⟨_, pss_one (ps_ost (pe_var (i := 0) rfl v0 q0.1 q0.2) (pe_var (i := 1) rfl v1 q1.1 q1.2) (by rfl)), ?_⟩
    exact ⟨y, rfl, .ref a, rfl, a, C, rfl, oc, fn, .inl ⟨ha, fun dx n ne => k dx n ne⟩⟩
end
structure RaC (P : Program) (w : World) (K : Frag) (mg : Str → Option Value) (base : Heap) (C n : Str) : Prop where
  ex : ∃ (c f : Addr) (fd : FuncData) (ps : List Str), mg C = some (.ref c) ∧ OexC K c ∧ PySem.W.findIn K (.ref c) n = some none ∧ PySem.W.findIn K (.ref c) "__init__" = some (some (.ref f)) ∧ PySem.W.typeIn K (.ref f) = some (.type "function") ∧ FnOk P w K mg base CX0 1 f fd ps (spIni K n) ∧ Binds K fd ps []
section
variable {T : List (Addr × Str)} {X : Cx} {M0 : Pl} {H0 : Hp} {st0 : DSt} {C n : Str} {i : Int} {E : XK} {e : Expr} {f : DTE} {p pos rpos : Pos}
theorem x_raise (R : RaC X.prog X.w X.K X.mg X.base C n) (hc : X.calm = true) (tk : Takes X (fun cls d _ H => E cls d H)) (w : Wish T X.K X.mg M0 H0 st0 C (some (n, i)) E) (hr : Room 2 X.A) (hx : Passes CX0 X (fun _ _ _ => False)) (hg : Gl X C) (he : DE T X e f)
    (hdb : (C == ("__debug__" : Str)) = false := by decide) (hs : starEach [e] X.env = (false, eval e X.env) :: starEach [] X.env := by rfl) (hpl : (backTo pos (starEach [] X.env)).any (·.1) = false := by rfl) :
    PS X (.Raise (some (.Call (.Name C p) [e] [] pos)) none rpos) (fun _ => liftX T X.K M0 H0 fun r st => f r st fun d st1 => d = .int i ∧ st1 = st0) := by
  obtain ⟨c, fI, fd, ps, hm, oc, fn, iC, tI, F1, bd⟩ := R.ex
  refine PS.imp (ps_raise hc tk (pmk_oex oc iC tI F1 hr bd .nil hx hg hm (da_cons he da_nil hs) hdb hs hpl)) fun D σ H ⟨M, r, st, s, re, g, h⟩ => ?_
  refine ⟨M, r, st, fun ds st1 => match ds with | [d] => d = .int i ∧ st1 = st0 | _ => False, s, re, h, fun M1 H1 st1 ds vs g1 s1 r1 q => ?_⟩
  match ds, q with
  | [d], q =>
    obtain ⟨rfl, rfl⟩ := q
    obtain ⟨v, rfl, rv⟩ := r1.one
    cases rv
    refine ⟨by show 1 ≤ 1000; decide, fun a na => ⟨a, c, .int i, rfl, oc, fn, upd_same, fun dx ndx dne => ⟨rfl, dx, [(n, .int i)], upd_same, ?_, ?_, ?_⟩⟩⟩
    · rw [upd_ne dne, upd_same]
    · rw [upd_ne dne] at ndx
      exact ndx
    · have nd : H1 dx = none := by rw [upd_ne dne] at ndx; exact ndx
      have eh : upd (del (upd (upd (upd H1 a (exo a c none)) dx (exd dx [(n, .int i)])) a (exo a c (some dx))) a) dx (.xd [(n, .int i)]) = upd H1 dx (.xd [(n, .int i)]) := by
        funext b
        by_cases hb : b = dx
        · rw [hb, upd_same, upd_same]
        · rw [upd_ne hb, upd_ne hb]
          by_cases ha : b = a
          · rw [ha, del_same, na]
          · rw [del_ne ha, upd_ne ha, upd_ne hb, upd_ne ha]
      rw [eh]
      exact w M1 _ _ _ ((g.trans g1).trans (Grow.new s1.hid nd)) (s1.new nd) hm ⟨dx, rfl, upd_same⟩
end
structure FnH (P : Program) (w : World) (K : Frag) (mg : Str → Option Value) (base : Heap) (CX : CXT) (k : Nat) (f : Addr) (fd : FuncData) (ps : List Str) (sp : Sp) : Prop where
  len : ∀ vs H Q E, sp vs H Q E → vs.length = ps.length
  run : ∀ (A : Around) (outer : List Env) (s : Shared) (H : Hp) (args : Args) (us : List Value) (vs : List V) (Q : VK) (E : XK), A.guards = some [] → Room k A → Env0 P w K mg base A outer s H → BindsTo s fd args (ps.zip us) → Vals vs us → sp vs H Q E →
    codeAny (model P w) A (.call (.ref f) args) (CR CX outer P w H s Q E) s
section
variable {P : Program} {w : World} {K : Frag} {mg : Str → Option Value} {base : Heap}
theorem fnH_mk {x qual : Str} {st : Stmt} {f : Addr} {fd : FuncData} {N ps : List Str} {k : Nat} {sp : Sp} (F : Fun K x qual st f fd) (S : FnScope N ps (defScope st)) (len : ∀ vs H Q E, sp vs H Q E → vs.length = ps.length)
    (body : ∀ (cdv : Value) (A : Around) (outer : List Env) (s : Shared) (H : Hp) (vs : List V) (Q : VK) (E : XK), A.guards = some [] → Room k (A.deeper (envOfC qual (defScope st) s.heap.objs.size f cdv)) → sp vs H Q E →
      ∃ t, PSs (cxOf (L2.CX P w) P w K mg base N qual (defScope st) f cdv A outer s H E) (defBody st) t ∧ t { nx := fun _ H' => Q .non H', rt := Q } (L2.start N vs) H) : FnH P w K mg base (L2.CX P w) (k + 1) f fd ps sp := by
  obtain ⟨oc, od, kV, doc, pm, an, cdv, ct, osl, rfl, lk, hcd⟩ := F.ex
  refine ⟨len, fun A outer s H args us vs Q E gd hr e0 hb r hsp => ?_⟩
  have hl := len _ _ _ _ hsp
  have KX : K.In s.heap := e0.mod.kin.keeps fun b o e => (e0.bs b o e).1
  have lim : s.heap.NoLimit := e0.mod.nolimit.keeps fun b o e => (e0.bs b o e).1
  refine codeAny_call_function hr.depth (KX _ _ lk) rfl S.co S.gen rfl (PySem.W.codeRec_of KX hcd) (hb _ _ _ _ ?_)
  refine wpAny_newFunctionEnv_cells S.kind (fun ⟨n, v⟩ hy => ?_) fun env he s1 x => ?_
  · rcases S.par n (List.of_mem_zip hy).1 with q | q
    · exact .inl q
    · exact .inr ⟨q, PySem.W.cellsFrom_some _ _ _ (.inl q)⟩
  subst he
  refine ⟨lim.keeps x.toInCall.keep, codeAny_func ?_⟩
  obtain ⟨t, ht, hq⟩ := body cdv A outer s H vs Q E gd (hr.deeper _) hsp
  have I : Inv (cxOf (L2.CX P w) P w K mg base N qual (defScope st) f cdv A outer s H E) [] (L2.start N vs) H s1 := inv_start S hr.hd e0 hl r x
  refine wpAny_mono (ht.run [] s1 (L2.start N vs) H _ I hq) (fun fl s' hs => ?_) fun e s' hs => hs
  cases fl with
  | ret u => obtain ⟨v, σ', H', J, rv, q⟩ := hs; exact ⟨v, H', J.os, J.bare, J.base, J.hok, rv, q⟩
  | next => obtain ⟨σ', H', J, q⟩ := hs; exact ⟨.non, H', J.os, J.bare, J.base, J.hok, rfl, q⟩
  | brk => obtain ⟨_, _, _, q⟩ := hs; exact False.elim q
  | cont => obtain ⟨_, _, _, q⟩ := hs; exact False.elim q
theorem pe_callH {X : Cx} {CX : CXT} {k : Nat} {f : Addr} {fd : FuncData} {ps : List Str} {sp : Sp} {x : Str} {p pos : Pos} {e : Expr} {es : List Expr} {t : TA} {E : XK}
    (F : FnH X.prog X.w X.K X.mg X.base CX k f fd ps sp) (gd : X.A.guards = some []) (hr : Room k X.A) (hg : Gl X x) (hm : X.mg x = some (.ref f)) (hk : PySem.W.keepIn X.K (.ref f) = true) (hb : Binds X.K fd ps []) (hx : Passes CX X E)
    (ha : PA X (e :: es) t) (hdb : (x == ("__debug__" : Str)) = false := by decide) (he : starEach (e :: es) X.env = (false, eval e X.env) :: starEach es X.env := by rfl) (hpl : (backTo pos (starEach es X.env)).any (·.1) = false := by rfl) :
    PE X (.Call (.Name x p) (e :: es) [] pos) (tCall sp [] E t) := by
  refine ⟨fun pins s σ H Q I h => ?_⟩
  refine wpAny_Call_Name_kw (ld_glob I hg hm ?_ hdb)
  refine PySem.W.callWith_K (h₀ := X.base) I.ok.mod.kin hk (thn (ha.run pos pins s σ H _ I h) fun us s1 ⟨vs, H1, I1, r, q⟩ => ⟨I1.kIn, ?_⟩) he hpl
  have q' : sp vs H1 Q E := by have z : sp (vs ++ []) H1 Q E := q; rw [List.append_nil] at z; exact z
  have hl : us.length = ps.length := by rw [← r.length]; exact F.len _ _ _ _ q'
  have bd' := hb s1 us I1.kIn (by rw [List.append_nil]; exact hl)
  rw [List.append_nil] at bd'
  refine wpAny_call (codeAny_mono (F.run X.A X.stack s1 H1 ⟨us, []⟩ us vs Q E gd hr I1.env0 bd' r q') fun r s' hq => ?_)
  cases r with
  | error e => exact hx pins σ H1 s1 e s' I1 hq
  | ok fl =>
    cases fl with
    | ret u => exact I1.after hq
    | next => exact False.elim hq
    | brk => exact False.elim hq
    | cont => exact False.elim hq
end
section
variable {P : Program} {w : World} {K : Frag} {mg : Str → Option Value} {base : Heap} {T : List (Addr × Str)}
structure FnX (P : Program) (w : World) (K : Frag) (mg : Str → Option Value) (base : Heap) (T : List (Addr × Str)) (k : Nat) (f : Addr) (fd : FuncData) (ps : List Str) (C : Str) (gx : List D → DSt → Fld → Prop) : Prop where
  fn : FnH P w K mg base (L2.CX P w) k f fd ps (spX T K mg ps.length C gx)
  ar : ∀ ds st fld, gx ds st fld → ds.length = ps.length
theorem fnX_mk {x qual : Str} {st : Stmt} {f : Addr} {fd : FuncData} {N ps : List Str} {k : Nat} {C : Str} {gx : List D → DSt → Fld → Prop} {B : DSt → Fld → DEnv → DSt → Prop} (F : Fun K x qual st f fd) (sc : FnScope N ps (defScope st)) (ar : ∀ ds st fld, gx ds st fld → ds.length = ps.length)
    (body : ∀ (cdv : Value) (A : Around) (outer : List Env) (s : Shared) (H : Hp) (E : XK) (M0 : Pl) (st0 : DSt) (fld : Fld), A.guards = some [] → Room k (A.deeper (envOfC qual (defScope st) s.heap.objs.size f cdv)) → Wish T K mg M0 H st0 C fld E → (∃ ds, gx ds st0 fld) →
      PSs (cxOf (L2.CX P w) P w K mg base N qual (defScope st) f cdv A outer s H E) (defBody st) (fun _ => liftX T K M0 H (B st0 fld)))
    (sem : ∀ ds st fld, gx ds st fld → B st fld (startD N.length ds) st) : FnX P w K mg base T (k + 1) f fd ps C gx := by
  refine ⟨fnH_mk F sc (fun vs H Q E h => h.1) (fun cdv A outer s H vs Q E gd room h => ?_), ar⟩
  obtain ⟨_, M, st0, ds, fld, rs, rv, hg, wish⟩ := h
  exact ⟨_, body cdv A outer s H E M st0 fld gd room wish ⟨ds, hg⟩, M, startD N.length ds, st0, rs, RE.start rv N, Grow.refl _ _, sem ds st0 fld hg⟩
end
end DL
set_option maxHeartbeats 2000000
namespace SL
open PySem PySem.Spec PyProof.Rows L2 LamX
def Kept (H : Hp) (a C : Addr) (d : Option Addr) : Prop := H a = some (ExK (.ref C) d a) ∧ (d = none ∨ ∃ dd fs, d = some dd ∧ H dd = some (.xd fs))
structure Kcl (K : PySem.W.Frag) (C : Addr) : Prop where
  is_ : ExcC K C
  xf : XfC K C
section
variable {X : Cx}
theorem kept_inst {pins : List (Addr × Obj)} {σ : L2.St} {H : Hp} {s : Shared} {a C : Addr} {d : Option Addr} (I : Inv X pins σ H s) (k : Kept H a C d) : ∃ (oe : Obj) (od : Option Obj), PySem.W.InstAt s.heap a oe C od ∧ (d = none → od = none) ∧ ∀ dd, d = some dd → ∃ o, od = some o ∧ s.heap.get? dd = some o := by
  obtain ⟨h1, h2⟩ := k
  obtain ⟨oe, vs, ho, hz, hd⟩ := exK_at I.hok h1
  have no : PySem.W.notCls oe = true := by unfold PySem.W.notCls; rw [hd]
  rcases h2 with rfl | ⟨dd, fs, rfl, h2⟩
  · exact ⟨oe, none, ⟨ho, hz.1, no, by rw [hz.2]; trivial⟩, fun _ => rfl, fun dd z => (nomatch z)⟩
  · have x : ObjOk X.prog X.w H s.heap dd (.xd fs) := I.hok dd _ h2
    obtain ⟨mA, hns, _⟩ := x
    obtain ⟨o, es, ep, e1, _⟩ := hns
    exact ⟨oe, some o, ⟨ho, hz.1, no, by rw [hz.2]; exact e1⟩, (fun z => by cases z), (fun d' z => by cases z; exact ⟨o, rfl, e1⟩)⟩
def rIsK (K : PySem.W.Frag) : List V → Hp → VK → Prop := fun xs H Q => ∃ (a C : Addr) (d : Option Addr) (c : V) (cv : Value) (b : Bool), xs = [.ref a, c] ∧ Kept H a C d ∧ (∀ u, RelV c u → u = cv) ∧ Kcl K C ∧ PySem.W.kitOne K (.ref C) cv = some b ∧ Q (.bl b) H
theorem call_isK : CallR X (.builtin "isinstance") (rIsK X.K) := by
  intro pins s σ H xs us Q I r h
  obtain ⟨a, C, d, c, cv, b, rfl, kp, hcv, kc, e, q⟩ := h
  cases r with
  | cons rx rr =>
    cases rr with
    | cons rt rr =>
      cases rr
      cases rx
      have ec := hcv _ rt
      subst ec
      obtain ⟨oe, od, J, _⟩ := kept_inst I kp
      obtain ⟨cd, hc, _⟩ := PySem.W.any_some kc.is_.hd
      exact PySem.W.kia_one (PySem.W.kitx_exc (by rw [hc]; rfl) kc.is_.hg kc.is_.hk kc.is_.hs kc.is_.ha kc.is_.hn kc.is_.ht kc.is_.hm) I.kIn J e (fun z => nomatch z) fun tk => ⟨.bl b, H, I.kept (t' := tk) fun _ _ z => z, rfl, q⟩
def tXk (K : PySem.W.Frag) (f : Str) (te : TE) : TE := fun σ H Q => te σ H fun x H1 => ∃ (a C dd : Addr) (fs : List (Str × V)) (v : V), x = .ref a ∧ H1 a = some (ExK (.ref C) (some dd) a) ∧ H1 dd = some (.xd fs) ∧ Kcl K C ∧ PySem.W.findIn K (.ref C) f = some none ∧ fs.lookup f = some v ∧ Q v H1
theorem pe_xk {e : Expr} {te : TE} {pos : Pos} {n : Str} (he : PE X e te) (hb : attributeBase e n X.env (eval e X.env) = eval e X.env := by rfl) : PE X (.Attribute e n pos) (tXk X.K n te) := by
  refine ⟨fun pins s σ H Q I h => ?_⟩
  refine attr_of hb (thn (he.run pins s σ H _ I h) fun u s1 hh => ?_)
  obtain ⟨x, H1, I1, rx, a, C, dd, fs, v, rfl, ka, hd, kc, hno, l, q⟩ := hh
  obtain rfl : u = Value.ref a := rx
  have hx : ObjOk X.prog X.w H1 s1.heap dd (.xd fs) := I1.hok dd _ hd
  obtain ⟨mA, hns, hr⟩ := hx
  obtain ⟨od, ho, hl⟩ := lookIn_ns hns
  obtain ⟨u, hu, ru⟩ := RelO.some_of (v := v) (o := mA n) (by rw [← l]; exact hr n)
  obtain ⟨oe, od', J, _, J2⟩ := kept_inst I1 (C := C) ⟨ka, .inr ⟨dd, fs, rfl, hd⟩⟩
  obtain ⟨o, rfl, ho'⟩ := J2 dd rfl
  rw [ho] at ho'
  cases ho'
  exact HandSPX.exc_get I1.kIn J kc.xf.ga kc.xf.gg kc.xf.exC (PySem.W.findObj_own kc.xf.hdC hno rfl (by rw [hl, hu])) (handed_of ru) ⟨v, H1, I1.tok _, ru, q⟩
structure Sit (σ : L2.St) (H : Hp) (a C : Addr) (d : Option Addr) (p : Addr) (xs : List V) : Prop where
  s1 : σ[1]? = some (some (.ref a))
  s2 : σ[2]? = some (some (.ref p))
  kept : Kept H a C d
  lst : H p = some (.lst xs)
  few : xs.length ≤ 9
theorem pe_no {e : Expr} : PE X e (fun _ _ _ => False) := ⟨fun _ _ _ _ _ _ h => h.elim⟩
section
variable {cN fN Cj lab fld : Str} {v1 : Vis X.env.scope cN} {q1 q2 q3 q4 q5 q6 q7 q8 q9 pos : Pos} {kk : Nat} {cj : Addr}
def tIsK (K : PySem.W.Frag) (c : V) : TE := fun σ H Q => ∃ (a C : Addr) (d : Option Addr) (cv : Value) (b : Bool), σ[1]? = some (some (.ref a)) ∧ Kept H a C d ∧ (∀ u, RelV c u → u = cv) ∧ Kcl K C ∧ PySem.W.kitOne K (.ref C) cv = some b ∧ Q (.bl b) H
theorem pe_isK {e2 : Expr} {c : V} (h1 : X.N[1]? = some cN) (v1 : Vis X.env.scope cN) (d1 : (cN == ("__debug__" : Str)) = false) (d2 : (cN == ("__classdict__" : Str)) = false) (gi : Gl X "isinstance") (mi : X.mg "isinstance" = none) (he : PE X e2 (tC c))
    (hs : starEach [.Name cN q2, e2] X.env = (false, eval (.Name cN q2) X.env) :: starEach [e2] X.env := by rfl) (hs2 : starEach [e2] X.env = (false, eval e2 X.env) :: starEach [] X.env := by rfl) (hpl : (backTo pos (starEach [e2] X.env)).any (·.1) = false := by rfl) :
    PE X (.Call (.Name "isinstance" q1) [.Name cN q2, e2] [] pos) (tIsK X.K c) :=
  DL.PE.imp (pe_callB call_isK gi mi (by decide +kernel) (pa_cons (pe_var (i := 1) h1 v1 d1 d2) (pa_cons he pa_nil hs2) hs) (by decide) (by decide) hs hpl) fun σ H Q ⟨a, C, d, cv, b, e1, kp, hcv, kc, e, q⟩ => ⟨.ref a, e1, a, C, d, c, cv, b, rfl, kp, hcv, kc, e, q⟩
end
end
end SL
set_option maxHeartbeats 2000000
namespace SL
open PySem PySem.Spec PyProof.Rows L2 LamX
section
variable {X : Cx} {pins : List (Addr × Obj)} {σ : L2.St} {H HZ : Hp} {s s1 : Shared} {W : WX} {E : XK}
theorem passes_at (tk : Takes X W) (I : Inv X pins σ H s) (hW : ∀ cls d H', E cls d H' → W cls d σ H') {e : Value} {s' : Shared} (c : L2.CX X.prog X.w X.stack H s E e s') : X.xe e s' :=
  tk e s' (XE.of_call I (fun cls d H' h => hW cls d H' h) c)
abbrev ctxG (X : Cx) (Ng : List Str) (qg : Str) (sg : Scope) (g : Addr) (cdg : Value) (s : Shared) (H : Hp) : Cx := cxOf C8.CX0 X.prog X.w X.K X.mg X.base Ng qg sg g cdg X.A X.stack s H C8.E0
theorem act_at {Ng : List Str} {qg : Str} {sg : Scope} {g f c' : Addr} {cdg pm ctv : Value} {params : Arguments} {body : Expr} {scope : Scope} {k : Nat} {a : Str} {pn : List (Addr × Obj)} {xe : Value → Shared → Prop} {tb : TE} {p1 p2 : Pos}
    (I : Inv X pins σ H s) (L : LamS X.env.scope scope) (hf : s.heap.get? f = some (PySem.W.kla_obj "<lambda>" (X.env.qual ++ "<lambda>") params body scope (cloFrom X.env.cells scope.names []) pm c' ctv)) (hfn : H f = none) (hfr : f ∉ frs X.stack)
    (hbind : bindArgs (PySem.W.kla_fn "<lambda>" (X.env.qual ++ "<lambda>") params body scope (cloFrom X.env.cells scope.names []) pm (.ref c') ctv) ⟨[], []⟩ = pure [])
    (tk : Takes ((ctxG X Ng qg sg g cdg s H).tr pn xe) W) (hr : Room (k + 1) (X.A.deeper (envOfC qg sg s.heap.objs.size g cdg)))
    (hbody : ∀ (A : Around) (outer : List Env) (s : Shared) (H : Hp), A.guards = X.A.guards → Room k (A.deeper (lamEnv X scope s.heap.objs.size f c')) → PE (lamCx X A outer s H E scope f c') body tb)
    (hN : Ng[0]? = some a) (hv : Vis sg a) (hd : (a == ("__debug__" : Str)) = false) (hcd : (a == ("__classdict__" : Str)) = false) :
    PE ((ctxG X Ng qg sg g cdg s H).tr pn xe) (.Call (.Name a p1) [] [] p2)
      (fun σZ HZ Q => σZ[0]? = some (some (.ref f)) ∧ HZ c' = some (CodeO c' (X.env.qual ++ "<lambda>")) ∧ (∀ cls d H', E cls d H' → W cls d σZ H') ∧ tb σ HZ Q) := by
  refine ⟨fun pinsZ sZ σZ HZ Q IZ h => ?_⟩
  obtain ⟨hs, hc, hW, ht⟩ := h
  refine wpAny_Call_Name_kw (thn ((pe_var (pos := p1) (i := 0) hN hv hd hcd).run pinsZ sZ σZ HZ (fun v H1 => v = .ref f ∧ H1 = HZ) IZ ⟨.ref f, hs, rfl, rfl⟩) fun u s1 ⟨v, H1, I1, r1, q1⟩ => ?_)
  obtain ⟨rfl, rfl⟩ := q1
  obtain rfl : u = Value.ref f := r1
  have of1 := I1.base.keep f _ hf hfn hfr (fun z => nomatch (show f ∈ ([] : List Addr) from z))
  refine PySem.W.callWith_F0 ⟨_, _, _, _, of1⟩ ?_
  obtain ⟨⟨oc, vs, t, hoc, hdc, hvc⟩, _, _⟩ := I1.hok c' _ hc
  have rc : codeAny (model X.prog X.w) (X.A.deeper (envOfC qg sg s.heap.objs.size g cdg)) (.call (.ref f) ⟨[], []⟩) (CR (L2.CX X.prog X.w) (envOfC qg sg s.heap.objs.size g cdg :: X.stack) X.prog X.w H1 s1 Q E) s1 := by
    refine PySem.W.kla_callFunE hr.depth of1 rfl L.co L.gen rfl ⟨c', oc, vs, t, rfl, hoc, hdc, hvc⟩ ?_
    rw [hbind]
    refine wpAny_pure (wpAny_newFunctionEnv (fun y hy => (L.own y hy).2) (fun y hy => absurd hy (by simp)) (fun h₁ hns hsb => ⟨I1.nolimit.fresh _ hsb, ?_⟩) L.kind)
    have J := lam_start2 (tk := s1.toks + ([] : List (Str × Value)).length) (E := E) (f := f) (c' := c') I L I1.env0 hr.hd I1.base hns fun b o e => hsb.extBut b o (Nat.ne_of_lt (Heap.lt_size e)) (Heap.get?_push_of_some _ e)
    refine PySem.W.kla_codeExpr (wpAny_mono ((hbody (X.A.deeper (envOfC qg sg s.heap.objs.size g cdg)) _ s1 H1 rfl (hr.deeper _)).run [] _ _ H1 Q J ht) (fun v s' hq => ?_) fun e s' hq => hq)
    obtain ⟨w', H', J', rv, q⟩ := hq
    exact ⟨w', H', J'.os, J'.bare, J'.base, J'.hok, rv, q⟩
  refine wpAny_call (codeAny_mono rc fun r s' hq => ?_)
  cases r with
  | error e => exact passes_at tk I1 hW hq
  | ok fl =>
    cases fl with
    | ret u => exact I1.after hq
    | next => exact False.elim hq
    | brk => exact False.elim hq
    | cont => exact False.elim hq
def GivesX (X : Cx) (Ng : List Str) (x : Str) (sg : Scope) (g : Addr) (cdg : Value) (bg : List Stmt) (a : Str) (q : Str) (TT : (XK → Hp → Prop) → Hp → VK → Prop) : Prop :=
  ∀ (f c' : Addr) (s : Shared) (H : Hp) (Q : VK) (tl : XK → Hp → Prop),
    (∀ (W : WX) (pn : List (Addr × Obj)) (xe : Value → Shared → Prop) (E : XK) (p1 p2 : Pos), Takes ((ctxG X Ng x sg g cdg s H).tr pn xe) W →
      PE ((ctxG X Ng x sg g cdg s H).tr pn xe) (.Call (.Name a p1) [] [] p2) (fun σZ HZ _ => σZ[0]? = some (some (.ref f)) ∧ HZ c' = some (CodeO c' q) ∧ (∀ cls d H', E cls d H' → W cls d σZ H') ∧ tl E HZ)) →
    H c' = some (CodeO c' q) → TT tl H Q →
    ∃ t, PSs (ctxG X Ng x sg g cdg s H).nox bg t ∧ t { nx := fun _ H' => Q .non H', rt := Q } (L2.start Ng [.ref f]) H
def tLamX (T : List (Addr × Str)) (TT : (XK → Hp → Prop) → Hp → VK → Prop) (t : XK → L2.St → Hp → Prop) : TE := fun σ H Q => Tabs T H ∧ ∀ H1, ExtN H H1 → Tabs T H1 → TT (fun E H' => t E σ H') H1 Q
theorem pe_lamX {T : List (Addr × Str)} {TT : (XK → Hp → Prop) → Hp → VK → Prop} {x a : Str} {g c P : Addr} {k : Nat} {pg : Arguments} {bg : List Stmt} {sg : Scope} {dV kV doc pm cdv ct oc : Value} {an od : Option Addr} {osl : Array (Option Value)} {Ng : List Str}
    {params : Arguments} {body : Expr} {scope : Scope} {t : XK → L2.St → Hp → Prop} {p lpos pos : Pos} (hg : Gl X x) (hm : X.mg x = some (.ref g)) (hk : PySem.W.keepIn X.K (.ref g) = true)
    (lk : X.K.lookup g = some ⟨oc, od, .func (PySem.W.fnOf x x pg bg sg dV kV doc pm an cdv ct), osl⟩) (hcg : PySem.W.codeIn X.K cdv x = true) (hb : L2.Binds X.K (PySem.W.fnOf x x pg bg sg dV kV doc pm an cdv ct) [a] []) (Sg : FnScope Ng [a] sg) (hNg : Ng[0]? = some a) (hva : Vis sg a)
    (hG : GivesX X Ng x sg g cdv bg a (X.env.qual ++ "<lambda>") TT)
    (TB : TabB X.base X.mg c P) (hcode : X.env.code = .ref c) (hmT : (P, X.env.qual ++ "<lambda>") ∈ T) (hu : ∀ p ∈ T, p.1 = P → p.2 = X.env.qual ++ "<lambda>") (hr : Room (k + 2) X.A) (L : LamS X.env.scope scope) (hdef : defaultsOf params X.env = ([], []))
    (hbind : ∀ (q : Str) (cl : List (Str × Addr)) (pm cv ctv : Value), bindArgs (PySem.W.kla_fn "<lambda>" q params body scope cl pm cv ctv) ⟨[], []⟩ = pure [])
    (hbody : ∀ (A : Around) (outer : List Env) (s : Shared) (H : Hp) (E : XK) (f c' : Addr), A.guards = X.A.guards → Room k (A.deeper (lamEnv X scope s.heap.objs.size f c')) → PE (lamCx X A outer s H E scope f c') body (fun σ H _ => t E σ H))
    (hdb : (x == ("__debug__" : Str)) = false := by decide) (hd : (a == ("__debug__" : Str)) = false := by decide) (hcd : (a == ("__classdict__" : Str)) = false := by decide) :
    PE X (.Call (.Name x p) [.Lambda params body scope lpos] [] pos) (tLamX T TT t) := by
  refine ⟨fun pins s σ H Q I h => ?_⟩
  obtain ⟨hT, h⟩ := h
  refine wpAny_Call_Name_kw (ld_glob I hg hm ?_ hdb)
  refine PySem.W.callWith_K (h₀ := X.base) I.ok.mod.kin hk ?_ (by rfl) (by rfl)
  show wpAny _ _ (spliced ((false, eval (.Lambda params body scope lpos) X.env) :: backTo pos (starEach [] X.env))) _ _ s
  refine Calls.spliced_cons (lam_make2 I TB hcode hmT hu hT hdef (L.has I.ok) fun f c' pm' ctv H1 s' I1 eN T1 hf hfn hfr hco => ?_)
  refine Calls.spliced_nil ⟨I1.kIn, wpAny_call (codeAny_mono (run_ofS (N := Ng) (ps := [a]) (us := [.ref f]) (vs := [.ref f]) (CX := C8.CX0) (E := C8.E0) (Q := Q) lk hcg Sg hr I1.env0 (hb s' [.ref f] I1.kIn rfl) (.cons rfl .nil) rfl fun hr' => ?_) fun r s2 hq => ?_)⟩
  · obtain ⟨t', ht', hq'⟩ := hG f c' s' H1 Q (fun E H' => t E σ H') (fun W pn xe E p1 p2 tk => act_at I1 L hf hfn hfr (hbind _ _ _ _ _) tk hr' (fun A outer s H g hr2 => hbody A outer s H E f c' g hr2) hNg hva hd hcd) hco (h H1 eN T1)
    exact ⟨t', ht'.nox, hq'⟩
  · cases r with
    | error e => exact (show False from hq).elim
    | ok fl =>
      cases fl with
      | ret u => exact I1.after hq
      | next => exact False.elim hq
      | brk => exact False.elim hq
      | cont => exact False.elim hq
end
end SL
set_option maxHeartbeats 2000000
namespace SL
open PySem PySem.Spec PyProof.Rows L2 LamX
open DL (Fld PS.imp PSs.imp PE.imp)
def T1 (K : PySem.W.Frag) (C : Addr) : TS := fun D σ H => ∃ a d p q, Sit σ H a C d p [.ref q] ∧ Kcl K C ∧ D.rt (.ref q) H
def IsI (X : Cx) (c : V) (e : Expr) : Prop := PE X e (tIsK X.K c) ∧ ∀ whole, isTrue e X.env whole = (do let v ← whole; standAt e.pos; holding [v] (truthy v))
section
variable {X : Cx} {C : Addr} {lab : Str} {fld : Fld} {rest body : List Stmt} {pos q1 q2 q3 q4 q5 q6 q7 q8 q9 : Pos} {cN fN : Str} {e e2 : Expr} {c : V} {cv : Value}
end
section
variable {X : Cx} {C CS : Addr} {lab : Str} {fld : Fld}
end
end SL
set_option maxHeartbeats 2000000
namespace DL
open PySem PySem.Spec PyProof.Rows L2 LamX PySem.W SL
def shp : Option Str → Int → Fld
  | none, _ => none
  | some n, i => some (n, i)
abbrev DXs := List D → DSt → Fld → Prop
def tX (T : List (Addr × Str)) (K : Frag) (mg : Str → Option Value) (C : Str) (gx : DXs) (fs : DTA) (E : XK) (σ : L2.St) (H : Hp) : Prop :=
  ∃ M r st fld, RS T K M st H ∧ RE K M H r σ ∧ fs r st (fun ds st1 => st1 = st ∧ gx ds st fld) ∧ Wish T K mg M H st C fld E
section
variable {T : List (Addr × Str)} {X : Cx}
theorem lam_body {A : Around} {outer : List Env} {s : Shared} {H : Hp} {E : XK} {scope : Scope} {lf c' : Addr} {k : Nat} {f : Addr} {fd : FuncData} {ps : List Str} {C x : Str} {gx : DXs} {fs : DTA} {e : Expr} {es : List Expr} {p pos : Pos}
    (F : FnX X.prog X.w X.K X.mg X.base T k f fd ps C gx) (gd : (lamCx X A outer s H E scope lf c').A.guards = some []) (hr : Room k (lamCx X A outer s H E scope lf c').A) (hg : Gl (lamCx X A outer s H E scope lf c') x) (hm : X.mg x = some (.ref f)) (hk : PySem.W.keepIn X.K (.ref f) = true) (bd : Binds X.K fd ps []) (args : DA T (lamCx X A outer s H E scope lf c') (e :: es) fs)
    (hdb : (x == ("__debug__" : Str)) = false := by decide)
    (he : starEach (e :: es) (lamCx X A outer s H E scope lf c').env = (false, eval e (lamCx X A outer s H E scope lf c').env) :: starEach es (lamCx X A outer s H E scope lf c').env := by rfl) (hpl : (backTo pos (starEach es (lamCx X A outer s H E scope lf c').env)).any (·.1) = false := by rfl) :
    PE (lamCx X A outer s H E scope lf c') (.Call (.Name x p) (e :: es) [] pos) (fun σ H _ => tX T X.K X.mg C gx fs E σ H) :=
  PE.imp (pe_callH F.fn gd hr hg hm hk bd (passes_call (takes_of rfl rfl rfl rfl) (fun _ _ _ _ h => h)) args hdb he hpl) fun σ H Q ⟨M, r, st, fld, s, re, h, w⟩ => ⟨M, r, st, _, s, re, h, fun M1 H1 st1 ds vs g1 s1 r1 q => by
    obtain ⟨rfl, q⟩ := q
    show spX T X.K X.mg ps.length C gx (vs ++ []) H1 Q E
    rw [List.append_nil]
    exact ⟨by rw [← r1.length]; exact F.ar _ _ _ q, M1, st1, ds, fld, s1, r1, q, w.grow g1⟩⟩
end
end DL
set_option maxHeartbeats 2000000
namespace DL
open PySem PySem.Spec PyProof.Rows L2 LamX PySem.W SL
def clsMeth (st : Stmt) (i : Nat) : Stmt := match st with
  | .ClassDef _ _ _ body _ _ _ _ _ _ _ => body.getD i (.Pass ⟨0, 0, 0, 0⟩)
  | s => s
structure RefC (K : Frag) (mg : Str → Option Value) (C CS : Str) (sh : Option Str) (tests : List Str) : Prop where
  ex : ∃ c cs : Addr, mg C = some (.ref c) ∧ mg CS = some (.ref cs) ∧ exmOne K (.ref c) (.ref cs) = some true ∧ kitOne K (.ref c) (.type "ValueError") = some true ∧ Kcl K c ∧ (∀ n, sh = some n → findIn K (.ref c) n = some none) ∧
    ∀ t ∈ tests, ∃ ct : Addr, mg t = some (.ref ct) ∧ kitOne K (.ref c) (.ref ct) = some (decide (t = C))
structure RaI (K : Frag) (mg : Str → Option Value) (C n qual : Str) (st : Stmt) (ps : List Str) : Prop where
  ex : ∃ (c f : Addr) (fd : FuncData), mg C = some (.ref c) ∧ OexC K c ∧ findIn K (.ref c) n = some none ∧ findIn K (.ref c) "__init__" = some (some (.ref f)) ∧ typeIn K (.ref f) = some (.type "function") ∧ Fun K "__init__" qual st f fd ∧ Binds K fd ps []
theorem RaI.raC {P : Program} {w : World} {K : Frag} {mg : Str → Option Value} {base : Heap} {C n qual p0 p1 : Str} {st : Stmt} (R : RaI K mg C n qual st [p0, p1]) {N : List Str} {x1 x2 x3 x4 x5 : Pos} (S : FnScope N [p0, p1] (defScope st)) (eN : N = [p0, p1]) (eb : defBody st = [.Assign [.Attribute (.Name p0 x1) n x2] (.Name p1 x3) x4])
    (v0 : Vis (defScope st) p0) (v1 : Vis (defScope st) p1) (q0 : (p0 == ("__debug__" : Str)) = false ∧ (p0 == ("__classdict__" : Str)) = false) (q1 : (p1 == ("__debug__" : Str)) = false ∧ (p1 == ("__classdict__" : Str)) = false) : RaC P w K mg base C n := by
  obtain ⟨c, f, fd, m, oc, hn, hi, ht, F, b⟩ := R.ex
  exact ⟨c, f, fd, [p0, p1], m, oc, hn, hi, ht, ini_ok (x5 := x5) F S eN eb v0 v1 q0 q1, b⟩
section
variable {T : List (Addr × Str)} {X : Cx}
end
section
variable {K : Frag}
theorem kit_same {t : Value} : kitOne K t t = some true := by unfold kitOne; rw [if_pos (by simp)]
theorem kit_ref {c D : Addr} {b : Bool} (ne : c ≠ D) (h1 : hasDictIn K D = true) (h2 : typeIn K (.ref D) = some (.type "type")) (h3 : subIn K (.ref c) (.ref D) = some b) : kitOne K (.ref c) (.ref D) = some b := by
  have n2 : ((Value.ref c) == Value.ref D) = false := by
    cases h : ((Value.ref c) == Value.ref D) with
    | false => rfl
    | true => exact absurd (Value.ref.inj (beq_iff_eq.mp h)) ne
  have i1 : (clsIn K D).isSome = true := by
    unfold hasDictIn at h1
    cases h : clsIn K D with
    | none => rw [h] at h1; cases h1
    | some _ => rfl
  unfold kitOne
  rw [n2, if_neg Bool.false_ne_true]
  show (if ((clsIn K D).isSome && typeIn K (.ref D) == some (.type "type")) = true then subIn K (.ref c) (.ref D) else none) = some b
  rw [i1, h2, if_pos (by simp)]
  exact h3
theorem kit_ty {c : Addr} {T : String} {b : Bool} (hm : kitMeta T = true) (h3 : subIn K (.ref c) (.type T) = some b) : kitOne K (.ref c) (.type T) = some b := by
  have n2 : ((Value.ref c) == Value.type T) = false := by
    cases h : ((Value.ref c) == Value.type T) with
    | false => rfl
    | true => exact absurd (beq_iff_eq.mp h) (fun z => nomatch z)
  unfold kitOne
  rw [n2, if_neg Bool.false_ne_true]
  show (if kitMeta T = true then subIn K (.ref c) (.type T) else none) = some b
  rw [if_pos hm]
  exact h3
theorem exm_ref {c D : Addr} (hB : subIn K (.ref D) (.type "BaseException") = some true) (h1 : hasDictIn K D = true) (h2 : typeIn K (.ref D) = some (.type "type")) (h3 : subIn K (.ref c) (.ref D) = some true) : exmOne K (.ref c) (.ref D) = some true := by
  have i1 : (clsIn K D).isSome = true := by
    unfold hasDictIn at h1
    cases h : clsIn K D with
    | none => rw [h] at h1; cases h1
    | some _ => rfl
  unfold exmOne
  rw [hB, if_pos (by simp)]
  show (if ((clsIn K D).isSome && typeIn K (.ref D) == some (.type "type")) = true then subIn K (.ref c) (.ref D) else none) = some true
  rw [i1, h2, if_pos (by simp)]
  exact h3
def fInt : Fld → Int
  | none => 0
  | some (_, i) => i
theorem pass0x {X : Cx} : Passes CX0 X (fun _ _ _ => False) := fun _ _ _ _ _ _ _ h => h.elim
end
end DL
set_option maxHeartbeats 2000000
namespace DL
open PySem PySem.Spec PyProof.Rows L2 LamX PySem.W SL
section
variable {T : List (Addr × Str)} {X : Cx} {M0 : Pl} {H0 : Hp} {B : DEnv → DSt → Prop} {e : Expr} {pos : Pos}
abbrev XEx (T : List (Addr × Str)) (X : Cx) (M0 : Pl) (H0 : Hp) (e : Expr) (B : DEnv → DSt → Prop) : Prop := PE X e (fun σ H _ => liftX T X.K M0 H0 B σ H)
theorem x_call {k : Nat} {f : Addr} {fd : FuncData} {ps : List Str} {C x : Str} {gx : DXs} {fs : DTA} {es : List Expr} {p : Pos} {E : XK} {st0 : DSt} {fld : Fld}
    (F : FnX X.prog X.w X.K X.mg X.base T k f fd ps C gx) (gd : X.A.guards = some []) (tk : Takes X (fun cls d _ H => E cls d H)) (w : Wish T X.K X.mg M0 H0 st0 C fld E) (hr : Room k X.A) (hg : Gl X x) (hm : X.mg x = some (.ref f)) (hk : PySem.W.keepIn X.K (.ref f) = true) (bd : Binds X.K fd ps []) (args : DA T X (e :: es) fs)
    (hdb : (x == ("__debug__" : Str)) = false := by decide) (he : starEach (e :: es) X.env = (false, eval e X.env) :: starEach es X.env := by rfl) (hpl : (backTo pos (starEach es X.env)).any (·.1) = false := by rfl) :
    XEx T X M0 H0 (.Call (.Name x p) (e :: es) [] pos) (fun r st => fs r st fun ds st1 => st1 = st0 ∧ gx ds st0 fld) :=
  PE.imp (pe_callH F.fn gd hr hg hm hk bd (passes_call tk (fun _ _ _ _ h => h)) args hdb he hpl) fun σ H Q ⟨M, r, st, s, re, g, h⟩ => ⟨M, r, st, _, s, re, h, fun M1 H1 st1 ds vs g1 s1 r1 q => by
    obtain ⟨rfl, q⟩ := q
    show spX T X.K X.mg ps.length C gx (vs ++ []) H1 _ E
    rw [List.append_nil]
    exact ⟨by rw [← r1.length]; exact F.ar _ _ _ q, M1, st1, ds, fld, s1, r1, q, w.grow (g.trans g1)⟩⟩
theorem x_ret (h : XEx T X M0 H0 e B) : PS X (.Return (some e) pos) (fun _ => liftX T X.K M0 H0 B) := PS.imp (ps_ret h) fun _ _ _ z => z
theorem x_expr (h : XEx T X M0 H0 e B) (hs : swapsWith e none pos.line X.env = pure false := by rfl) : PS X (.Expr e pos) (fun _ => liftX T X.K M0 H0 B) := PS.imp (ps_expr h hs) fun _ _ _ z => z
theorem pg_no {Y : Cx} {tg : Expr} : PG Y tg (fun _ _ _ _ => False) := by
  constructor
  intros
  first | (exfalso; assumption) | (exact False.elim (by assumption))
theorem x_set {x : Str} {px : Pos} (h : XEx T X M0 H0 e B) (hs : swapsWith e (some (.Name x px)) pos.line X.env = pure false := by rfl) : PS X (.Assign [.Name x px] e pos) (fun _ => liftX T X.K M0 H0 B) :=
  ⟨fun pins s σ H D I hh => wpAny_Assign_Name (thn (h.run pins s σ H (fun _ _ => False) I hh) fun v s1 ⟨y, H1, I1, r1, q1⟩ => q1.elim) hs⟩
theorem x_asg {tg : Expr} (h : XEx T X M0 H0 e B) (hs : swapsWithSole [tg] e pos.line X.env = pure false := by rfl) (hw : swappedStores [tg] e X.env = pure none := by rfl) (h1 : (assignEach [tg] X.env).map (·.2) = [assign tg X.env] := by rfl) : PS X (.Assign [tg] e pos) (fun _ => liftX T X.K M0 H0 B) := PS.imp (ps_asg h pg_no hs hw h1) fun _ _ _ z => z
theorem x_arg {id : String} {x : Str} {p : Pos} {r : List V → Hp → VK → Prop} (hc : CallR X (.builtin id) r) (hg : Gl X x) (hm : X.mg x = none) (hv : bootBuiltins x = some (.builtin id)) (h : XEx T X M0 H0 e B) (hn : x ≠ "__name__" := by decide) (hdb : (x == ("__debug__" : Str)) = false := by decide)
    (he : starEach [e] X.env = (false, eval e X.env) :: starEach [] X.env := by rfl) (hpl : (backTo pos (starEach [] X.env)).any (·.1) = false := by rfl) : XEx T X M0 H0 (.Call (.Name x p) [e] [] pos) B :=
  PE.imp (pe_callB hc hg hm hv (pa_cons h pa_nil he) hn hdb he hpl) fun _ _ _ z => z
end
end DL
namespace SL
open PySem PySem.Spec PyProof.Rows L2 LamX DL
def TTone (C : Addr) (n : Str) (i : Int) : (XK → Hp → Prop) → Hp → VK → Prop := fun tl H Q =>
  tl (fun cls d H' => cls = .ref C ∧ (∃ dd, d = some dd ∧ H' dd = some (.xd [(n, .int i)])) ∧ ∀ b, H' b = none → Q (.int i) (upd H' b (ExK (.ref C) d b))) H
def T2 (K : PySem.W.Frag) (C : Addr) (n : Str) (i : Int) : TS := fun D σ H => ∃ a dd, σ[1]? = some (some (.ref a)) ∧ H a = some (ExK (.ref C) (some dd) a) ∧ H dd = some (.xd [(n, .int i)]) ∧ Kcl K C ∧ D.rt (.int i) H
section
variable {X : Cx} {C CS : Addr} {n : Str} {i : Int}
theorem one_gives {Ng : List Str} {x a q cN eN xN : Str} {sg : Scope} {g : Addr} {cdg : Value} {rest : List Stmt} {j1 : Nat} {p0 p3 p6 p7 p8 p9 r1 r2 r3 r4 r5 r6 : Pos} (hNg : Ng = [a, cN, eN]) (nd : Ng.Nodup)
    (lc : sg.names.lookup cN = some .local) (le : sg.names.lookup eN = some .local) (gx : sg.names.lookup xN = some .globalImplicit) (mx : X.mg xN = some (.ref CS)) (dx : (xN == ("__debug__" : Str)) = false)
    (de1 : (eN == ("__debug__" : Str)) = false) (de2 : (eN == ("__classdict__" : Str)) = false)
    (ke : PySem.W.exmOne X.K (.ref C) (.ref CS) = some true) (kc : Kcl X.K C)
    (hr : ∀ s H, PSs (ctxG X Ng x sg g cdg s H).nox rest (T2 X.K C n i)) :
    GivesX X Ng x sg g cdg (.Assign [.Name cN p0] (.Constant .none j1 p3) p6 ::
      .Try [.Expr (.Call (.Name a p7) [] [] p8) p9] [.ExceptHandler (some (.Name xN r1)) (some eN) [.Assign [.Name cN r2] (.Name eN r3) r4] r5] [] [] r6 :: rest) a q (TTone C n i) := by
  subst hNg
  intro f c' s H Q tl act hc h
  refine ⟨_, pss_cons (ps_set (i := 1) (X := (ctxG X [a, cN, eN] x sg g cdg s H).nox) nd rfl (.inl lc) pe_non (hf := .inr lc)) (pss_cons
    (ps_try_keep (X := (ctxG X [a, cN, eN] x sg g cdg s H).nox) (i := 2) (j := 1) (c := .ref CS) (tb := fun W D σ H => ∃ Ech : XK, (∀ cls d H', Ech cls d H' → W cls d σ H') ∧ σ[0]? = some (some (.ref f)) ∧ H c' = some (CodeO c' q) ∧ tl Ech H) rfl rfl rfl nd rfl le rfl lc (by decide) ⟨gx, dx, .inl mx⟩ (fun W pn xe tk _ => ?_) de1 de2) (hr s H)), ?_⟩
  · refine ⟨fun pins s' σ H' D I ⟨Ech, hW, h1, h2, h3⟩ => ?_⟩
    exact (pss_one (ps_expr (act W pn xe Ech p7 p8 tk))).run pins s' σ H' D I ⟨h1, h2, hW, h3⟩
  · refine ⟨_, fun cls d H' z => ?_, rfl, hc, h⟩
    obtain ⟨rfl, ⟨dd, rfl, hd⟩, go⟩ := z
    exact ⟨ke, fun b nb => ⟨b, dd, rfl, upd_same, by rw [upd_ne (ne_of_none hd nb)]; exact hd, kc, go b nb⟩⟩
end
end SL
set_option maxHeartbeats 2000000
namespace SL
open PySem PySem.Spec PyProof.Rows L2 LamX DL
section
variable {X : Cx} {C : Addr} {n : Str} {i : Int}
theorem t2_end {cN : Str} {r e1 e2 e4 : Expr} {c1 c2 : V} {v1 v2 : Value} {j0 : Nat} {q1 q2 q3 q4 q5 q6 q7 q8 q9 r1 r2 : Pos} (hc1 : X.N[1]? = some cN) (vc : Vis X.env.scope cN) (dc1 : (cN == ("__debug__" : Str)) = false) (dc2 : (cN == ("__classdict__" : Str)) = false)
    (h1 : IsI X c1 e1) (f1 : ∀ u, RelV c1 u → u = v1) (k1 : PySem.W.kitOne X.K (.ref C) v1 = some true) (h2 : IsI X c2 e2) (f2 : ∀ u, RelV c2 u → u = v2) (k2 : PySem.W.kitOne X.K (.ref C) v2 = some false) (hno : PySem.W.findIn X.K (.ref C) n = some none) :
    PSs X [.If (.Compare (.Name cN q1) [.Is] [.Constant .none j0 q2] q3) [.Return (some r) r1] [] r2,
      .Return (some (.IfExp (.BoolOp .And [e1, .UnaryOp .Not e2 q4] q5) (.Attribute (.Name cN q6) n q7) e4 q8)) q9] (T2 X.K C n i) :=
  PSs.imp (pss_cons (ps_if (pt_cmp (pc_isN (pe_var (i := 1) hc1 vc dc1 dc2))) (pss_no (ss := [.Return (some r) r1])) pss_nil)
    (pss_one (ps_ret (pe_ifExp (PW.pt (pw_and (pt_val h1.1 h1.2) (pw_and1 (pt_not (pt_val h2.1 h2.2))))) (pe_xk (pe_var (i := 1) hc1 vc dc1 dc2)) (pe_no (e := e4)))))) fun D σ H ⟨a, dd, s1, ka, hd, kc, g⟩ => by
    have kp : Kept H a C (some dd) := ⟨ka, .inr ⟨dd, _, rfl, hd⟩⟩
    refine ⟨.ref a, s1, false, rfl, ?_⟩
    show (if false = true then _ else _)
    rw [if_neg Bool.false_ne_true]
    refine ⟨a, C, some dd, v1, true, s1, kp, f1, kc, k1, true, rfl, ?_⟩
    show (if true = true then _ else _)
    rw [if_pos rfl]
    refine ⟨a, C, some dd, v2, false, s1, kp, f2, kc, k2, false, rfl, ?_⟩
    show (if true = true then _ else _)
    rw [if_pos rfl]
    refine ⟨.ref a, s1, a, C, dd, [(n, .int i)], .int i, rfl, ka, hd, kc, hno, ?_, g⟩
    simp
end
end SL
namespace DL
open PySem PySem.Spec PyProof.Rows L2 LamX PySem.W SL
def dRefI (n : Str) (gx : DXs) (fs : DTA) : DTE := fun r st Q => ∃ i, fs r st (fun ds st1 => st1 = st ∧ gx ds st (some (n, i))) ∧ Q (.int i) st
def TTi (C : Addr) (n : Str) : (XK → Hp → Prop) → Hp → VK → Prop := fun tl H Q => ∃ i, TTone C n i tl H Q
section
variable {T : List (Addr × Str)} {X : Cx}
theorem one_sem {C : Addr} {Cn n : Str} {gx : DXs} {fs : DTA} (hm : X.mg Cn = some (.ref C)) {σ : L2.St} {H : Hp} {Q : VK} (h : lift T X.K (dRefI n gx fs) σ H Q) : tLamX T (TTi C n) (tX T X.K X.mg Cn gx fs) σ H Q := by
  obtain ⟨M, r, st, Q', s, re, ⟨i, ha, hq⟩, k⟩ := h
  refine ⟨s.tabs, fun H1 ex t1 => ⟨i, ?_⟩⟩
  have g1 : Grow M H M H1 := grow_ext s ex
  have s1 : RS T X.K M st H1 := s.ext ex t1
  refine ⟨M, r, st, some (n, i), s1, re.grow g1, ha, fun M' H' cls d g s' m x => ?_⟩
  rw [hm] at m
  cases m
  exact ⟨rfl, x, fun b nb => k M' _ st (.int i) (.int i) ((g1.trans g).trans (Grow.new s'.hid nb)) (s'.new nb) (.int i) hq⟩
theorem de_tell1 {x a Cn n : Str} {gx : DXs} {fs : DTA} {st : Stmt} {g C : Addr} {fdg : FuncData} {Ng : List Str} {k : Nat} {params : Arguments} {body : Expr} {scope : Scope} {c Pt : Addr} {p lpos pos : Pos}
    (Fg : Fun X.K x x st g fdg) (bg : Binds X.K fdg [a] []) (mg_ : X.mg x = some (.ref g)) (hg : Gl X x) (Sg : FnScope Ng [a] (defScope st)) (hNg : Ng[0]? = some a) (hva : Vis (defScope st) a) (mC : X.mg Cn = some (.ref C))
    (hG : ∀ cdv i, GivesX X Ng x (defScope st) g cdv (defBody st) a (X.env.qual ++ "<lambda>") (TTone C n i))
    (TB : TabB X.base X.mg c Pt) (hcode : X.env.code = .ref c) (hmT : (Pt, X.env.qual ++ "<lambda>") ∈ T) (hu : ∀ p ∈ T, p.1 = Pt → p.2 = X.env.qual ++ "<lambda>") (hr : Room (k + 2) X.A) (L : LamS X.env.scope scope) (hdef : defaultsOf params X.env = ([], []))
    (hbind : ∀ (q : Str) (cl : List (Str × Addr)) (pm cv ctv : Value), bindArgs (kla_fn "<lambda>" q params body scope cl pm cv ctv) ⟨[], []⟩ = pure [])
    (hbody : ∀ (A : Around) (outer : List Env) (s : Shared) (H : Hp) (E : XK) (f c' : Addr), A.guards = X.A.guards → Room k (A.deeper (lamEnv X scope s.heap.objs.size f c')) → PE (lamCx X A outer s H E scope f c') body (fun σ H _ => tX T X.K X.mg Cn gx fs E σ H))
    (hdb : (x == ("__debug__" : Str)) = false := by decide) (hd : (a == ("__debug__" : Str)) = false := by decide) (hcd : (a == ("__classdict__" : Str)) = false := by decide) :
    DE T X (.Call (.Name x p) [.Lambda params body scope lpos] [] pos) (dRefI n gx fs) := by
  obtain ⟨oc, od, kV, doc, pm, an, cdv, ct, osl, rfl, lk, hcd'⟩ := Fg.ex
  exact PE.imp (pe_lamX (TT := TTi C n) hg mg_ Fg.kp lk hcd' bg Sg hNg hva (fun f c' s H Q tl act hc ⟨i, h⟩ => hG cdv i f c' s H Q tl act hc h) TB hcode hmT hu hr L hdef hbind hbody hdb hd hcd) fun σ H Q h => one_sem mC h
theorem x_lc {M0 : Pl} {H0 : Hp} {B : DEnv → DSt → Prop} {elt tg iter : Expr} {scope : Scope} {own : List (Str × Nat)} {pos : Pos} (hc : X.calm = true) (hN : X.N.Nodup) (h : XEx T X M0 H0 iter B) (ok : BlkOk X.N X.env.scope scope own) (hs : ∀ x, foldedSetIterable iter X.env x = pure x := by intro _; rfl) :
    XEx T X M0 H0 (.ListComp elt [⟨tg, iter, [], 0⟩] scope pos) B :=
  PE.imp (pe_lc hc hN (pi_seq h) ok (fun _ _ _ _ _ => pg_no) (fun _ _ _ _ _ => pts_nil) (fun _ _ _ _ _ => pe_no) hs) fun _ _ _ z => z
theorem x_maxDef {M0 : Pl} {H0 : Hp} {B : DEnv → DSt → Prop} {a b : Expr} {fb : DTE} {p pos kpos : Pos} (hu : X.A.units + 1 < cLine) (hc : X.calm = true) (hg : Gl X "max") (hm : X.mg "max" = none) (ha : XEx T X M0 H0 a B) (hb : DE T X b fb)
    (hs : starEach [a] X.env = (false, eval a X.env) :: starEach [] X.env := by rfl)
    (he : backTo pos (starEach [a] X.env) = (false, eval a X.env) :: backTo pos (starEach [] X.env) := by rfl) (hpl : (backTo pos (starEach [a] X.env)).any (·.1) = false := by rfl)
    (hall : (backToKw pos (keywordEach [⟨some "default", b, kpos⟩] X.env)).all (·.1.isSome) = true := by rfl) (hnone : (backToKw pos (keywordEach [⟨some "default", b, kpos⟩] X.env)).any (·.1.isNone) = false := by rfl) (hks : (backToKw pos (keywordEach [⟨some "default", b, kpos⟩] X.env)).filterMap (·.1) = [("default" : Str)] := by rfl) :
    XEx T X M0 H0 (.Call (.Name "max" p) [a] [⟨some "default", b, kpos⟩] pos) B :=
  PE.imp (pe_callBK (cr_maxDef hu hc) hg hm (by decide +kernel) (pa_cons ha pa_nil hs) (dk_cons hb dk_nil) (by decide) (by decide) he hpl hall hnone hks) fun _ _ _ z => z
end
end DL
namespace DL
open PySem PySem.Spec PyProof.Rows L2 LamX PySem.W SL
def F__law_all_refused (gx_distance_sum_TooFull : DXs) (gx_flows_TooFull : DXs) (gx_greatest_distance_TooFull : DXs) (gx_square_sum_TooFull : DXs) (gx_taken_TooFull : DXs) : DTS := (sSeq (sSet 2 (dLstN (daCons (dRefI "count" gx_flows_TooFull (daCons (dVar 0) daNil)) (daCons (dC .non) (daCons (dC .non) (daCons (dC .non) (daCons (dC .non) daNil))))))) (sSeq (sAsg (dRefI "count" gx_taken_TooFull (daCons (dVar 0) daNil)) (gSb (dVar 2) (dC (.int 1)))) (sSeq (sAsg (dRefI "count" gx_distance_sum_TooFull (daCons (dVar 0) daNil)) (gSb (dVar 2) (dC (.int 2)))) (sSeq (sAsg (dRefI "count" gx_greatest_distance_TooFull (daCons (dVar 0) daNil)) (gSb (dVar 2) (dC (.int 3)))) (sSeq (sAsg (dRefI "count" gx_square_sum_TooFull (daCons (dVar 0) daNil)) (gSb (dVar 2) (dC (.int 4)))) (sRet (dOp dEq (dCB dRepr (daCons (dVar 2) daNil)) (dCB dRepr (daCons (dOp dMul (dLst (daCons (dVar 1) daNil)) (dC (.int 5))) daNil)))))))))
def F__law_all_runs_refused (gx_run_distance_sum_TooFull : DXs) (gx_run_flow_TooFull : DXs) (gx_run_greatest_TooFull : DXs) (gx_run_taken_TooFull : DXs) : DTS := (sSeq (sSet 2 (dLstN (daCons (dRefI "count" gx_run_flow_TooFull (daCons (dVar 0) (daCons (dC (.int 0)) daNil))) (daCons (dC .non) (daCons (dC .non) (daCons (dC .non) daNil)))))) (sSeq (sAsg (dRefI "count" gx_run_taken_TooFull (daCons (dVar 0) (daCons (dC (.int 0)) daNil))) (gSb (dVar 2) (dC (.int 1)))) (sSeq (sAsg (dRefI "count" gx_run_distance_sum_TooFull (daCons (dVar 0) daNil)) (gSb (dVar 2) (dC (.int 2)))) (sSeq (sAsg (dRefI "count" gx_run_greatest_TooFull (daCons (dVar 0) daNil)) (gSb (dVar 2) (dC (.int 3)))) (sRet (dOp dEq (dCB dRepr (daCons (dVar 2) daNil)) (dCB dRepr (daCons (dOp dMul (dLst (daCons (dVar 1) daNil)) (dC (.int 4))) daNil))))))))
def FX_require_room_TooFull (st0 : DSt) (fld : Fld) : DEnv → DSt → Prop := fun r st => ((sSet 1 (dCB dSum (daCons (dLcG (wSeq (dVar 0)) (gTp 2 (gsCons (gNm 2) (gsCons (gNm 3) gsNil))) dtYes (dOp dMul (dVar 2) (dVar 3)) [2, 3] finT) daNil))) { nx := fun r st => ((dTest (dOp dGt (dVar 1) (dCB dSum (daCons (dLcG (wSeq (dVar 0)) (gTp 2 (gsCons (gNm 2) (gsCons (gNm 3) gsNil))) dtYes (dVar 2) [2, 3] finT) daNil)))) r st fun v st1 => v = true ∧ (dVar 1) r st1 fun d st2 => d = .int (fInt fld) ∧ st2 = st0), rt := fun _ _ => False } r st)
def FX_flows_behind_TooFull (gx_require_room_TooFull : DXs) (st0 : DSt) (fld : Fld) : DEnv → DSt → Prop := fun r st => ((daCons (dVar 0) daNil) r st fun ds st1 => st1 = st0 ∧ gx_require_room_TooFull ds st0 fld)
def FX_coming_to_TooFull (gx_flows_behind_TooFull : DXs) (st0 : DSt) (fld : Fld) : DEnv → DSt → Prop := fun r st => ((daCons (dVar 0) daNil) r st fun ds st1 => st1 = st0 ∧ gx_flows_behind_TooFull ds st0 fld)
def FX_flows_TooFull (gx_flows_behind_TooFull : DXs) (st0 : DSt) (fld : Fld) : DEnv → DSt → Prop := fun r st => ((daCons (dLcG (wSeq (dVar 0)) (gNm 1) dtYes (dTup (daCons (dC (.int 1)) (daCons (dVar 1) daNil))) [1] finT) daNil) r st fun ds st1 => st1 = st0 ∧ gx_flows_behind_TooFull ds st0 fld)
def FX_run_distance_sum_TooFull (gx_flows_behind_TooFull : DXs) (st0 : DSt) (fld : Fld) : DEnv → DSt → Prop := fun r st => ((daCons (dVar 0) daNil) r st fun ds st1 => st1 = st0 ∧ gx_flows_behind_TooFull ds st0 fld)
def FX_run_greatest_TooFull (gx_flows_behind_TooFull : DXs) (st0 : DSt) (fld : Fld) : DEnv → DSt → Prop := fun r st => ((daCons (dVar 0) daNil) r st fun ds st1 => st1 = st0 ∧ gx_flows_behind_TooFull ds st0 fld)
def FX_distance_sum_TooFull (gx_flows_TooFull : DXs) (st0 : DSt) (fld : Fld) : DEnv → DSt → Prop := fun r st => ((daCons (dVar 0) daNil) r st fun ds st1 => st1 = st0 ∧ gx_flows_TooFull ds st0 fld)
def FX_run_flow_TooFull (gx_coming_to_TooFull : DXs) (st0 : DSt) (fld : Fld) : DEnv → DSt → Prop := fun r st => ((daCons (dVar 0) (daCons (dVar 1) daNil)) r st fun ds st1 => st1 = st0 ∧ gx_coming_to_TooFull ds st0 fld)
def FX_run_taken_TooFull (gx_coming_to_TooFull : DXs) (st0 : DSt) (fld : Fld) : DEnv → DSt → Prop := fun r st => ((daCons (dVar 0) (daCons (dVar 1) daNil)) r st fun ds st1 => st1 = st0 ∧ gx_coming_to_TooFull ds st0 fld)
def FX_taken_TooFull (gx_flows_TooFull : DXs) (st0 : DSt) (fld : Fld) : DEnv → DSt → Prop := fun r st => ((daCons (dVar 0) daNil) r st fun ds st1 => st1 = st0 ∧ gx_flows_TooFull ds st0 fld)
def FX_waits_TooFull (gx_flows_TooFull : DXs) (st0 : DSt) (fld : Fld) : DEnv → DSt → Prop := fun r st => ((daCons (dVar 0) daNil) r st fun ds st1 => st1 = st0 ∧ gx_flows_TooFull ds st0 fld)
def FX_greatest_distance_TooFull (gx_waits_TooFull : DXs) (st0 : DSt) (fld : Fld) : DEnv → DSt → Prop := fun r st => ((daCons (dVar 0) daNil) r st fun ds st1 => st1 = st0 ∧ gx_waits_TooFull ds st0 fld)
def FX_square_sum_TooFull (gx_waits_TooFull : DXs) (st0 : DSt) (fld : Fld) : DEnv → DSt → Prop := fun r st => ((daCons (dVar 0) daNil) r st fun ds st1 => st1 = st0 ∧ gx_waits_TooFull ds st0 fld)
def F__law_right_v23 (g_flows : DRs) (g_taken : DRs) (g_distance_sum : DRs) (g_greatest_distance : DRs) (g_square_sum : DRs) (g__law_take : DRs) (g__law_pick : DRs) (g__law_all_refused : DRs) (g__law_all_runs_refused : DRs) : DTS := (sSeq (sFor (wRng1 (daCons (dC (.int 6)) daNil)) (gNm 1) (sSeq (sSet 2 (dOp dAdd (dC (.int 1)) (dCB g__law_take (daCons (dVar 0) (daCons (dC (.int 64)) daNil))))) (sSeq (sPar 3 4 (daCons (dCB g__law_take (daCons (dVar 0) (daCons (dVar 2) daNil))) (daCons (dOp dAdd (dC (.int 1)) (dCB g__law_pick (daCons (dVar 0) (daCons (dLst (daCons (dC (.int 0)) (daCons (dCB g__law_take (daCons (dVar 0) (daCons (dC (.int 9)) daNil))) (daCons (dOp dPow (dC (.int 10)) (dC (.int 30))) daNil)))) daNil)))) daNil))) (sSeq (sSet 5 (dOp dAdd (dOp dAdd (dOp dMulT (dTup (daCons (dC (.int 0)) daNil)) (dVar 3)) (dTup (daCons (dVar 2) daNil))) (dOp dMulT (dTup (daCons (dC (.int 0)) daNil)) (dOp dSub (dOp dSub (dVar 2) (dVar 3)) (dC (.int 1)))))) (sSeq (sIf (dtOr (dTest (dOp dNe (dCB g_taken (daCons (dVar 5) daNil)) (dCB dTuple (daCons (dLRg1 finT (dVar 2)) daNil)))) (dTest (dOp dNe (dCB g_greatest_distance (daCons (dVar 5) daNil)) (dOp dSub (dVar 2) (dC (.int 1)))))) (sRet (dC (.bl false))) sNext) (sSeq (sSet 6 (dCB dSum (daCons (dLcG (wRng1 (daCons (dVar 2) daNil)) (gNm 8) dtYes (dOp dMul (dVar 8) (dVar 8)) [8] finT) daNil))) (sSeq (sIf (dTest (dOp dNe (dLst (daCons (dCB g_distance_sum (daCons (dVar 5) daNil)) (daCons (dCB g_square_sum (daCons (dVar 5) daNil)) daNil))) (dLst (daCons (dOp dDiv (dOp dMul (dVar 2) (dOp dSub (dVar 2) (dC (.int 1)))) (dC (.int 2))) (daCons (dVar 6) daNil))))) (sRet (dC (.bl false))) sNext) (sSeq (sIf (dtNot (dTest (dCB g__law_all_refused (daCons (dOp dAdd (dOp dAdd (dSlG finT (dVar 5) oNone (oSome (dVar 3))) (dTup (daCons (dOp dAdd (dVar 2) (dVar 4)) daNil))) (dSlG finT (dVar 5) (oSome (dOp dAdd (dVar 3) (dC (.int 1)))) oNone)) (daCons (dOp dAdd (dVar 2) (dVar 4)) daNil))))) (sRet (dC (.bl false))) sNext) (sSeq (sIf (dtNot (dTest (dCB g__law_all_runs_refused (daCons (dTup (daCons (dTup (daCons (dVar 2) (daCons (dC (.int 1)) daNil))) (daCons (dTup (daCons (dC (.int 1)) (daCons (dOp dAdd (dVar 4) (dC (.int 1))) daNil))) daNil))) (daCons (dOp dAdd (dOp dAdd (dVar 2) (dVar 4)) (dC (.int 1))) daNil))))) (sRet (dC (.bl false))) sNext) (sSeq (sSet 7 (dOp dMulT (dTup (daCons (dC (.int 1)) daNil)) (dVar 2))) (sIf (dtOr (dTest (dOp dNe (dCB g_flows (daCons (dVar 7) daNil)) (dOp dMulT (dTup (daCons (dC (.int 0)) daNil)) (dVar 2)))) (dtOr (dTest (dOp dNe (dCB g_square_sum (daCons (dVar 7) daNil)) (dC (.int 0)))) (dTest (dOp dNe (dCB dLen (daCons (dCB g_taken (daCons (dVar 7) daNil)) daNil)) (dVar 2))))) (sRet (dC (.bl false))) sNext))))))))))) (sRet (dC (.bl true))))
end DL
namespace DL
open PySem PySem.Spec PyProof.Rows L2 LamX PySem.W SL
structure Over (rs : List (Int × Int)) (k : Int) : Prop where
  few : rs.length ≤ 1000
  sm : ∀ p ∈ rs, Small p.1
  ks : (rs.map fun p => p.1 * p.2).sum = k
  over : (rs.map fun p => p.1).sum < k
def gxRun : DXs := fun ds st fld => ∃ (d : D) (rs : List (Int × Int)) (k : Int), ds = [d] ∧ Runs rs d ∧ Over rs k ∧ fld = some (("count" : Str), k)
def gxRun2 : DXs := fun ds st fld => ∃ (d x : D) (rs : List (Int × Int)) (k : Int), ds = [d, x] ∧ Runs rs d ∧ Over rs k ∧ fld = some (("count" : Str), k)
def gxCnt : DXs := fun ds st fld => ∃ (c : List Int) (k : Int), ds = [rowD c] ∧ c.length ≤ 1000 ∧ c.sum = k ∧ (c.length : Int) < k ∧ fld = some (("count" : Str), k)
theorem ar_run (ds : List D) (st : DSt) (fld : Fld) (h : gxRun ds st fld) : ds.length = 1 := by
  obtain ⟨_, _, _, rfl, _⟩ := h
  rfl
theorem ar_run2 (ds : List D) (st : DSt) (fld : Fld) (h : gxRun2 ds st fld) : ds.length = 2 := by
  obtain ⟨_, _, _, _, rfl, _⟩ := h
  rfl
theorem ar_cnt (ds : List D) (st : DSt) (fld : Fld) (h : gxCnt ds st fld) : ds.length = 1 := by
  obtain ⟨_, _, rfl, _⟩ := h
  rfl
theorem sh_run (ds : List D) (st : DSt) (fld : Fld) (h : gxRun ds st fld) : ∃ i, fld = shp (some "count") i := by
  obtain ⟨_, _, k, _, _, _, rfl⟩ := h
  exact ⟨k, rfl⟩
theorem sh_run2 (ds : List D) (st : DSt) (fld : Fld) (h : gxRun2 ds st fld) : ∃ i, fld = shp (some "count") i := by
  obtain ⟨_, _, _, k, _, _, _, rfl⟩ := h
  exact ⟨k, rfl⟩
theorem sh_cnt (ds : List D) (st : DSt) (fld : Fld) (h : gxCnt ds st fld) : ∃ i, fld = shp (some "count") i := by
  obtain ⟨_, k, _, _, _, _, rfl⟩ := h
  exact ⟨k, rfl⟩
theorem sem_xroom (ds : List D) (st : DSt) (fld : Fld) (h : gxRun ds st fld) : FX_require_room_TooFull st fld (startD 4 ds) st := by
  obtain ⟨d, rs, k, rfl, hd, O, rfl⟩ := h
  have st4 : startD 4 [d] = [some d, none, none, none] := rfl
  have big : (1000 : Nat) ≤ sizeLine := by decide
  have few := O.few
  have ks := O.ks
  have ov := O.over
  simp only [FX_require_room_TooFull, st4, e_var, e_C, e_op, e_neg, e_isN, e_notN, e_and, e_or, e_not, e_test, e_tAnd, e_tOr, e_tNot, e_tYes, e_if, e_aNil, e_aCons, e_tup, e_lst, e_lstN, e_len0, e_len1, e_len2, e_len3, e_len4, e_len5, e_cb, e_on1, e_on2, e_onI, e_onB, e_onO, e_onO0, e_onOO, e_I0, e_I, e_add, e_addT, e_addS, e_addL, e_addLR, e_addRL, e_addRR, e_mul, e_mulL, e_mulT, e_rev, e_revT, e_ix, e_eqI, e_eqS, e_eqB, e_neI, e_neS, e_neB, e_ltI, e_chain, e_len, e_abs, e_2I, e_tuple1, e_tuple2, e_tuple3, e_listT, e_listN, e_allR, e_seqT, e_seqK, e_seqL, e_isi, e_isB, e_notB, e_truth, e_next, e_drop, e_ret, e_retN, e_ifS, e_set, e_asg, e_par, e_nm, e_gsN, e_gsC, e_gTpK, e_gTpL, e_sum, e_maxL, e_minL, e_maxDef, e_int, e_intB, e_aug, e_on3, e_par3, e_newK, e_getK, e_keyI, e_keyS, e_inK, e_ninK, e_putK, e_lenK, e_lstS, e_seqX, e_gTpT, e_oN, e_oS, e_sl, e_slT, e_slL, e_finT, e_finN, e_index, e_idxT, e_idxL, e_mIx, e_ixST, e_ixSL, e_mtL, e_w, e_w1, e_w2, e_wE, e_wZ, e_itK, e_itT, e_itL, e_itT2, e_itL2, e_lc, e_for, e_wipe0, e_wipe, e_okI, e_okR, e_gSb, List.getElem?_cons_zero, List.getElem?_cons_succ, List.set_cons_zero, List.set_cons_succ, hd.it, List.length_map]
  refine ⟨by omega, lc_pair pairD (fun p => .int (p.1 * p.2)) rs (fun p hp Q' k => ?_) ?_⟩
  · unfold pairD
    simp only [e_var, e_C, e_op, e_neg, e_isN, e_notN, e_and, e_or, e_not, e_test, e_tAnd, e_tOr, e_tNot, e_tYes, e_if, e_aNil, e_aCons, e_tup, e_lst, e_lstN, e_len0, e_len1, e_len2, e_len3, e_len4, e_len5, e_cb, e_on1, e_on2, e_onI, e_onB, e_onO, e_onO0, e_onOO, e_I0, e_I, e_add, e_addT, e_addS, e_addL, e_addLR, e_addRL, e_addRR, e_mul, e_mulL, e_mulT, e_rev, e_revT, e_ix, e_eqI, e_eqS, e_eqB, e_neI, e_neS, e_neB, e_ltI, e_chain, e_len, e_abs, e_2I, e_tuple1, e_tuple2, e_tuple3, e_listT, e_listN, e_allR, e_seqT, e_seqK, e_seqL, e_isi, e_isB, e_notB, e_truth, e_next, e_drop, e_ret, e_retN, e_ifS, e_set, e_asg, e_par, e_nm, e_gsN, e_gsC, e_gTpK, e_gTpL, e_sum, e_maxL, e_minL, e_maxDef, e_int, e_intB, e_aug, e_on3, e_par3, e_newK, e_getK, e_keyI, e_keyS, e_inK, e_ninK, e_putK, e_lenK, e_lstS, e_seqX, e_gTpT, e_oN, e_oS, e_sl, e_slT, e_slL, e_finT, e_finN, e_index, e_idxT, e_idxL, e_mIx, e_ixST, e_ixSL, e_mtL, e_w, e_w1, e_w2, e_wE, e_wZ, e_itK, e_itT, e_itL, e_itT2, e_itL2, e_lc, e_for, e_wipe0, e_wipe, e_okI, e_okR, e_gSb, List.getElem?_cons_zero, List.getElem?_cons_succ, List.set_cons_zero, List.set_cons_succ]
    refine ⟨rfl, k _ fun Q2 q2 => ?_⟩
    simp only [e_var, e_C, e_op, e_neg, e_isN, e_notN, e_and, e_or, e_not, e_test, e_tAnd, e_tOr, e_tNot, e_tYes, e_if, e_aNil, e_aCons, e_tup, e_lst, e_lstN, e_len0, e_len1, e_len2, e_len3, e_len4, e_len5, e_cb, e_on1, e_on2, e_onI, e_onB, e_onO, e_onO0, e_onOO, e_I0, e_I, e_add, e_addT, e_addS, e_addL, e_addLR, e_addRL, e_addRR, e_mul, e_mulL, e_mulT, e_rev, e_revT, e_ix, e_eqI, e_eqS, e_eqB, e_neI, e_neS, e_neB, e_ltI, e_chain, e_len, e_abs, e_2I, e_tuple1, e_tuple2, e_tuple3, e_listT, e_listN, e_allR, e_seqT, e_seqK, e_seqL, e_isi, e_isB, e_notB, e_truth, e_next, e_drop, e_ret, e_retN, e_ifS, e_set, e_asg, e_par, e_nm, e_gsN, e_gsC, e_gTpK, e_gTpL, e_sum, e_maxL, e_minL, e_maxDef, e_int, e_intB, e_aug, e_on3, e_par3, e_newK, e_getK, e_keyI, e_keyS, e_inK, e_ninK, e_putK, e_lenK, e_lstS, e_seqX, e_gTpT, e_oN, e_oS, e_sl, e_slT, e_slL, e_finT, e_finN, e_index, e_idxT, e_idxL, e_mIx, e_ixST, e_ixSL, e_mtL, e_w, e_w1, e_w2, e_wE, e_wZ, e_itK, e_itT, e_itL, e_itT2, e_itL2, e_lc, e_for, e_wipe0, e_wipe, e_okI, e_okR, e_gSb, List.getElem?_cons_zero, List.getElem?_cons_succ, List.set_cons_zero, List.set_cons_succ]
    exact ⟨.inl (O.sm p hp), q2⟩
  · simp only [e_var, e_C, e_op, e_neg, e_isN, e_notN, e_and, e_or, e_not, e_test, e_tAnd, e_tOr, e_tNot, e_tYes, e_if, e_aNil, e_aCons, e_tup, e_lst, e_lstN, e_len0, e_len1, e_len2, e_len3, e_len4, e_len5, e_cb, e_on1, e_on2, e_onI, e_onB, e_onO, e_onO0, e_onOO, e_I0, e_I, e_add, e_addT, e_addS, e_addL, e_addLR, e_addRL, e_addRR, e_mul, e_mulL, e_mulT, e_rev, e_revT, e_ix, e_eqI, e_eqS, e_eqB, e_neI, e_neS, e_neB, e_ltI, e_chain, e_len, e_abs, e_2I, e_tuple1, e_tuple2, e_tuple3, e_listT, e_listN, e_allR, e_seqT, e_seqK, e_seqL, e_isi, e_isB, e_notB, e_truth, e_next, e_drop, e_ret, e_retN, e_ifS, e_set, e_asg, e_par, e_nm, e_gsN, e_gsC, e_gTpK, e_gTpL, e_sum, e_maxL, e_minL, e_maxDef, e_int, e_intB, e_aug, e_on3, e_par3, e_newK, e_getK, e_keyI, e_keyS, e_inK, e_ninK, e_putK, e_lenK, e_lstS, e_seqX, e_gTpT, e_oN, e_oS, e_sl, e_slT, e_slL, e_finT, e_finN, e_index, e_idxT, e_idxL, e_mIx, e_ixST, e_ixSL, e_mtL, e_w, e_w1, e_w2, e_wE, e_wZ, e_itK, e_itT, e_itL, e_itT2, e_itL2, e_lc, e_for, e_wipe0, e_wipe, e_okI, e_okR, e_gSb, List.getElem?_cons_zero, List.getElem?_cons_succ, List.set_cons_zero, List.set_cons_succ, intsD_map]
    refine ⟨by omega, lc_pair pairD (fun p => .int p.1) rs (fun p hp Q' k => ?_) ?_⟩
    · unfold pairD
      simp only [e_var, e_C, e_op, e_neg, e_isN, e_notN, e_and, e_or, e_not, e_test, e_tAnd, e_tOr, e_tNot, e_tYes, e_if, e_aNil, e_aCons, e_tup, e_lst, e_lstN, e_len0, e_len1, e_len2, e_len3, e_len4, e_len5, e_cb, e_on1, e_on2, e_onI, e_onB, e_onO, e_onO0, e_onOO, e_I0, e_I, e_add, e_addT, e_addS, e_addL, e_addLR, e_addRL, e_addRR, e_mul, e_mulL, e_mulT, e_rev, e_revT, e_ix, e_eqI, e_eqS, e_eqB, e_neI, e_neS, e_neB, e_ltI, e_chain, e_len, e_abs, e_2I, e_tuple1, e_tuple2, e_tuple3, e_listT, e_listN, e_allR, e_seqT, e_seqK, e_seqL, e_isi, e_isB, e_notB, e_truth, e_next, e_drop, e_ret, e_retN, e_ifS, e_set, e_asg, e_par, e_nm, e_gsN, e_gsC, e_gTpK, e_gTpL, e_sum, e_maxL, e_minL, e_maxDef, e_int, e_intB, e_aug, e_on3, e_par3, e_newK, e_getK, e_keyI, e_keyS, e_inK, e_ninK, e_putK, e_lenK, e_lstS, e_seqX, e_gTpT, e_oN, e_oS, e_sl, e_slT, e_slL, e_finT, e_finN, e_index, e_idxT, e_idxL, e_mIx, e_ixST, e_ixSL, e_mtL, e_w, e_w1, e_w2, e_wE, e_wZ, e_itK, e_itT, e_itL, e_itT2, e_itL2, e_lc, e_for, e_wipe0, e_wipe, e_okI, e_okR, e_gSb, List.getElem?_cons_zero, List.getElem?_cons_succ, List.set_cons_zero, List.set_cons_succ]
      exact ⟨rfl, k _ fun Q2 q2 => q2⟩
    · simp only [e_var, e_C, e_op, e_neg, e_isN, e_notN, e_and, e_or, e_not, e_test, e_tAnd, e_tOr, e_tNot, e_tYes, e_if, e_aNil, e_aCons, e_tup, e_lst, e_lstN, e_len0, e_len1, e_len2, e_len3, e_len4, e_len5, e_cb, e_on1, e_on2, e_onI, e_onB, e_onO, e_onO0, e_onOO, e_I0, e_I, e_add, e_addT, e_addS, e_addL, e_addLR, e_addRL, e_addRR, e_mul, e_mulL, e_mulT, e_rev, e_revT, e_ix, e_eqI, e_eqS, e_eqB, e_neI, e_neS, e_neB, e_ltI, e_chain, e_len, e_abs, e_2I, e_tuple1, e_tuple2, e_tuple3, e_listT, e_listN, e_allR, e_seqT, e_seqK, e_seqL, e_isi, e_isB, e_notB, e_truth, e_next, e_drop, e_ret, e_retN, e_ifS, e_set, e_asg, e_par, e_nm, e_gsN, e_gsC, e_gTpK, e_gTpL, e_sum, e_maxL, e_minL, e_maxDef, e_int, e_intB, e_aug, e_on3, e_par3, e_newK, e_getK, e_keyI, e_keyS, e_inK, e_ninK, e_putK, e_lenK, e_lstS, e_seqX, e_gTpT, e_oN, e_oS, e_sl, e_slT, e_slL, e_finT, e_finN, e_index, e_idxT, e_idxL, e_mIx, e_ixST, e_ixSL, e_mtL, e_w, e_w1, e_w2, e_wE, e_wZ, e_itK, e_itT, e_itL, e_itT2, e_itL2, e_lc, e_for, e_wipe0, e_wipe, e_okI, e_okR, e_gSb, List.getElem?_cons_zero, List.getElem?_cons_succ, List.set_cons_zero, List.set_cons_succ, intsD_map]
      refine ⟨decide_eq_true ?_, ?_⟩
      · show (rs.map fun p => p.1).sum < (rs.map fun p => p.1 * p.2).sum
        omega
      · exact ⟨congrArg D.int ks, trivial⟩
theorem sem_xbehind (ds : List D) (st : DSt) (fld : Fld) (h : gxRun ds st fld) : FX_flows_behind_TooFull gxRun st fld (startD 5 ds) st := by
  obtain ⟨d, rs, k, rfl, hd, O, rfl⟩ := h
  exact ⟨rfl, d, rs, k, rfl, hd, O, rfl⟩
theorem sem_xdsum (ds : List D) (st : DSt) (fld : Fld) (h : gxRun ds st fld) : FX_run_distance_sum_TooFull gxRun st fld (startD 3 ds) st := by
  obtain ⟨d, rs, k, rfl, hd, O, rfl⟩ := h
  exact ⟨rfl, d, rs, k, rfl, hd, O, rfl⟩
theorem sem_xgreat (ds : List D) (st : DSt) (fld : Fld) (h : gxRun ds st fld) : FX_run_greatest_TooFull gxRun st fld (startD 1 ds) st := by
  obtain ⟨d, rs, k, rfl, hd, O, rfl⟩ := h
  exact ⟨rfl, d, rs, k, rfl, hd, O, rfl⟩
theorem sem_xcoming (ds : List D) (st : DSt) (fld : Fld) (h : gxRun2 ds st fld) : FX_coming_to_TooFull gxRun st fld (startD 6 ds) st := by
  obtain ⟨d, x, rs, k, rfl, hd, O, rfl⟩ := h
  exact ⟨rfl, d, rs, k, rfl, hd, O, rfl⟩
theorem sem_xrflow (ds : List D) (st : DSt) (fld : Fld) (h : gxRun2 ds st fld) : FX_run_flow_TooFull gxRun2 st fld (startD 4 ds) st := by
  obtain ⟨d, x, rs, k, rfl, hd, O, rfl⟩ := h
  exact ⟨rfl, d, x, rs, k, rfl, hd, O, rfl⟩
theorem sem_xrtaken (ds : List D) (st : DSt) (fld : Fld) (h : gxRun2 ds st fld) : FX_run_taken_TooFull gxRun2 st fld (startD 4 ds) st := by
  obtain ⟨d, x, rs, k, rfl, hd, O, rfl⟩ := h
  exact ⟨rfl, d, x, rs, k, rfl, hd, O, rfl⟩
theorem sem_xflows (ds : List D) (st : DSt) (fld : Fld) (h : gxCnt ds st fld) : FX_flows_TooFull gxRun st fld (startD 2 ds) st := by
  obtain ⟨c, k, rfl, few, ks, ov, rfl⟩ := h
  have st2 : startD 2 [rowD c] = [some (.tup (c.map D.int)), none] := rfl
  have big : (1000 : Nat) ≤ sizeLine := by decide
  simp only [FX_flows_TooFull, st2, e_var, e_C, e_op, e_neg, e_isN, e_notN, e_and, e_or, e_not, e_test, e_tAnd, e_tOr, e_tNot, e_tYes, e_if, e_aNil, e_aCons, e_tup, e_lst, e_lstN, e_len0, e_len1, e_len2, e_len3, e_len4, e_len5, e_cb, e_on1, e_on2, e_onI, e_onB, e_onO, e_onO0, e_onOO, e_I0, e_I, e_add, e_addT, e_addS, e_addL, e_addLR, e_addRL, e_addRR, e_mul, e_mulL, e_mulT, e_rev, e_revT, e_ix, e_eqI, e_eqS, e_eqB, e_neI, e_neS, e_neB, e_ltI, e_chain, e_len, e_abs, e_2I, e_tuple1, e_tuple2, e_tuple3, e_listT, e_listN, e_allR, e_seqT, e_seqK, e_seqL, e_isi, e_isB, e_notB, e_truth, e_next, e_seq, e_drop, e_ret, e_retN, e_ifS, e_set, e_asg, e_par, e_nm, e_gsN, e_gsC, e_gTpK, e_gTpL, e_sum, e_maxL, e_minL, e_maxDef, e_int, e_intB, e_aug, e_on3, e_par3, e_newK, e_getK, e_keyI, e_keyS, e_inK, e_ninK, e_putK, e_lenK, e_lstS, e_seqX, e_gTpT, e_oN, e_oS, e_sl, e_slT, e_slL, e_finT, e_finN, e_index, e_idxT, e_idxL, e_mIx, e_ixST, e_ixSL, e_mtL, e_w, e_w1, e_w2, e_wE, e_wZ, e_itK, e_itT, e_itL, e_itT2, e_itL2, e_lc, e_for, e_wipe0, e_wipe, e_okI, e_okR, e_gSb, List.getElem?_cons_zero, List.getElem?_cons_succ, List.set_cons_zero, List.set_cons_succ, List.length_map]
  refine ⟨by omega, lc_pair D.int (fun x => pairD (1, x)) c (fun x hx Q' k => ?_) ?_⟩
  · exact k _ fun Q2 q2 => by simp only [e_var, e_C, e_op, e_neg, e_isN, e_notN, e_and, e_or, e_not, e_test, e_tAnd, e_tOr, e_tNot, e_tYes, e_if, e_aNil, e_aCons, e_tup, e_lst, e_lstN, e_len0, e_len1, e_len2, e_len3, e_len4, e_len5, e_cb, e_on1, e_on2, e_onI, e_onB, e_onO, e_onO0, e_onOO, e_I0, e_I, e_add, e_addT, e_addS, e_addL, e_addLR, e_addRL, e_addRR, e_mul, e_mulL, e_mulT, e_rev, e_revT, e_ix, e_eqI, e_eqS, e_eqB, e_neI, e_neS, e_neB, e_ltI, e_chain, e_len, e_abs, e_2I, e_tuple1, e_tuple2, e_tuple3, e_listT, e_listN, e_allR, e_seqT, e_seqK, e_seqL, e_isi, e_isB, e_notB, e_truth, e_next, e_seq, e_drop, e_ret, e_retN, e_ifS, e_set, e_asg, e_par, e_nm, e_gsN, e_gsC, e_gTpK, e_gTpL, e_sum, e_maxL, e_minL, e_maxDef, e_int, e_intB, e_aug, e_on3, e_par3, e_newK, e_getK, e_keyI, e_keyS, e_inK, e_ninK, e_putK, e_lenK, e_lstS, e_seqX, e_gTpT, e_oN, e_oS, e_sl, e_slT, e_slL, e_finT, e_finN, e_index, e_idxT, e_idxL, e_mIx, e_ixST, e_ixSL, e_mtL, e_w, e_w1, e_w2, e_wE, e_wZ, e_itK, e_itT, e_itL, e_itT2, e_itL2, e_lc, e_for, e_wipe0, e_wipe, e_okI, e_okR, e_gSb, List.getElem?_cons_zero, List.getElem?_cons_succ, List.set_cons_zero, List.set_cons_succ]; exact q2
  · simp only [e_var, e_C, e_op, e_neg, e_isN, e_notN, e_and, e_or, e_not, e_test, e_tAnd, e_tOr, e_tNot, e_tYes, e_if, e_aNil, e_aCons, e_tup, e_lst, e_lstN, e_len0, e_len1, e_len2, e_len3, e_len4, e_len5, e_cb, e_on1, e_on2, e_onI, e_onB, e_onO, e_onO0, e_onOO, e_I0, e_I, e_add, e_addT, e_addS, e_addL, e_addLR, e_addRL, e_addRR, e_mul, e_mulL, e_mulT, e_rev, e_revT, e_ix, e_eqI, e_eqS, e_eqB, e_neI, e_neS, e_neB, e_ltI, e_chain, e_len, e_abs, e_2I, e_tuple1, e_tuple2, e_tuple3, e_listT, e_listN, e_allR, e_seqT, e_seqK, e_seqL, e_isi, e_isB, e_notB, e_truth, e_next, e_seq, e_drop, e_ret, e_retN, e_ifS, e_set, e_asg, e_par, e_nm, e_gsN, e_gsC, e_gTpK, e_gTpL, e_sum, e_maxL, e_minL, e_maxDef, e_int, e_intB, e_aug, e_on3, e_par3, e_newK, e_getK, e_keyI, e_keyS, e_inK, e_ninK, e_putK, e_lenK, e_lstS, e_seqX, e_gTpT, e_oN, e_oS, e_sl, e_slT, e_slL, e_finT, e_finN, e_index, e_idxT, e_idxL, e_mIx, e_ixST, e_ixSL, e_mtL, e_w, e_w1, e_w2, e_wE, e_wZ, e_itK, e_itT, e_itL, e_itT2, e_itL2, e_lc, e_for, e_wipe0, e_wipe, e_okI, e_okR, e_gSb, List.getElem?_cons_zero, List.getElem?_cons_succ, List.set_cons_zero, List.set_cons_succ]
    refine ⟨trivial, _, c.map fun x => (1, x), k, rfl, .inl (by rw [List.map_map]; rfl), ⟨by rw [List.length_map]; omega, fun p hp => ?_, ?_, ?_⟩, rfl⟩
    · obtain ⟨x, _, rfl⟩ := List.mem_map.mp hp
      exact ⟨by show (-(2 ^ 64) : Int) < 1; decide, by show (1 : Int) < 2 ^ 64; decide⟩
    · rw [List.map_map]
      have e1 : (c.map ((fun p : Int × Int => p.1 * p.2) ∘ fun x => (1, x))) = c := by
        refine (List.map_congr_left fun x _ => ?_).trans (List.map_id c)
        show (1 : Int) * x = id x
        simp
      rw [e1]
      exact ks
    · rw [List.map_map]
      have e2 : (c.map ((fun p : Int × Int => p.1) ∘ fun x => (1, x))) = c.map fun _ => (1 : Int) := rfl
      rw [e2, ML.sum_ones]
      exact ov
theorem sem_xdist (ds : List D) (st : DSt) (fld : Fld) (h : gxCnt ds st fld) : FX_distance_sum_TooFull gxCnt st fld (startD 1 ds) st := by
  obtain ⟨c, k, rfl, O⟩ := h
  exact ⟨rfl, c, k, rfl, O⟩
theorem sem_xtaken (ds : List D) (st : DSt) (fld : Fld) (h : gxCnt ds st fld) : FX_taken_TooFull gxCnt st fld (startD 3 ds) st := by
  obtain ⟨c, k, rfl, O⟩ := h
  exact ⟨rfl, c, k, rfl, O⟩
theorem sem_xwaits (ds : List D) (st : DSt) (fld : Fld) (h : gxCnt ds st fld) : FX_waits_TooFull gxCnt st fld (startD 4 ds) st := by
  obtain ⟨c, k, rfl, O⟩ := h
  exact ⟨rfl, c, k, rfl, O⟩
theorem sem_xgd (ds : List D) (st : DSt) (fld : Fld) (h : gxCnt ds st fld) : FX_greatest_distance_TooFull gxCnt st fld (startD 1 ds) st := by
  obtain ⟨c, k, rfl, O⟩ := h
  exact ⟨rfl, c, k, rfl, O⟩
theorem sem_xsq (ds : List D) (st : DSt) (fld : Fld) (h : gxCnt ds st fld) : FX_square_sum_TooFull gxCnt st fld (startD 2 ds) st := by
  obtain ⟨c, k, rfl, O⟩ := h
  exact ⟨rfl, c, k, rfl, O⟩
end DL
namespace DL
open PySem PySem.Spec PyProof.Rows L2 LamX PySem.W SL
end DL
namespace DL
open PySem PySem.Spec PyProof.Rows L2 LamX PySem.W SL
end DL
namespace DL
open PySem PySem.Spec PyProof.Rows L2 LamX PySem.W SL
theorem el_big {n : Nat} (h : n < 10 ^ 40) : El 0 100 (.int (n : Int)) := by
  refine ⟨?_, by simp [PyData.depth], ?_, by simp [PyData.canLay0]⟩
  · simp only [PyData.showable]
    refine decide_eq_true ?_
    show n.log2 < 1920
    by_cases z : n = 0
    · subst z; decide
    · exact (Nat.log2_lt z).mpr (Nat.lt_of_lt_of_le h (by decide +kernel))
  · simp only [PyData.shown]
    have z := PyProof.Rows.toString_length_le (v := (n : Int)) (k := 40) (by omega) (by decide) (by
      have e : ((10 : Int) ^ 40) = ((10 ^ 40 : Nat) : Int) := by decide +kernel
      rw [e]
      exact Int.ofNat_lt.mpr h)
    omega
theorem sm_big {k : Int} (h0 : 0 ≤ k) (h : k < 10 ^ 40) : Sm 0 100 (.int k) := by
  obtain ⟨n, rfl⟩ := Int.eq_ofNat_of_zero_le h0
  have e : ((10 : Int) ^ 40) = ((10 ^ 40 : Nat) : Int) := by decide +kernel
  rw [e] at h
  exact ⟨.int n, by simp [pdT], el_big (Int.ofNat_lt.mp h)⟩
theorem e_refI {n : Str} {gx : DXs} {fs : DTA} {r : DEnv} {st : DSt} {Q : DK} : dRefI n gx fs r st Q = ∃ i, fs r st (fun ds st1 => st1 = st ∧ gx ds st (some (n, i))) ∧ Q (.int i) st := rfl
def g_allRef : DRs := fun ds st Q => ∃ (c : List Int) (k : Int), ds = [rowD c, .int k] ∧ c.length ≤ 1000 ∧ c.sum = k ∧ (c.length : Int) < k ∧ Sm 0 100 (.int k) ∧ Q (.bl true) st
def g_allRuns : DRs := fun ds st Q => ∃ (d : D) (rs : List (Int × Int)) (k : Int), ds = [d, .int k] ∧ Runs rs d ∧ Over rs k ∧ Sm 0 100 (.int k) ∧ Q (.bl true) st
theorem ar_allRef (ds : List D) (st : DSt) (Q : DK) (h : g_allRef ds st Q) : ds.length = 2 := by
  obtain ⟨_, _, rfl, _⟩ := h
  rfl
theorem ar_allRuns (ds : List D) (st : DSt) (Q : DK) (h : g_allRuns ds st Q) : ds.length = 2 := by
  obtain ⟨_, _, _, rfl, _⟩ := h
  rfl
theorem sm_same {k : Int} {n : Nat} (h : Sm 0 100 (.int k)) : Sm 1 (n * 102 + 3) (.lst (List.replicate n (.int k))) := sm_lst (k := 0) (c := 100) (m := n) (fun d hd => by rw [List.eq_of_mem_replicate hd]; exact h) (by simp)
theorem set_own {st : DSt} {j : Nat} {d : D} {xs : List D} {P : DSt → Prop} (h : j < xs.length) (q : P (st ++ [.lst (xs.set j d)])) : setS (.ref st.length) (.int (j : Nat)) d (st ++ [.lst xs]) P := by
  rw [setS_ref (xs := xs) ownA]
  have e : ixN xs.length (j : Int) = some j := by
    unfold ixN
    first | simp [h] | (simp; omega)
  rw [e, e_onO, putA]
  exact q
theorem rep_same {st : DSt} {n m : Nat} {k : Int} {Q : DK} (sk : Sm 0 100 (.int k)) (e : n = m) (n5 : n ≤ 5) (q : Q (.bl true) st) : Rt st Q (.bl (decide (txt (.lst (List.replicate n (D.int k))) = txt (.lst (List.replicate m (D.int k)))))) (st ++ [.lst (List.replicate n (D.int k))]) := by
  subst e
  rw [decide_eq_true rfl]
  exact rt_drop rfl (by simp [DL.clo]) (fun i o h => .inl h) q
theorem sem_allRef (ds : List D) (st : DSt) (Q : DK) (h : g_allRef ds st Q) : F__law_all_refused gxCnt gxCnt gxCnt gxCnt gxCnt { nx := fun _ st' => Rt st Q .non st', rt := Rt st Q } (startD 3 ds) st := by
  obtain ⟨c, k, rfl, few, ks, ov, sk, q⟩ := h
  have st3 : startD 3 [rowD c, D.int k] = [some (rowD c), some (.int k), none] := rfl
  have big : (1000 : Nat) ≤ sizeLine := by decide
  simp only [F__law_all_refused, st3]
  try dsimp only
  rw [e_seq]
  try simp only [e_var, e_C, e_op, e_neg, e_isN, e_notN, e_and, e_or, e_not, e_test, e_tAnd, e_tOr, e_tNot, e_tYes, e_if, e_aNil, e_aCons, e_tup, e_lst, e_lstN, e_len0, e_len1, e_len2, e_len3, e_len4, e_len5, e_cb, e_on1, e_on2, e_onI, e_onB, e_onO, e_onO0, e_onOO, e_I0, e_I, e_add, e_addT, e_addS, e_addL, e_addLR, e_addRL, e_addRR, e_mul, e_mulL, e_mulT, e_rev, e_revT, e_ix, e_eqI, e_eqS, e_eqB, e_neI, e_neS, e_neB, e_ltI, e_chain, e_len, e_abs, e_2I, e_tuple1, e_tuple2, e_tuple3, e_listT, e_listN, e_allR, e_seqT, e_seqK, e_seqL, e_isi, e_isB, e_notB, e_truth, e_next, e_drop, e_ret, e_retN, e_ifS, e_set, e_asg, e_par, e_nm, e_gsN, e_gsC, e_gTpK, e_gTpL, e_sum, e_maxL, e_minL, e_maxDef, e_int, e_intB, e_aug, e_on3, e_par3, e_newK, e_getK, e_keyI, e_keyS, e_inK, e_ninK, e_putK, e_lenK, e_lstS, e_seqX, e_gTpT, e_oN, e_oS, e_sl, e_slT, e_slL, e_finT, e_finN, e_index, e_idxT, e_idxL, e_mIx, e_ixST, e_ixSL, e_mtL, e_w, e_w1, e_w2, e_wE, e_wZ, e_itK, e_itT, e_itL, e_itT2, e_itL2, e_lc, e_for, e_wipe0, e_wipe, e_okI, e_okR, e_gSb, List.getElem?_cons_zero, List.getElem?_cons_succ, List.set_cons_zero, List.set_cons_succ, e_refI]
  have X : ∀ st : DSt, gxCnt [rowD c] st (some (("count" : Str), k)) := fun st => ⟨c, k, rfl, few, ks, ov, rfl⟩
  refine ⟨k, ⟨trivial, X _⟩, ?_⟩
  try dsimp only
  rw [e_seq]
  try simp only [e_var, e_C, e_op, e_neg, e_isN, e_notN, e_and, e_or, e_not, e_test, e_tAnd, e_tOr, e_tNot, e_tYes, e_if, e_aNil, e_aCons, e_tup, e_lst, e_lstN, e_len0, e_len1, e_len2, e_len3, e_len4, e_len5, e_cb, e_on1, e_on2, e_onI, e_onB, e_onO, e_onO0, e_onOO, e_I0, e_I, e_add, e_addT, e_addS, e_addL, e_addLR, e_addRL, e_addRR, e_mul, e_mulL, e_mulT, e_rev, e_revT, e_ix, e_eqI, e_eqS, e_eqB, e_neI, e_neS, e_neB, e_ltI, e_chain, e_len, e_abs, e_2I, e_tuple1, e_tuple2, e_tuple3, e_listT, e_listN, e_allR, e_seqT, e_seqK, e_seqL, e_isi, e_isB, e_notB, e_truth, e_next, e_drop, e_ret, e_retN, e_ifS, e_set, e_asg, e_par, e_nm, e_gsN, e_gsC, e_gTpK, e_gTpL, e_sum, e_maxL, e_minL, e_maxDef, e_int, e_intB, e_aug, e_on3, e_par3, e_newK, e_getK, e_keyI, e_keyS, e_inK, e_ninK, e_putK, e_lenK, e_lstS, e_seqX, e_gTpT, e_oN, e_oS, e_sl, e_slT, e_slL, e_finT, e_finN, e_index, e_idxT, e_idxL, e_mIx, e_ixST, e_ixSL, e_mtL, e_w, e_w1, e_w2, e_wE, e_wZ, e_itK, e_itT, e_itL, e_itT2, e_itL2, e_lc, e_for, e_wipe0, e_wipe, e_okI, e_okR, e_gSb, List.getElem?_cons_zero, List.getElem?_cons_succ, List.set_cons_zero, List.set_cons_succ, e_refI]
  refine ⟨k, ⟨trivial, X _⟩, ?_⟩
  try simp only [e_var, e_C, e_op, e_neg, e_isN, e_notN, e_and, e_or, e_not, e_test, e_tAnd, e_tOr, e_tNot, e_tYes, e_if, e_aNil, e_aCons, e_tup, e_lst, e_lstN, e_len0, e_len1, e_len2, e_len3, e_len4, e_len5, e_cb, e_on1, e_on2, e_onI, e_onB, e_onO, e_onO0, e_onOO, e_I0, e_I, e_add, e_addT, e_addS, e_addL, e_addLR, e_addRL, e_addRR, e_mul, e_mulL, e_mulT, e_rev, e_revT, e_ix, e_eqI, e_eqS, e_eqB, e_neI, e_neS, e_neB, e_ltI, e_chain, e_len, e_abs, e_2I, e_tuple1, e_tuple2, e_tuple3, e_listT, e_listN, e_allR, e_seqT, e_seqK, e_seqL, e_isi, e_isB, e_notB, e_truth, e_next, e_drop, e_ret, e_retN, e_ifS, e_set, e_asg, e_par, e_nm, e_gsN, e_gsC, e_gTpK, e_gTpL, e_sum, e_maxL, e_minL, e_maxDef, e_int, e_intB, e_aug, e_on3, e_par3, e_newK, e_getK, e_keyI, e_keyS, e_inK, e_ninK, e_putK, e_lenK, e_lstS, e_seqX, e_gTpT, e_oN, e_oS, e_sl, e_slT, e_slL, e_finT, e_finN, e_index, e_idxT, e_idxL, e_mIx, e_ixST, e_ixSL, e_mtL, e_w, e_w1, e_w2, e_wE, e_wZ, e_itK, e_itT, e_itL, e_itT2, e_itL2, e_lc, e_for, e_wipe0, e_wipe, e_okI, e_okR, e_gSb, List.getElem?_cons_zero, List.getElem?_cons_succ, List.set_cons_zero, List.set_cons_succ, ownA, putA]
  refine set_own (j := 1) (by simp) ?_
  try dsimp only
  rw [e_seq]
  try simp only [e_var, e_C, e_op, e_neg, e_isN, e_notN, e_and, e_or, e_not, e_test, e_tAnd, e_tOr, e_tNot, e_tYes, e_if, e_aNil, e_aCons, e_tup, e_lst, e_lstN, e_len0, e_len1, e_len2, e_len3, e_len4, e_len5, e_cb, e_on1, e_on2, e_onI, e_onB, e_onO, e_onO0, e_onOO, e_I0, e_I, e_add, e_addT, e_addS, e_addL, e_addLR, e_addRL, e_addRR, e_mul, e_mulL, e_mulT, e_rev, e_revT, e_ix, e_eqI, e_eqS, e_eqB, e_neI, e_neS, e_neB, e_ltI, e_chain, e_len, e_abs, e_2I, e_tuple1, e_tuple2, e_tuple3, e_listT, e_listN, e_allR, e_seqT, e_seqK, e_seqL, e_isi, e_isB, e_notB, e_truth, e_next, e_drop, e_ret, e_retN, e_ifS, e_set, e_asg, e_par, e_nm, e_gsN, e_gsC, e_gTpK, e_gTpL, e_sum, e_maxL, e_minL, e_maxDef, e_int, e_intB, e_aug, e_on3, e_par3, e_newK, e_getK, e_keyI, e_keyS, e_inK, e_ninK, e_putK, e_lenK, e_lstS, e_seqX, e_gTpT, e_oN, e_oS, e_sl, e_slT, e_slL, e_finT, e_finN, e_index, e_idxT, e_idxL, e_mIx, e_ixST, e_ixSL, e_mtL, e_w, e_w1, e_w2, e_wE, e_wZ, e_itK, e_itT, e_itL, e_itT2, e_itL2, e_lc, e_for, e_wipe0, e_wipe, e_okI, e_okR, e_gSb, List.getElem?_cons_zero, List.getElem?_cons_succ, List.set_cons_zero, List.set_cons_succ, e_refI]
  refine ⟨k, ⟨trivial, X _⟩, ?_⟩
  try simp only [e_var, e_C, e_op, e_neg, e_isN, e_notN, e_and, e_or, e_not, e_test, e_tAnd, e_tOr, e_tNot, e_tYes, e_if, e_aNil, e_aCons, e_tup, e_lst, e_lstN, e_len0, e_len1, e_len2, e_len3, e_len4, e_len5, e_cb, e_on1, e_on2, e_onI, e_onB, e_onO, e_onO0, e_onOO, e_I0, e_I, e_add, e_addT, e_addS, e_addL, e_addLR, e_addRL, e_addRR, e_mul, e_mulL, e_mulT, e_rev, e_revT, e_ix, e_eqI, e_eqS, e_eqB, e_neI, e_neS, e_neB, e_ltI, e_chain, e_len, e_abs, e_2I, e_tuple1, e_tuple2, e_tuple3, e_listT, e_listN, e_allR, e_seqT, e_seqK, e_seqL, e_isi, e_isB, e_notB, e_truth, e_next, e_drop, e_ret, e_retN, e_ifS, e_set, e_asg, e_par, e_nm, e_gsN, e_gsC, e_gTpK, e_gTpL, e_sum, e_maxL, e_minL, e_maxDef, e_int, e_intB, e_aug, e_on3, e_par3, e_newK, e_getK, e_keyI, e_keyS, e_inK, e_ninK, e_putK, e_lenK, e_lstS, e_seqX, e_gTpT, e_oN, e_oS, e_sl, e_slT, e_slL, e_finT, e_finN, e_index, e_idxT, e_idxL, e_mIx, e_ixST, e_ixSL, e_mtL, e_w, e_w1, e_w2, e_wE, e_wZ, e_itK, e_itT, e_itL, e_itT2, e_itL2, e_lc, e_for, e_wipe0, e_wipe, e_okI, e_okR, e_gSb, List.getElem?_cons_zero, List.getElem?_cons_succ, List.set_cons_zero, List.set_cons_succ]
  refine set_own (j := 2) (by simp) ?_
  try dsimp only
  rw [e_seq]
  try simp only [e_var, e_C, e_op, e_neg, e_isN, e_notN, e_and, e_or, e_not, e_test, e_tAnd, e_tOr, e_tNot, e_tYes, e_if, e_aNil, e_aCons, e_tup, e_lst, e_lstN, e_len0, e_len1, e_len2, e_len3, e_len4, e_len5, e_cb, e_on1, e_on2, e_onI, e_onB, e_onO, e_onO0, e_onOO, e_I0, e_I, e_add, e_addT, e_addS, e_addL, e_addLR, e_addRL, e_addRR, e_mul, e_mulL, e_mulT, e_rev, e_revT, e_ix, e_eqI, e_eqS, e_eqB, e_neI, e_neS, e_neB, e_ltI, e_chain, e_len, e_abs, e_2I, e_tuple1, e_tuple2, e_tuple3, e_listT, e_listN, e_allR, e_seqT, e_seqK, e_seqL, e_isi, e_isB, e_notB, e_truth, e_next, e_drop, e_ret, e_retN, e_ifS, e_set, e_asg, e_par, e_nm, e_gsN, e_gsC, e_gTpK, e_gTpL, e_sum, e_maxL, e_minL, e_maxDef, e_int, e_intB, e_aug, e_on3, e_par3, e_newK, e_getK, e_keyI, e_keyS, e_inK, e_ninK, e_putK, e_lenK, e_lstS, e_seqX, e_gTpT, e_oN, e_oS, e_sl, e_slT, e_slL, e_finT, e_finN, e_index, e_idxT, e_idxL, e_mIx, e_ixST, e_ixSL, e_mtL, e_w, e_w1, e_w2, e_wE, e_wZ, e_itK, e_itT, e_itL, e_itT2, e_itL2, e_lc, e_for, e_wipe0, e_wipe, e_okI, e_okR, e_gSb, List.getElem?_cons_zero, List.getElem?_cons_succ, List.set_cons_zero, List.set_cons_succ, e_refI]
  refine ⟨k, ⟨trivial, X _⟩, ?_⟩
  try simp only [e_var, e_C, e_op, e_neg, e_isN, e_notN, e_and, e_or, e_not, e_test, e_tAnd, e_tOr, e_tNot, e_tYes, e_if, e_aNil, e_aCons, e_tup, e_lst, e_lstN, e_len0, e_len1, e_len2, e_len3, e_len4, e_len5, e_cb, e_on1, e_on2, e_onI, e_onB, e_onO, e_onO0, e_onOO, e_I0, e_I, e_add, e_addT, e_addS, e_addL, e_addLR, e_addRL, e_addRR, e_mul, e_mulL, e_mulT, e_rev, e_revT, e_ix, e_eqI, e_eqS, e_eqB, e_neI, e_neS, e_neB, e_ltI, e_chain, e_len, e_abs, e_2I, e_tuple1, e_tuple2, e_tuple3, e_listT, e_listN, e_allR, e_seqT, e_seqK, e_seqL, e_isi, e_isB, e_notB, e_truth, e_next, e_drop, e_ret, e_retN, e_ifS, e_set, e_asg, e_par, e_nm, e_gsN, e_gsC, e_gTpK, e_gTpL, e_sum, e_maxL, e_minL, e_maxDef, e_int, e_intB, e_aug, e_on3, e_par3, e_newK, e_getK, e_keyI, e_keyS, e_inK, e_ninK, e_putK, e_lenK, e_lstS, e_seqX, e_gTpT, e_oN, e_oS, e_sl, e_slT, e_slL, e_finT, e_finN, e_index, e_idxT, e_idxL, e_mIx, e_ixST, e_ixSL, e_mtL, e_w, e_w1, e_w2, e_wE, e_wZ, e_itK, e_itT, e_itL, e_itT2, e_itL2, e_lc, e_for, e_wipe0, e_wipe, e_okI, e_okR, e_gSb, List.getElem?_cons_zero, List.getElem?_cons_succ, List.set_cons_zero, List.set_cons_succ]
  refine set_own (j := 3) (by simp) ?_
  try dsimp only
  rw [e_seq]
  try simp only [e_var, e_C, e_op, e_neg, e_isN, e_notN, e_and, e_or, e_not, e_test, e_tAnd, e_tOr, e_tNot, e_tYes, e_if, e_aNil, e_aCons, e_tup, e_lst, e_lstN, e_len0, e_len1, e_len2, e_len3, e_len4, e_len5, e_cb, e_on1, e_on2, e_onI, e_onB, e_onO, e_onO0, e_onOO, e_I0, e_I, e_add, e_addT, e_addS, e_addL, e_addLR, e_addRL, e_addRR, e_mul, e_mulL, e_mulT, e_rev, e_revT, e_ix, e_eqI, e_eqS, e_eqB, e_neI, e_neS, e_neB, e_ltI, e_chain, e_len, e_abs, e_2I, e_tuple1, e_tuple2, e_tuple3, e_listT, e_listN, e_allR, e_seqT, e_seqK, e_seqL, e_isi, e_isB, e_notB, e_truth, e_next, e_drop, e_ret, e_retN, e_ifS, e_set, e_asg, e_par, e_nm, e_gsN, e_gsC, e_gTpK, e_gTpL, e_sum, e_maxL, e_minL, e_maxDef, e_int, e_intB, e_aug, e_on3, e_par3, e_newK, e_getK, e_keyI, e_keyS, e_inK, e_ninK, e_putK, e_lenK, e_lstS, e_seqX, e_gTpT, e_oN, e_oS, e_sl, e_slT, e_slL, e_finT, e_finN, e_index, e_idxT, e_idxL, e_mIx, e_ixST, e_ixSL, e_mtL, e_w, e_w1, e_w2, e_wE, e_wZ, e_itK, e_itT, e_itL, e_itT2, e_itL2, e_lc, e_for, e_wipe0, e_wipe, e_okI, e_okR, e_gSb, List.getElem?_cons_zero, List.getElem?_cons_succ, List.set_cons_zero, List.set_cons_succ, e_refI]
  refine ⟨k, ⟨trivial, X _⟩, ?_⟩
  try simp only [e_var, e_C, e_op, e_neg, e_isN, e_notN, e_and, e_or, e_not, e_test, e_tAnd, e_tOr, e_tNot, e_tYes, e_if, e_aNil, e_aCons, e_tup, e_lst, e_lstN, e_len0, e_len1, e_len2, e_len3, e_len4, e_len5, e_cb, e_on1, e_on2, e_onI, e_onB, e_onO, e_onO0, e_onOO, e_I0, e_I, e_add, e_addT, e_addS, e_addL, e_addLR, e_addRL, e_addRR, e_mul, e_mulL, e_mulT, e_rev, e_revT, e_ix, e_eqI, e_eqS, e_eqB, e_neI, e_neS, e_neB, e_ltI, e_chain, e_len, e_abs, e_2I, e_tuple1, e_tuple2, e_tuple3, e_listT, e_listN, e_allR, e_seqT, e_seqK, e_seqL, e_isi, e_isB, e_notB, e_truth, e_next, e_drop, e_ret, e_retN, e_ifS, e_set, e_asg, e_par, e_nm, e_gsN, e_gsC, e_gTpK, e_gTpL, e_sum, e_maxL, e_minL, e_maxDef, e_int, e_intB, e_aug, e_on3, e_par3, e_newK, e_getK, e_keyI, e_keyS, e_inK, e_ninK, e_putK, e_lenK, e_lstS, e_seqX, e_gTpT, e_oN, e_oS, e_sl, e_slT, e_slL, e_finT, e_finN, e_index, e_idxT, e_idxL, e_mIx, e_ixST, e_ixSL, e_mtL, e_w, e_w1, e_w2, e_wE, e_wZ, e_itK, e_itT, e_itL, e_itT2, e_itL2, e_lc, e_for, e_wipe0, e_wipe, e_okI, e_okR, e_gSb, List.getElem?_cons_zero, List.getElem?_cons_succ, List.set_cons_zero, List.set_cons_succ]
  refine set_own (j := 4) (by simp) ?_
  try simp only [e_var, e_C, e_op, e_neg, e_isN, e_notN, e_and, e_or, e_not, e_test, e_tAnd, e_tOr, e_tNot, e_tYes, e_if, e_aNil, e_aCons, e_tup, e_lst, e_lstN, e_len0, e_len1, e_len2, e_len3, e_len4, e_len5, e_cb, e_on1, e_on2, e_onI, e_onB, e_onO, e_onO0, e_onOO, e_I0, e_I, e_add, e_addT, e_addS, e_addL, e_addLR, e_addRL, e_addRR, e_mul, e_mulL, e_mulT, e_rev, e_revT, e_ix, e_eqI, e_eqS, e_eqB, e_neI, e_neS, e_neB, e_ltI, e_chain, e_len, e_abs, e_2I, e_tuple1, e_tuple2, e_tuple3, e_listT, e_listN, e_allR, e_seqT, e_seqK, e_seqL, e_isi, e_isB, e_notB, e_truth, e_next, e_drop, e_ret, e_retN, e_ifS, e_set, e_asg, e_par, e_nm, e_gsN, e_gsC, e_gTpK, e_gTpL, e_sum, e_maxL, e_minL, e_maxDef, e_int, e_intB, e_aug, e_on3, e_par3, e_newK, e_getK, e_keyI, e_keyS, e_inK, e_ninK, e_putK, e_lenK, e_lstS, e_seqX, e_gTpT, e_oN, e_oS, e_sl, e_slT, e_slL, e_finT, e_finN, e_index, e_idxT, e_idxL, e_mIx, e_ixST, e_ixSL, e_mtL, e_w, e_w1, e_w2, e_wE, e_wZ, e_itK, e_itT, e_itL, e_itT2, e_itL2, e_lc, e_for, e_wipe0, e_wipe, e_okI, e_okR, e_gSb, List.getElem?_cons_zero, List.getElem?_cons_succ, List.set_cons_zero, List.set_cons_succ]
  refine repr_ref ownA ((sm_same (n := 5) sk).mono (by decide) (by decide) : Sm 1 513 _) (by decide) (by decide) ?_
  refine ⟨⟨by decide, by simp, by decide⟩, ?_⟩
  have er : (List.replicate (Int.toNat 5) [D.int k]).flatten = List.replicate 5 (.int k) := rfl
  rw [er]
  refine repr_txt ((sm_same (n := 5) sk).mono (by decide) (by decide) : Sm 1 513 _) (fun n z => by cases z) (by decide) (by decide) ?_
  try simp only [e_var, e_C, e_op, e_neg, e_isN, e_notN, e_and, e_or, e_not, e_test, e_tAnd, e_tOr, e_tNot, e_tYes, e_if, e_aNil, e_aCons, e_tup, e_lst, e_lstN, e_len0, e_len1, e_len2, e_len3, e_len4, e_len5, e_cb, e_on1, e_on2, e_onI, e_onB, e_onO, e_onO0, e_onOO, e_I0, e_I, e_add, e_addT, e_addS, e_addL, e_addLR, e_addRL, e_addRR, e_mul, e_mulL, e_mulT, e_rev, e_revT, e_ix, e_eqI, e_eqS, e_eqB, e_neI, e_neS, e_neB, e_ltI, e_chain, e_len, e_abs, e_2I, e_tuple1, e_tuple2, e_tuple3, e_listT, e_listN, e_allR, e_seqT, e_seqK, e_seqL, e_isi, e_isB, e_notB, e_truth, e_next, e_drop, e_ret, e_retN, e_ifS, e_set, e_asg, e_par, e_nm, e_gsN, e_gsC, e_gTpK, e_gTpL, e_sum, e_maxL, e_minL, e_maxDef, e_int, e_intB, e_aug, e_on3, e_par3, e_newK, e_getK, e_keyI, e_keyS, e_inK, e_ninK, e_putK, e_lenK, e_lstS, e_seqX, e_gTpT, e_oN, e_oS, e_sl, e_slT, e_slL, e_finT, e_finN, e_index, e_idxT, e_idxL, e_mIx, e_ixST, e_ixSL, e_mtL, e_w, e_w1, e_w2, e_wE, e_wZ, e_itK, e_itT, e_itL, e_itT2, e_itL2, e_lc, e_for, e_wipe0, e_wipe, e_okI, e_okR, e_gSb, List.getElem?_cons_zero, List.getElem?_cons_succ, List.set_cons_zero, List.set_cons_succ]
  exact rep_same (n := 5) (m := 5) sk rfl (by decide) q
theorem sem_allRuns (ds : List D) (st : DSt) (Q : DK) (h : g_allRuns ds st Q) : F__law_all_runs_refused gxRun gxRun2 gxRun gxRun2 { nx := fun _ st' => Rt st Q .non st', rt := Rt st Q } (startD 3 ds) st := by
  obtain ⟨d, rs, k, rfl, hd, O, sk, q⟩ := h
  have st3 : startD 3 [d, D.int k] = [some d, some (.int k), none] := rfl
  have big : (1000 : Nat) ≤ sizeLine := by decide
  have X : ∀ st : DSt, gxRun [d] st (some (("count" : Str), k)) := fun st => ⟨d, rs, k, rfl, hd, O, rfl⟩
  have X2 : ∀ st : DSt, gxRun2 [d, .int 0] st (some (("count" : Str), k)) := fun st => ⟨d, .int 0, rs, k, rfl, hd, O, rfl⟩
  simp only [F__law_all_runs_refused, st3]
  try dsimp only
  rw [e_seq]
  try simp only [e_var, e_C, e_op, e_neg, e_isN, e_notN, e_and, e_or, e_not, e_test, e_tAnd, e_tOr, e_tNot, e_tYes, e_if, e_aNil, e_aCons, e_tup, e_lst, e_lstN, e_len0, e_len1, e_len2, e_len3, e_len4, e_len5, e_cb, e_on1, e_on2, e_onI, e_onB, e_onO, e_onO0, e_onOO, e_I0, e_I, e_add, e_addT, e_addS, e_addL, e_addLR, e_addRL, e_addRR, e_mul, e_mulL, e_mulT, e_rev, e_revT, e_ix, e_eqI, e_eqS, e_eqB, e_neI, e_neS, e_neB, e_ltI, e_chain, e_len, e_abs, e_2I, e_tuple1, e_tuple2, e_tuple3, e_listT, e_listN, e_allR, e_seqT, e_seqK, e_seqL, e_isi, e_isB, e_notB, e_truth, e_next, e_drop, e_ret, e_retN, e_ifS, e_set, e_asg, e_par, e_nm, e_gsN, e_gsC, e_gTpK, e_gTpL, e_sum, e_maxL, e_minL, e_maxDef, e_int, e_intB, e_aug, e_on3, e_par3, e_newK, e_getK, e_keyI, e_keyS, e_inK, e_ninK, e_putK, e_lenK, e_lstS, e_seqX, e_gTpT, e_oN, e_oS, e_sl, e_slT, e_slL, e_finT, e_finN, e_index, e_idxT, e_idxL, e_mIx, e_ixST, e_ixSL, e_mtL, e_w, e_w1, e_w2, e_wE, e_wZ, e_itK, e_itT, e_itL, e_itT2, e_itL2, e_lc, e_for, e_wipe0, e_wipe, e_okI, e_okR, e_gSb, List.getElem?_cons_zero, List.getElem?_cons_succ, List.set_cons_zero, List.set_cons_succ, e_refI]
  refine ⟨k, ⟨trivial, X2 _⟩, ?_⟩
  try dsimp only
  rw [e_seq]
  try simp only [e_var, e_C, e_op, e_neg, e_isN, e_notN, e_and, e_or, e_not, e_test, e_tAnd, e_tOr, e_tNot, e_tYes, e_if, e_aNil, e_aCons, e_tup, e_lst, e_lstN, e_len0, e_len1, e_len2, e_len3, e_len4, e_len5, e_cb, e_on1, e_on2, e_onI, e_onB, e_onO, e_onO0, e_onOO, e_I0, e_I, e_add, e_addT, e_addS, e_addL, e_addLR, e_addRL, e_addRR, e_mul, e_mulL, e_mulT, e_rev, e_revT, e_ix, e_eqI, e_eqS, e_eqB, e_neI, e_neS, e_neB, e_ltI, e_chain, e_len, e_abs, e_2I, e_tuple1, e_tuple2, e_tuple3, e_listT, e_listN, e_allR, e_seqT, e_seqK, e_seqL, e_isi, e_isB, e_notB, e_truth, e_next, e_drop, e_ret, e_retN, e_ifS, e_set, e_asg, e_par, e_nm, e_gsN, e_gsC, e_gTpK, e_gTpL, e_sum, e_maxL, e_minL, e_maxDef, e_int, e_intB, e_aug, e_on3, e_par3, e_newK, e_getK, e_keyI, e_keyS, e_inK, e_ninK, e_putK, e_lenK, e_lstS, e_seqX, e_gTpT, e_oN, e_oS, e_sl, e_slT, e_slL, e_finT, e_finN, e_index, e_idxT, e_idxL, e_mIx, e_ixST, e_ixSL, e_mtL, e_w, e_w1, e_w2, e_wE, e_wZ, e_itK, e_itT, e_itL, e_itT2, e_itL2, e_lc, e_for, e_wipe0, e_wipe, e_okI, e_okR, e_gSb, List.getElem?_cons_zero, List.getElem?_cons_succ, List.set_cons_zero, List.set_cons_succ, e_refI]
  refine ⟨k, ⟨trivial, X2 _⟩, ?_⟩
  try simp only [e_var, e_C, e_op, e_neg, e_isN, e_notN, e_and, e_or, e_not, e_test, e_tAnd, e_tOr, e_tNot, e_tYes, e_if, e_aNil, e_aCons, e_tup, e_lst, e_lstN, e_len0, e_len1, e_len2, e_len3, e_len4, e_len5, e_cb, e_on1, e_on2, e_onI, e_onB, e_onO, e_onO0, e_onOO, e_I0, e_I, e_add, e_addT, e_addS, e_addL, e_addLR, e_addRL, e_addRR, e_mul, e_mulL, e_mulT, e_rev, e_revT, e_ix, e_eqI, e_eqS, e_eqB, e_neI, e_neS, e_neB, e_ltI, e_chain, e_len, e_abs, e_2I, e_tuple1, e_tuple2, e_tuple3, e_listT, e_listN, e_allR, e_seqT, e_seqK, e_seqL, e_isi, e_isB, e_notB, e_truth, e_next, e_drop, e_ret, e_retN, e_ifS, e_set, e_asg, e_par, e_nm, e_gsN, e_gsC, e_gTpK, e_gTpL, e_sum, e_maxL, e_minL, e_maxDef, e_int, e_intB, e_aug, e_on3, e_par3, e_newK, e_getK, e_keyI, e_keyS, e_inK, e_ninK, e_putK, e_lenK, e_lstS, e_seqX, e_gTpT, e_oN, e_oS, e_sl, e_slT, e_slL, e_finT, e_finN, e_index, e_idxT, e_idxL, e_mIx, e_ixST, e_ixSL, e_mtL, e_w, e_w1, e_w2, e_wE, e_wZ, e_itK, e_itT, e_itL, e_itT2, e_itL2, e_lc, e_for, e_wipe0, e_wipe, e_okI, e_okR, e_gSb, List.getElem?_cons_zero, List.getElem?_cons_succ, List.set_cons_zero, List.set_cons_succ]
  refine set_own (j := 1) (by simp) ?_
  try dsimp only
  rw [e_seq]
  try simp only [e_var, e_C, e_op, e_neg, e_isN, e_notN, e_and, e_or, e_not, e_test, e_tAnd, e_tOr, e_tNot, e_tYes, e_if, e_aNil, e_aCons, e_tup, e_lst, e_lstN, e_len0, e_len1, e_len2, e_len3, e_len4, e_len5, e_cb, e_on1, e_on2, e_onI, e_onB, e_onO, e_onO0, e_onOO, e_I0, e_I, e_add, e_addT, e_addS, e_addL, e_addLR, e_addRL, e_addRR, e_mul, e_mulL, e_mulT, e_rev, e_revT, e_ix, e_eqI, e_eqS, e_eqB, e_neI, e_neS, e_neB, e_ltI, e_chain, e_len, e_abs, e_2I, e_tuple1, e_tuple2, e_tuple3, e_listT, e_listN, e_allR, e_seqT, e_seqK, e_seqL, e_isi, e_isB, e_notB, e_truth, e_next, e_drop, e_ret, e_retN, e_ifS, e_set, e_asg, e_par, e_nm, e_gsN, e_gsC, e_gTpK, e_gTpL, e_sum, e_maxL, e_minL, e_maxDef, e_int, e_intB, e_aug, e_on3, e_par3, e_newK, e_getK, e_keyI, e_keyS, e_inK, e_ninK, e_putK, e_lenK, e_lstS, e_seqX, e_gTpT, e_oN, e_oS, e_sl, e_slT, e_slL, e_finT, e_finN, e_index, e_idxT, e_idxL, e_mIx, e_ixST, e_ixSL, e_mtL, e_w, e_w1, e_w2, e_wE, e_wZ, e_itK, e_itT, e_itL, e_itT2, e_itL2, e_lc, e_for, e_wipe0, e_wipe, e_okI, e_okR, e_gSb, List.getElem?_cons_zero, List.getElem?_cons_succ, List.set_cons_zero, List.set_cons_succ, e_refI]
  refine ⟨k, ⟨trivial, X _⟩, ?_⟩
  try simp only [e_var, e_C, e_op, e_neg, e_isN, e_notN, e_and, e_or, e_not, e_test, e_tAnd, e_tOr, e_tNot, e_tYes, e_if, e_aNil, e_aCons, e_tup, e_lst, e_lstN, e_len0, e_len1, e_len2, e_len3, e_len4, e_len5, e_cb, e_on1, e_on2, e_onI, e_onB, e_onO, e_onO0, e_onOO, e_I0, e_I, e_add, e_addT, e_addS, e_addL, e_addLR, e_addRL, e_addRR, e_mul, e_mulL, e_mulT, e_rev, e_revT, e_ix, e_eqI, e_eqS, e_eqB, e_neI, e_neS, e_neB, e_ltI, e_chain, e_len, e_abs, e_2I, e_tuple1, e_tuple2, e_tuple3, e_listT, e_listN, e_allR, e_seqT, e_seqK, e_seqL, e_isi, e_isB, e_notB, e_truth, e_next, e_drop, e_ret, e_retN, e_ifS, e_set, e_asg, e_par, e_nm, e_gsN, e_gsC, e_gTpK, e_gTpL, e_sum, e_maxL, e_minL, e_maxDef, e_int, e_intB, e_aug, e_on3, e_par3, e_newK, e_getK, e_keyI, e_keyS, e_inK, e_ninK, e_putK, e_lenK, e_lstS, e_seqX, e_gTpT, e_oN, e_oS, e_sl, e_slT, e_slL, e_finT, e_finN, e_index, e_idxT, e_idxL, e_mIx, e_ixST, e_ixSL, e_mtL, e_w, e_w1, e_w2, e_wE, e_wZ, e_itK, e_itT, e_itL, e_itT2, e_itL2, e_lc, e_for, e_wipe0, e_wipe, e_okI, e_okR, e_gSb, List.getElem?_cons_zero, List.getElem?_cons_succ, List.set_cons_zero, List.set_cons_succ]
  refine set_own (j := 2) (by simp) ?_
  try dsimp only
  rw [e_seq]
  try simp only [e_var, e_C, e_op, e_neg, e_isN, e_notN, e_and, e_or, e_not, e_test, e_tAnd, e_tOr, e_tNot, e_tYes, e_if, e_aNil, e_aCons, e_tup, e_lst, e_lstN, e_len0, e_len1, e_len2, e_len3, e_len4, e_len5, e_cb, e_on1, e_on2, e_onI, e_onB, e_onO, e_onO0, e_onOO, e_I0, e_I, e_add, e_addT, e_addS, e_addL, e_addLR, e_addRL, e_addRR, e_mul, e_mulL, e_mulT, e_rev, e_revT, e_ix, e_eqI, e_eqS, e_eqB, e_neI, e_neS, e_neB, e_ltI, e_chain, e_len, e_abs, e_2I, e_tuple1, e_tuple2, e_tuple3, e_listT, e_listN, e_allR, e_seqT, e_seqK, e_seqL, e_isi, e_isB, e_notB, e_truth, e_next, e_drop, e_ret, e_retN, e_ifS, e_set, e_asg, e_par, e_nm, e_gsN, e_gsC, e_gTpK, e_gTpL, e_sum, e_maxL, e_minL, e_maxDef, e_int, e_intB, e_aug, e_on3, e_par3, e_newK, e_getK, e_keyI, e_keyS, e_inK, e_ninK, e_putK, e_lenK, e_lstS, e_seqX, e_gTpT, e_oN, e_oS, e_sl, e_slT, e_slL, e_finT, e_finN, e_index, e_idxT, e_idxL, e_mIx, e_ixST, e_ixSL, e_mtL, e_w, e_w1, e_w2, e_wE, e_wZ, e_itK, e_itT, e_itL, e_itT2, e_itL2, e_lc, e_for, e_wipe0, e_wipe, e_okI, e_okR, e_gSb, List.getElem?_cons_zero, List.getElem?_cons_succ, List.set_cons_zero, List.set_cons_succ, e_refI]
  refine ⟨k, ⟨trivial, X _⟩, ?_⟩
  try simp only [e_var, e_C, e_op, e_neg, e_isN, e_notN, e_and, e_or, e_not, e_test, e_tAnd, e_tOr, e_tNot, e_tYes, e_if, e_aNil, e_aCons, e_tup, e_lst, e_lstN, e_len0, e_len1, e_len2, e_len3, e_len4, e_len5, e_cb, e_on1, e_on2, e_onI, e_onB, e_onO, e_onO0, e_onOO, e_I0, e_I, e_add, e_addT, e_addS, e_addL, e_addLR, e_addRL, e_addRR, e_mul, e_mulL, e_mulT, e_rev, e_revT, e_ix, e_eqI, e_eqS, e_eqB, e_neI, e_neS, e_neB, e_ltI, e_chain, e_len, e_abs, e_2I, e_tuple1, e_tuple2, e_tuple3, e_listT, e_listN, e_allR, e_seqT, e_seqK, e_seqL, e_isi, e_isB, e_notB, e_truth, e_next, e_drop, e_ret, e_retN, e_ifS, e_set, e_asg, e_par, e_nm, e_gsN, e_gsC, e_gTpK, e_gTpL, e_sum, e_maxL, e_minL, e_maxDef, e_int, e_intB, e_aug, e_on3, e_par3, e_newK, e_getK, e_keyI, e_keyS, e_inK, e_ninK, e_putK, e_lenK, e_lstS, e_seqX, e_gTpT, e_oN, e_oS, e_sl, e_slT, e_slL, e_finT, e_finN, e_index, e_idxT, e_idxL, e_mIx, e_ixST, e_ixSL, e_mtL, e_w, e_w1, e_w2, e_wE, e_wZ, e_itK, e_itT, e_itL, e_itT2, e_itL2, e_lc, e_for, e_wipe0, e_wipe, e_okI, e_okR, e_gSb, List.getElem?_cons_zero, List.getElem?_cons_succ, List.set_cons_zero, List.set_cons_succ]
  refine set_own (j := 3) (by simp) ?_
  try simp only [e_var, e_C, e_op, e_neg, e_isN, e_notN, e_and, e_or, e_not, e_test, e_tAnd, e_tOr, e_tNot, e_tYes, e_if, e_aNil, e_aCons, e_tup, e_lst, e_lstN, e_len0, e_len1, e_len2, e_len3, e_len4, e_len5, e_cb, e_on1, e_on2, e_onI, e_onB, e_onO, e_onO0, e_onOO, e_I0, e_I, e_add, e_addT, e_addS, e_addL, e_addLR, e_addRL, e_addRR, e_mul, e_mulL, e_mulT, e_rev, e_revT, e_ix, e_eqI, e_eqS, e_eqB, e_neI, e_neS, e_neB, e_ltI, e_chain, e_len, e_abs, e_2I, e_tuple1, e_tuple2, e_tuple3, e_listT, e_listN, e_allR, e_seqT, e_seqK, e_seqL, e_isi, e_isB, e_notB, e_truth, e_next, e_drop, e_ret, e_retN, e_ifS, e_set, e_asg, e_par, e_nm, e_gsN, e_gsC, e_gTpK, e_gTpL, e_sum, e_maxL, e_minL, e_maxDef, e_int, e_intB, e_aug, e_on3, e_par3, e_newK, e_getK, e_keyI, e_keyS, e_inK, e_ninK, e_putK, e_lenK, e_lstS, e_seqX, e_gTpT, e_oN, e_oS, e_sl, e_slT, e_slL, e_finT, e_finN, e_index, e_idxT, e_idxL, e_mIx, e_ixST, e_ixSL, e_mtL, e_w, e_w1, e_w2, e_wE, e_wZ, e_itK, e_itT, e_itL, e_itT2, e_itL2, e_lc, e_for, e_wipe0, e_wipe, e_okI, e_okR, e_gSb, List.getElem?_cons_zero, List.getElem?_cons_succ, List.set_cons_zero, List.set_cons_succ]
  refine repr_ref ownA ((sm_same (n := 4) sk).mono (by decide) (by decide) : Sm 1 513 _) (by decide) (by decide) ?_
  refine ⟨⟨by decide, by simp, by decide⟩, ?_⟩
  have er : (List.replicate (Int.toNat 4) [D.int k]).flatten = List.replicate 4 (.int k) := rfl
  rw [er]
  refine repr_txt ((sm_same (n := 4) sk).mono (by decide) (by decide) : Sm 1 513 _) (fun n z => by cases z) (by decide) (by decide) ?_
  try simp only [e_var, e_C, e_op, e_neg, e_isN, e_notN, e_and, e_or, e_not, e_test, e_tAnd, e_tOr, e_tNot, e_tYes, e_if, e_aNil, e_aCons, e_tup, e_lst, e_lstN, e_len0, e_len1, e_len2, e_len3, e_len4, e_len5, e_cb, e_on1, e_on2, e_onI, e_onB, e_onO, e_onO0, e_onOO, e_I0, e_I, e_add, e_addT, e_addS, e_addL, e_addLR, e_addRL, e_addRR, e_mul, e_mulL, e_mulT, e_rev, e_revT, e_ix, e_eqI, e_eqS, e_eqB, e_neI, e_neS, e_neB, e_ltI, e_chain, e_len, e_abs, e_2I, e_tuple1, e_tuple2, e_tuple3, e_listT, e_listN, e_allR, e_seqT, e_seqK, e_seqL, e_isi, e_isB, e_notB, e_truth, e_next, e_drop, e_ret, e_retN, e_ifS, e_set, e_asg, e_par, e_nm, e_gsN, e_gsC, e_gTpK, e_gTpL, e_sum, e_maxL, e_minL, e_maxDef, e_int, e_intB, e_aug, e_on3, e_par3, e_newK, e_getK, e_keyI, e_keyS, e_inK, e_ninK, e_putK, e_lenK, e_lstS, e_seqX, e_gTpT, e_oN, e_oS, e_sl, e_slT, e_slL, e_finT, e_finN, e_index, e_idxT, e_idxL, e_mIx, e_ixST, e_ixSL, e_mtL, e_w, e_w1, e_w2, e_wE, e_wZ, e_itK, e_itT, e_itL, e_itT2, e_itL2, e_lc, e_for, e_wipe0, e_wipe, e_okI, e_okR, e_gSb, List.getElem?_cons_zero, List.getElem?_cons_succ, List.set_cons_zero, List.set_cons_succ]
  exact rep_same (n := 4) (m := 4) sk rfl (by decide) q
end DL
namespace DL
theorem run_ones : ∀ s : Nat, ML.run 0 (List.replicate s (1 : Int)) = 0
  | 0 => rfl
  | s + 1 => by
    rw [List.replicate_succ]
    show ML.run (ML.step 0 1) (List.replicate s 1) = 0
    have e : ML.step 0 1 = 0 := by decide
    rw [e]
    exact run_ones s
theorem scan_ones : ∀ s : Nat, ML.scan 0 (List.replicate s (1 : Int)) = List.replicate s 0
  | 0 => rfl
  | s + 1 => by
    rw [List.replicate_succ, List.replicate_succ]
    show ML.step 0 1 :: ML.scan (ML.step 0 1) (List.replicate s 1) = 0 :: List.replicate s 0
    have e : ML.step 0 1 = 0 := by decide
    rw [e, scan_ones s]
theorem flows_ones (s : Nat) : ML.flowsI (List.replicate s (1 : Int)) = List.replicate s 0 := by
  unfold ML.flowsI
  rw [run_ones, scan_ones]
theorem run_zero0 : ∀ k : Nat, ML.run 0 (List.replicate k (0 : Int)) = 0
  | 0 => rfl
  | k + 1 => by
    rw [List.replicate_succ]
    show ML.run (ML.step 0 0) (List.replicate k 0) = 0
    have e : ML.step 0 0 = 0 := by decide
    rw [e]
    exact run_zero0 k
theorem step_down (f : Nat) : ML.step ((f + 1 : Nat) : Int) 0 = (f : Int) := by
  unfold ML.step
  split <;> omega
theorem run_down : ∀ (k f : Nat), ML.run ((f + k : Nat) : Int) (List.replicate k (0 : Int)) = (f : Int)
  | 0, f => rfl
  | k + 1, f => by
    rw [List.replicate_succ]
    show ML.run (ML.step ((f + (k + 1) : Nat) : Int) 0) (List.replicate k 0) = (f : Int)
    rw [show f + (k + 1) = (f + k) + 1 by omega, step_down]
    exact run_down k f
def down : Nat → Nat → List Int
  | 0, _ => []
  | k + 1, f => ((f + k : Nat) : Int) :: down k f
theorem scan_down : ∀ (k f : Nat), ML.scan ((f + k : Nat) : Int) (List.replicate k (0 : Int)) = down k f
  | 0, f => rfl
  | k + 1, f => by
    rw [List.replicate_succ]
    show ML.step ((f + (k + 1) : Nat) : Int) 0 :: ML.scan (ML.step ((f + (k + 1) : Nat) : Int) 0) (List.replicate k 0) = ((f + k : Nat) : Int) :: down k f
    rw [show f + (k + 1) = (f + k) + 1 by omega, step_down, scan_down k f]
end DL
namespace DL
open PySem PySem.Spec PyProof.Rows L2 LamX PySem.W SL
theorem down_le : ∀ (k f : Nat) (x : Int), x ∈ down k f → 0 ≤ x ∧ x < ((f + k : Nat) : Int)
  | 0, _, x, h => by cases h
  | k + 1, f, x, h => by
    rcases List.mem_cons.mp h with e | e
    · subst e
      exact ⟨by omega, by omega⟩
    · have := down_le k f x e
      omega
theorem down_sum (g : Int → Int) : ∀ k f : Nat, ML.sumL ((down k f).map g) = ML.sumN (f + k) (fun i : Nat => g (i : Nat)) - ML.sumN f fun i : Nat => g (i : Nat)
  | 0, f => by show (0 : Int) = _; rw [Nat.add_zero]; omega
  | k + 1, f => by
    show g ((f + k : Nat) : Int) + ML.sumL ((down k f).map g) = ML.sumN (f + k) (fun i : Nat => g (i : Nat)) + g ((f + k : Nat) : Int) - _
    rw [down_sum g k f]
    omega
def whole (a s : Nat) : List Int := List.replicate a 0 ++ [(s : Int)] ++ List.replicate (s - a - 1) 0
theorem whole_len {a s : Nat} (h : a < s) : (whole a s).length = s := by
  unfold whole
  simp
  omega
theorem whole_sum {a s : Nat} : ML.sumL (whole a s) = s := by
  unfold whole
  rw [ML.sumL_append, ML.sumL_append, ML.sumL_rep, ML.sumL_rep, ML.sumL_cons]
  simp [ML.sumL]
theorem whole_cnt {a s : Nat} (h : a < s) (s9 : s ≤ 900) : Cnt (whole a s) where
  ne := by unfold whole; simp
  few := by rw [whole_len h]; exact s9
  nn := fun x hx => by
    unfold whole at hx
    simp only [List.mem_append, List.mem_replicate, List.mem_cons, List.not_mem_nil, or_false] at hx
    rcases hx with (hx | hx) | hx
    · omega
    · omega
    · omega
  room := by rw [whole_sum, whole_len h]; exact Int.le_refl _
theorem step_home (a s : Nat) (h : a < s) : ML.step 0 (s : Int) = ((s - 1 : Nat) : Int) := by
  unfold ML.step
  split <;> omega
theorem whole_run {a s : Nat} (h : a < s) : ML.run 0 (whole a s) = (a : Int) := by
  unfold whole
  rw [ML.run_append, ML.run_append, run_zero0]
  show ML.run (ML.step 0 (s : Int)) _ = _
  rw [step_home a s h, show s - 1 = a + (s - a - 1) by omega, run_down]
theorem whole_flows {a s : Nat} (h : a < s) : ML.flowsI (whole a s) = down a 0 ++ ((s - 1 : Nat) : Int) :: down (s - a - 1) a := by
  unfold ML.flowsI
  rw [whole_run h]
  unfold whole
  have ra := run_down a 0
  have sa := scan_down a 0
  rw [Nat.zero_add] at ra sa
  rw [ML.scan_append, ML.scan_append, ML.run_append, ra, sa, List.append_assoc]
  show down a 0 ++ ML.step ((0 : Nat) : Int) (s : Int) :: ML.scan (ML.step ((0 : Nat) : Int) (s : Int)) _ = _
  have e0 : ((0 : Nat) : Int) = 0 := rfl
  rw [e0, step_home a s h]
  have z := scan_down (s - a - 1) a
  rw [show a + (s - a - 1) = s - 1 by omega] at z
  rw [z]
theorem whole_fsum (g : Int → Int) {a s : Nat} (h : a < s) : ML.sumL ((ML.flowsI (whole a s)).map g) = ML.sumN s fun i : Nat => g (i : Nat) := by
  rw [whole_flows h, List.map_append, ML.sumL_append, List.map_cons, ML.sumL_cons, down_sum, down_sum, Nat.zero_add, show a + (s - a - 1) = s - 1 by omega]
  have e : ML.sumN s (fun i : Nat => g (i : Nat)) = ML.sumN (s - 1) (fun i : Nat => g (i : Nat)) + g ((s - 1 : Nat) : Int) := by
    obtain ⟨t, rfl⟩ : ∃ t, s = t + 1 := ⟨s - 1, by omega⟩
    rfl
  rw [e]
  show ML.sumN a _ - 0 + _ = _
  omega
theorem sumN_tri : ∀ s : Nat, 2 * ML.sumN s (fun i : Nat => (i : Int)) = (s : Int) * ((s : Int) - 1)
  | 0 => rfl
  | s + 1 => by
    show 2 * (ML.sumN s (fun i : Nat => (i : Int)) + (s : Int)) = _
    rw [Int.mul_add, sumN_tri s]
    have e1 : ((s + 1 : Nat) : Int) = (s : Int) + 1 := by omega
    rw [e1, Int.mul_sub, Int.mul_sub, Int.add_mul, Int.mul_add]
    omega
theorem whole_dsum {a s : Nat} (h : a < s) : ML.sumL (ML.flowsI (whole a s)) = (s : Int) * ((s : Int) - 1) / 2 := by
  have e := whole_fsum (fun x => x) h
  rw [List.map_id'] at e
  rw [e, ← sumN_tri s]
  omega
theorem whole_sq {a s : Nat} (h : a < s) (s9 : s ≤ 900) : sqSum (waitsI (whole a s)) = ML.sumL ((List.range s).map fun i : Nat => (i : Int) * (i : Int)) := by
  rw [sq_waits_flows (whole_cnt h s9), sumL_range, ← whole_fsum (fun x => x * x) h, ML.sumL_N, List.length_map, ML.flowsI_length]
  refine ML.sumN_congr fun i hi => ?_
  rw [List.getD_eq_getElem?_getD, List.getD_eq_getElem?_getD, List.getElem?_map, List.getElem?_eq_getElem (by rw [ML.flowsI_length]; exact hi)]
  rfl
theorem whole_max {a s : Nat} (h : a < s) (s9 : s ≤ 900) : maxI (waitsI (whole a s)) = (s : Int) - 1 := by
  rw [max_waits_flows (whole_cnt h s9)]
  have nn := flows_nn (whole a s)
  obtain ⟨sp, up⟩ := maxI_spec _ nn
  have mem : ((s - 1 : Nat) : Int) ∈ ML.flowsI (whole a s) := by rw [whole_flows h]; simp
  have le : ∀ x ∈ ML.flowsI (whole a s), x ≤ (s : Int) - 1 := fun x hx => by
    rw [whole_flows h] at hx
    rcases List.mem_append.mp hx with z | z
    · have := down_le _ _ x z
      omega
    · rcases List.mem_cons.mp z with z | z
      · omega
      · have := down_le _ _ x z
        omega
  have u := up _ mem
  rcases sp with ⟨z, _⟩ | z
  · rw [z] at mem
    cases mem
  · have := le _ z
    omega
theorem all_taken {c : List Int} (h : ∀ i, i < c.length → isTk c i = true) : takenI c = (List.range c.length).map fun i : Nat => (i : Int) := by
  unfold takenI
  rw [List.filter_eq_self.mpr fun i hi => h i (List.mem_range.mp hi)]
theorem isTk_com {c : List Int} (hc : Cnt c) {i : Nat} (h : i < c.length) (p : 0 < ML.com c i + c.getD i 0) : isTk c i = true := by
  unfold isTk
  rw [← ML.com_prev hc.ne hc.room h]
  exact decide_eq_true p
theorem com_nn (c : List Int) (i : Nat) : 0 ≤ ML.com c i := ML.run_nn (ML.run_nn (Int.le_refl 0) _) _
theorem whole_taken {a s : Nat} (h : a < s) (s9 : s ≤ 900) : takenI (whole a s) = (List.range s).map fun i : Nat => (i : Int) := by
  have z := all_taken (c := whole a s) fun i hi => ?_
  · rw [whole_len h] at z
    exact z
  · refine isTk_com (whole_cnt h s9) hi ?_
    rw [whole_len h] at hi
    have c0 := com_nn (whole a s) i
    by_cases e1 : i = a
    · have : (whole a s).getD i 0 = (s : Int) := by
        subst e1
        unfold whole
        rw [List.getD_eq_getElem?_getD, List.append_assoc, List.getElem?_append_right (by simp)]
        simp
      omega
    · have g0 : 0 ≤ (whole a s).getD i 0 := by
        rw [List.getD_eq_getElem?_getD, List.getElem?_eq_getElem (by rw [whole_len h]; exact hi)]
        exact (whole_cnt h s9).nn _ (List.getElem_mem _)
      have : 0 < ML.com (whole a s) i := by
        unfold ML.com
        rw [whole_run h]
        by_cases e2 : i < a
        · have t : (whole a s).take i = List.replicate i 0 := by
            unfold whole
            rw [List.append_assoc, List.take_append_of_le_length (by simp; omega), List.take_replicate, Nat.min_eq_left (by omega)]
          rw [t]
          have z := run_down i (a - i)
          rw [show a - i + i = a by omega] at z
          rw [z]
          omega
        · have t : (whole a s).take i = List.replicate a 0 ++ [(s : Int)] ++ List.replicate (i - a - 1) 0 := by
            unfold whole
            rw [List.take_append, List.take_of_length_le (by simp; omega), List.take_replicate]
            congr 2
            simp
            omega
          have z := run_down a 0
          rw [Nat.zero_add] at z
          rw [t, ML.run_append, ML.run_append, z]
          show 0 < ML.run (ML.step ((0 : Nat) : Int) (s : Int)) _
          have e0 : ((0 : Nat) : Int) = 0 := rfl
          rw [e0, step_home a s h, show s - 1 = (s - (i - a)) + (i - a - 1) by omega, run_down]
          omega
      omega
theorem ones_cnt {s : Nat} (s1 : 1 ≤ s) (s9 : s ≤ 900) : Cnt (List.replicate s (1 : Int)) where
  ne := fun e => by
    have := congrArg List.length e
    simp at this
    omega
  few := by rw [List.length_replicate]; exact s9
  nn := fun x hx => by rw [List.eq_of_mem_replicate hx]; decide
  room := by rw [ML.sumL_rep, List.length_replicate]; omega
theorem ones_taken {s : Nat} (s1 : 1 ≤ s) (s9 : s ≤ 900) : (takenI (List.replicate s (1 : Int))).length = s := by
  rw [all_taken fun i hi => ?_]
  · simp
  · refine isTk_com (ones_cnt s1 s9) hi ?_
    have c0 := com_nn (List.replicate s (1 : Int)) i
    have : (List.replicate s (1 : Int)).getD i 0 = 1 := by
      rw [List.length_replicate] at hi
      rw [List.getD_eq_getElem?_getD, List.getElem?_replicate, if_pos hi]
      rfl
    omega
theorem ones_sq {s : Nat} (s1 : 1 ≤ s) (s9 : s ≤ 900) : sqSum (waitsI (List.replicate s (1 : Int))) = 0 := by
  rw [sq_waits_flows (ones_cnt s1 s9), flows_ones, List.length_replicate]
  refine Eq.trans (ML.sumN_congr fun i hi => ?_) (ML.sumN_zero s)
  rw [List.getD_eq_getElem?_getD, List.getElem?_replicate, if_pos hi]
  rfl
theorem whole_over {a s : Nat} (h : a < s) (m : Int) : (List.replicate a (0 : Int) ++ [m] ++ List.replicate (s - a - 1) 0).sum = m := by
  simp
set_option maxHeartbeats 8000000 in
theorem sem_right33 (ds : List D) (st : DSt) (Q : DK) (h : g_right ds st Q) : F__law_right_v23 g_flows g_taken g_dsum g_great g_sq g_take g_pick g_allRef g_allRuns { nx := fun _ st' => Rt st Q .non st', rt := Rt st Q } (startD 9 ds) st := by
  obtain ⟨p, rfl, pot, q⟩ := h
  have lt := pot.lt
  obtain ⟨o0, e0, po0⟩ := pot
  have st9 : startD 9 [D.ref p] = [some (.ref p), none, none, none, none, none, none, none, none] := rfl
  have big : (2000 : Nat) ≤ sizeLine := by decide
  simp only [F__law_right_v23, st9]
  try dsimp only
  rw [e_seq]
  try simp only [e_var, e_C, e_op, e_neg, e_isN, e_notN, e_and, e_or, e_not, e_test, e_tAnd, e_tOr, e_tNot, e_tYes, e_if, e_aNil, e_aCons, e_tup, e_lst, e_lstN, e_len0, e_len1, e_len2, e_len3, e_len4, e_len5, e_cb, e_on1, e_on2, e_onI, e_onB, e_onO, e_onO0, e_onOO, e_I0, e_I, e_add, e_addT, e_addS, e_addL, e_addLR, e_addRL, e_addRR, e_mul, e_mulL, e_mulT, e_rev, e_revT, e_ix, e_eqI, e_eqS, e_eqB, e_neI, e_neS, e_neB, e_ltI, e_chain, e_len, e_abs, e_2I, e_tuple1, e_tuple2, e_tuple3, e_listT, e_listN, e_allR, e_seqT, e_seqK, e_seqL, e_isi, e_isB, e_notB, e_truth, e_next, e_drop, e_ret, e_retN, e_ifS, e_set, e_asg, e_par, e_nm, e_gsN, e_gsC, e_gTpK, e_gTpL, e_sum, e_maxL, e_minL, e_maxDef, e_int, e_intB, e_aug, e_on3, e_par3, e_newK, e_getK, e_keyI, e_keyS, e_inK, e_ninK, e_putK, e_lenK, e_lstS, e_seqX, e_gTpT, e_oN, e_oS, e_sl, e_slT, e_slL, e_finT, e_finN, e_index, e_idxT, e_idxL, e_mIx, e_ixST, e_ixSL, e_mtL, e_w, e_w1, e_w2, e_wE, e_wZ, e_itK, e_itT, e_itL, e_itT2, e_itL2, e_lc, e_for, e_wipe0, e_wipe, e_okI, e_okR, e_gSb, List.getElem?_cons_zero, List.getElem?_cons_succ, List.set_cons_zero, List.set_cons_succ]
  refine ⟨by decide, ?_⟩
  refine for_inv (fun left r st' => ∃ (o : O) (x1 x2 x3 x4 x5 x6 x7 : Option D), r = [some (.ref p), x1, x2, x3, x4, x5, x6, x7, none] ∧ st' = st.set p o ∧ PotO (100 + left.length * 100) o) ?_ ?_ _ _ _ ⟨o0, none, none, none, none, none, none, none, rfl, (set_same e0).symm, po0.less (by rw [rgD_length]; decide)⟩
  · rintro d left r st' N hN ⟨o, x1, x2, x3, x4, x5, x6, x7, rfl, rfl, po⟩
    rw [List.length_cons] at po
    try simp only [e_var, e_C, e_op, e_neg, e_isN, e_notN, e_and, e_or, e_not, e_test, e_tAnd, e_tOr, e_tNot, e_tYes, e_if, e_aNil, e_aCons, e_tup, e_lst, e_lstN, e_len0, e_len1, e_len2, e_len3, e_len4, e_len5, e_cb, e_on1, e_on2, e_onI, e_onB, e_onO, e_onO0, e_onOO, e_I0, e_I, e_add, e_addT, e_addS, e_addL, e_addLR, e_addRL, e_addRR, e_mul, e_mulL, e_mulT, e_rev, e_revT, e_ix, e_eqI, e_eqS, e_eqB, e_neI, e_neS, e_neB, e_ltI, e_chain, e_len, e_abs, e_2I, e_tuple1, e_tuple2, e_tuple3, e_listT, e_listN, e_allR, e_seqT, e_seqK, e_seqL, e_isi, e_isB, e_notB, e_truth, e_next, e_drop, e_ret, e_retN, e_ifS, e_set, e_asg, e_par, e_nm, e_gsN, e_gsC, e_gTpK, e_gTpL, e_sum, e_maxL, e_minL, e_maxDef, e_int, e_intB, e_aug, e_on3, e_par3, e_newK, e_getK, e_keyI, e_keyS, e_inK, e_ninK, e_putK, e_lenK, e_lstS, e_seqX, e_gTpT, e_oN, e_oS, e_sl, e_slT, e_slL, e_finT, e_finN, e_index, e_idxT, e_idxL, e_mIx, e_ixST, e_ixSL, e_mtL, e_w, e_w1, e_w2, e_wE, e_wZ, e_itK, e_itT, e_itL, e_itT2, e_itL2, e_lc, e_for, e_wipe0, e_wipe, e_okI, e_okR, e_gSb, List.getElem?_cons_zero, List.getElem?_cons_succ, List.set_cons_zero, List.set_cons_succ]
    try dsimp only
    rw [e_seq]
    try simp only [e_var, e_C, e_op, e_neg, e_isN, e_notN, e_and, e_or, e_not, e_test, e_tAnd, e_tOr, e_tNot, e_tYes, e_if, e_aNil, e_aCons, e_tup, e_lst, e_lstN, e_len0, e_len1, e_len2, e_len3, e_len4, e_len5, e_cb, e_on1, e_on2, e_onI, e_onB, e_onO, e_onO0, e_onOO, e_I0, e_I, e_add, e_addT, e_addS, e_addL, e_addLR, e_addRL, e_addRR, e_mul, e_mulL, e_mulT, e_rev, e_revT, e_ix, e_eqI, e_eqS, e_eqB, e_neI, e_neS, e_neB, e_ltI, e_chain, e_len, e_abs, e_2I, e_tuple1, e_tuple2, e_tuple3, e_listT, e_listN, e_allR, e_seqT, e_seqK, e_seqL, e_isi, e_isB, e_notB, e_truth, e_next, e_drop, e_ret, e_retN, e_ifS, e_set, e_asg, e_par, e_nm, e_gsN, e_gsC, e_gTpK, e_gTpL, e_sum, e_maxL, e_minL, e_maxDef, e_int, e_intB, e_aug, e_on3, e_par3, e_newK, e_getK, e_keyI, e_keyS, e_inK, e_ninK, e_putK, e_lenK, e_lstS, e_seqX, e_gTpT, e_oN, e_oS, e_sl, e_slT, e_slL, e_finT, e_finN, e_index, e_idxT, e_idxL, e_mIx, e_ixST, e_ixSL, e_mtL, e_w, e_w1, e_w2, e_wE, e_wZ, e_itK, e_itT, e_itL, e_itT2, e_itL2, e_lc, e_for, e_wipe0, e_wipe, e_okI, e_okR, e_gSb, List.getElem?_cons_zero, List.getElem?_cons_succ, List.set_cons_zero, List.set_cons_succ]
    refine take_ev (n := left.length * 100 + 150) (Pot.set lt (po.less (by omega))) (by decide) (by decide) fun s0 o1 ls po1 => ?_
    rw [List.set_set]
    obtain ⟨s, es, s1, s2⟩ : ∃ s : Nat, (1 : Int) + (s0 : Nat) = (s : Nat) ∧ 1 ≤ s ∧ s ≤ 64 := ⟨1 + s0, by omega, by omega, by omega⟩
    try simp only [e_var, e_C, e_op, e_neg, e_isN, e_notN, e_and, e_or, e_not, e_test, e_tAnd, e_tOr, e_tNot, e_tYes, e_if, e_aNil, e_aCons, e_tup, e_lst, e_lstN, e_len0, e_len1, e_len2, e_len3, e_len4, e_len5, e_cb, e_on1, e_on2, e_onI, e_onB, e_onO, e_onO0, e_onOO, e_I0, e_I, e_add, e_addT, e_addS, e_addL, e_addLR, e_addRL, e_addRR, e_mul, e_mulL, e_mulT, e_rev, e_revT, e_ix, e_eqI, e_eqS, e_eqB, e_neI, e_neS, e_neB, e_ltI, e_chain, e_len, e_abs, e_2I, e_tuple1, e_tuple2, e_tuple3, e_listT, e_listN, e_allR, e_seqT, e_seqK, e_seqL, e_isi, e_isB, e_notB, e_truth, e_next, e_drop, e_ret, e_retN, e_ifS, e_set, e_asg, e_par, e_nm, e_gsN, e_gsC, e_gTpK, e_gTpL, e_sum, e_maxL, e_minL, e_maxDef, e_int, e_intB, e_aug, e_on3, e_par3, e_newK, e_getK, e_keyI, e_keyS, e_inK, e_ninK, e_putK, e_lenK, e_lstS, e_seqX, e_gTpT, e_oN, e_oS, e_sl, e_slT, e_slL, e_finT, e_finN, e_index, e_idxT, e_idxL, e_mIx, e_ixST, e_ixSL, e_mtL, e_w, e_w1, e_w2, e_wE, e_wZ, e_itK, e_itT, e_itL, e_itT2, e_itL2, e_lc, e_for, e_wipe0, e_wipe, e_okI, e_okR, e_gSb, List.getElem?_cons_zero, List.getElem?_cons_succ, List.set_cons_zero, List.set_cons_succ]
    rw [es]
    try dsimp only
    rw [e_seq]
    try simp only [e_var, e_C, e_op, e_neg, e_isN, e_notN, e_and, e_or, e_not, e_test, e_tAnd, e_tOr, e_tNot, e_tYes, e_if, e_aNil, e_aCons, e_tup, e_lst, e_lstN, e_len0, e_len1, e_len2, e_len3, e_len4, e_len5, e_cb, e_on1, e_on2, e_onI, e_onB, e_onO, e_onO0, e_onOO, e_I0, e_I, e_add, e_addT, e_addS, e_addL, e_addLR, e_addRL, e_addRR, e_mul, e_mulL, e_mulT, e_rev, e_revT, e_ix, e_eqI, e_eqS, e_eqB, e_neI, e_neS, e_neB, e_ltI, e_chain, e_len, e_abs, e_2I, e_tuple1, e_tuple2, e_tuple3, e_listT, e_listN, e_allR, e_seqT, e_seqK, e_seqL, e_isi, e_isB, e_notB, e_truth, e_next, e_drop, e_ret, e_retN, e_ifS, e_set, e_asg, e_par, e_nm, e_gsN, e_gsC, e_gTpK, e_gTpL, e_sum, e_maxL, e_minL, e_maxDef, e_int, e_intB, e_aug, e_on3, e_par3, e_newK, e_getK, e_keyI, e_keyS, e_inK, e_ninK, e_putK, e_lenK, e_lstS, e_seqX, e_gTpT, e_oN, e_oS, e_sl, e_slT, e_slL, e_finT, e_finN, e_index, e_idxT, e_idxL, e_mIx, e_ixST, e_ixSL, e_mtL, e_w, e_w1, e_w2, e_wE, e_wZ, e_itK, e_itT, e_itL, e_itT2, e_itL2, e_lc, e_for, e_wipe0, e_wipe, e_okI, e_okR, e_gSb, List.getElem?_cons_zero, List.getElem?_cons_succ, List.set_cons_zero, List.set_cons_succ]
    refine take_ev (n := left.length * 100 + 149) (Pot.set lt po1) (by omega) (by omega) fun a o2 la po2 => ?_
    rw [List.set_set]
    have la' : a < s := by omega
    refine take_ev (n := left.length * 100 + 148) (Pot.set lt po2) (by decide) (by decide) fun e o3 le po3 => ?_
    rw [List.set_set]
    refine ⟨⟨by decide, by decide +kernel⟩, ?_⟩
    refine pick_ev (n := left.length * 100 + 147) (Pot.set lt po3) (by simp) (by simp) fun d4 o4 hd4 po4 => ?_
    rw [List.set_set]
    obtain ⟨m0, rfl, m1, m2⟩ : ∃ m0 : Nat, d4 = .int (m0 : Nat) ∧ 0 ≤ m0 ∧ m0 ≤ 10 ^ 30 := by
      simp only [List.mem_cons, List.not_mem_nil, or_false] at hd4
      rcases hd4 with rfl | rfl | rfl
      · exact ⟨0, rfl, by decide, by decide⟩
      · exact ⟨e, rfl, by omega, by omega⟩
      · exact ⟨10 ^ 30, congrArg D.int (by decide +kernel), by decide, by decide⟩
    obtain ⟨m, em, mm1, mm2⟩ : ∃ m : Nat, (1 : Int) + (m0 : Nat) = (m : Nat) ∧ 1 ≤ m ∧ m ≤ 10 ^ 30 + 1 := ⟨1 + m0, by omega, by omega, by omega⟩
    try simp only [e_var, e_C, e_op, e_neg, e_isN, e_notN, e_and, e_or, e_not, e_test, e_tAnd, e_tOr, e_tNot, e_tYes, e_if, e_aNil, e_aCons, e_tup, e_lst, e_lstN, e_len0, e_len1, e_len2, e_len3, e_len4, e_len5, e_cb, e_on1, e_on2, e_onI, e_onB, e_onO, e_onO0, e_onOO, e_I0, e_I, e_add, e_addT, e_addS, e_addL, e_addLR, e_addRL, e_addRR, e_mul, e_mulL, e_mulT, e_rev, e_revT, e_ix, e_eqI, e_eqS, e_eqB, e_neI, e_neS, e_neB, e_ltI, e_chain, e_len, e_abs, e_2I, e_tuple1, e_tuple2, e_tuple3, e_listT, e_listN, e_allR, e_seqT, e_seqK, e_seqL, e_isi, e_isB, e_notB, e_truth, e_next, e_drop, e_ret, e_retN, e_ifS, e_set, e_asg, e_par, e_nm, e_gsN, e_gsC, e_gTpK, e_gTpL, e_sum, e_maxL, e_minL, e_maxDef, e_int, e_intB, e_aug, e_on3, e_par3, e_newK, e_getK, e_keyI, e_keyS, e_inK, e_ninK, e_putK, e_lenK, e_lstS, e_seqX, e_gTpT, e_oN, e_oS, e_sl, e_slT, e_slL, e_finT, e_finN, e_index, e_idxT, e_idxL, e_mIx, e_ixST, e_ixSL, e_mtL, e_w, e_w1, e_w2, e_wE, e_wZ, e_itK, e_itT, e_itL, e_itT2, e_itL2, e_lc, e_for, e_wipe0, e_wipe, e_okI, e_okR, e_gSb, List.getElem?_cons_zero, List.getElem?_cons_succ, List.set_cons_zero, List.set_cons_succ]
    rw [em]
    try dsimp only
    rw [e_seq]
    try simp only [e_var, e_C, e_op, e_neg, e_isN, e_notN, e_and, e_or, e_not, e_test, e_tAnd, e_tOr, e_tNot, e_tYes, e_if, e_aNil, e_aCons, e_tup, e_lst, e_lstN, e_len0, e_len1, e_len2, e_len3, e_len4, e_len5, e_cb, e_on1, e_on2, e_onI, e_onB, e_onO, e_onO0, e_onOO, e_I0, e_I, e_add, e_addT, e_addS, e_addL, e_addLR, e_addRL, e_addRR, e_mul, e_mulL, e_mulT, e_rev, e_revT, e_ix, e_eqI, e_eqS, e_eqB, e_neI, e_neS, e_neB, e_ltI, e_chain, e_len, e_abs, e_2I, e_tuple1, e_tuple2, e_tuple3, e_listT, e_listN, e_allR, e_seqT, e_seqK, e_seqL, e_isi, e_isB, e_notB, e_truth, e_next, e_drop, e_ret, e_retN, e_ifS, e_set, e_asg, e_par, e_nm, e_gsN, e_gsC, e_gTpK, e_gTpL, e_sum, e_maxL, e_minL, e_maxDef, e_int, e_intB, e_aug, e_on3, e_par3, e_newK, e_getK, e_keyI, e_keyS, e_inK, e_ninK, e_putK, e_lenK, e_lstS, e_seqX, e_gTpT, e_oN, e_oS, e_sl, e_slT, e_slL, e_finT, e_finN, e_index, e_idxT, e_idxL, e_mIx, e_ixST, e_ixSL, e_mtL, e_w, e_w1, e_w2, e_wE, e_wZ, e_itK, e_itT, e_itL, e_itT2, e_itL2, e_lc, e_for, e_wipe0, e_wipe, e_okI, e_okR, e_gSb, List.getElem?_cons_zero, List.getElem?_cons_succ, List.set_cons_zero, List.set_cons_succ, e_mulTT]
    refine ⟨by simp, by omega, by omega, by simp, by simp; omega, by simp, by omega, by omega, by simp, by simp; omega, ?_⟩
    have ew : (List.replicate (Int.toNat (a : Int)) [D.int 0]).flatten ++ [D.int (s : Int)] ++ (List.replicate (Int.toNat ((s : Int) - (a : Int) - 1)) [D.int 0]).flatten = (whole a s).map D.int := by
      have e1 : Int.toNat ((s : Int) - (a : Int) - 1) = s - a - 1 := by omega
      rw [e1, Int.toNat_natCast, rep_flat, rep_flat]
      unfold whole
      simp
    rw [ew]
    have hr : D.tup ((whole a s).map D.int) = rowD (whole a s) := rfl
    rw [hr]
    have hc := whole_cnt la' (by omega)
    have lw := whole_len la'
    try dsimp only
    rw [e_seq]
    try simp only [e_var, e_C, e_op, e_neg, e_isN, e_notN, e_and, e_or, e_not, e_test, e_tAnd, e_tOr, e_tNot, e_tYes, e_if, e_aNil, e_aCons, e_tup, e_lst, e_lstN, e_len0, e_len1, e_len2, e_len3, e_len4, e_len5, e_cb, e_on1, e_on2, e_onI, e_onB, e_onO, e_onO0, e_onOO, e_I0, e_I, e_add, e_addT, e_addS, e_addL, e_addLR, e_addRL, e_addRR, e_mul, e_mulL, e_mulT, e_rev, e_revT, e_ix, e_eqI, e_eqS, e_eqB, e_neI, e_neS, e_neB, e_ltI, e_chain, e_len, e_abs, e_2I, e_tuple1, e_tuple2, e_tuple3, e_listT, e_listN, e_allR, e_seqT, e_seqK, e_seqL, e_isi, e_isB, e_notB, e_truth, e_next, e_drop, e_ret, e_retN, e_ifS, e_set, e_asg, e_par, e_nm, e_gsN, e_gsC, e_gTpK, e_gTpL, e_sum, e_maxL, e_minL, e_maxDef, e_int, e_intB, e_aug, e_on3, e_par3, e_newK, e_getK, e_keyI, e_keyS, e_inK, e_ninK, e_putK, e_lenK, e_lstS, e_seqX, e_gTpT, e_oN, e_oS, e_sl, e_slT, e_slL, e_finT, e_finN, e_index, e_idxT, e_idxL, e_mIx, e_ixST, e_ixSL, e_mtL, e_w, e_w1, e_w2, e_wE, e_wZ, e_itK, e_itT, e_itL, e_itT2, e_itL2, e_lc, e_for, e_wipe0, e_wipe, e_okI, e_okR, e_gSb, List.getElem?_cons_zero, List.getElem?_cons_succ, List.set_cons_zero, List.set_cons_succ]
    refine ⟨_, rfl, hc, ?_⟩
    have smr : Sm 1 1411 (rowD ((List.range s).map fun i : Nat => (i : Int))) := sm_row (m := 64) (fun x hx => by
      obtain ⟨i, hi, rfl⟩ := List.mem_map.mp hx
      have := List.mem_range.mp hi
      omega) (by simp; omega)
    have er : rgD 0 s = ((List.range s).map fun i : Nat => (i : Int)).map D.int := by
      rw [rgD0, List.map_map]
      rfl
    unfold dLRg1 finT
    try simp only [e_var, e_C, e_op, e_neg, e_isN, e_notN, e_and, e_or, e_not, e_test, e_tAnd, e_tOr, e_tNot, e_tYes, e_if, e_aNil, e_aCons, e_tup, e_lst, e_lstN, e_len0, e_len1, e_len2, e_len3, e_len4, e_len5, e_cb, e_on1, e_on2, e_onI, e_onB, e_onO, e_onO0, e_onOO, e_I0, e_I, e_add, e_addT, e_addS, e_addL, e_addLR, e_addRL, e_addRR, e_mul, e_mulL, e_mulT, e_rev, e_revT, e_ix, e_eqI, e_eqS, e_eqB, e_neI, e_neS, e_neB, e_ltI, e_chain, e_len, e_abs, e_2I, e_tuple1, e_tuple2, e_tuple3, e_listT, e_listN, e_allR, e_seqT, e_seqK, e_seqL, e_isi, e_isB, e_notB, e_truth, e_next, e_drop, e_ret, e_retN, e_ifS, e_set, e_asg, e_par, e_nm, e_gsN, e_gsC, e_gTpK, e_gTpL, e_sum, e_maxL, e_minL, e_maxDef, e_int, e_intB, e_aug, e_on3, e_par3, e_newK, e_getK, e_keyI, e_keyS, e_inK, e_ninK, e_putK, e_lenK, e_lstS, e_seqX, e_gTpT, e_oN, e_oS, e_sl, e_slT, e_slL, e_finT, e_finN, e_index, e_idxT, e_idxL, e_mIx, e_ixST, e_ixSL, e_mtL, e_w, e_w1, e_w2, e_wE, e_wZ, e_itK, e_itT, e_itL, e_itT2, e_itL2, e_lc, e_for, e_wipe0, e_wipe, e_okI, e_okR, e_gSb, List.getElem?_cons_zero, List.getElem?_cons_succ, List.set_cons_zero, List.set_cons_succ, Int.toNat_natCast]
    refine ⟨RgOk.of_le (by decide) (by omega) (by decide) (by omega), ?_⟩
    rw [er, whole_taken la' (by omega)]
    refine ne_tup (xs := ((List.range s).map fun i : Nat => (i : Int)).map D.int) smr (by decide) ?_
    try simp only [e_var, e_C, e_op, e_neg, e_isN, e_notN, e_and, e_or, e_not, e_test, e_tAnd, e_tOr, e_tNot, e_tYes, e_if, e_aNil, e_aCons, e_tup, e_lst, e_lstN, e_len0, e_len1, e_len2, e_len3, e_len4, e_len5, e_cb, e_on1, e_on2, e_onI, e_onB, e_onO, e_onO0, e_onOO, e_I0, e_I, e_add, e_addT, e_addS, e_addL, e_addLR, e_addRL, e_addRR, e_mul, e_mulL, e_mulT, e_rev, e_revT, e_ix, e_eqI, e_eqS, e_eqB, e_neI, e_neS, e_neB, e_ltI, e_chain, e_len, e_abs, e_2I, e_tuple1, e_tuple2, e_tuple3, e_listT, e_listN, e_allR, e_seqT, e_seqK, e_seqL, e_isi, e_isB, e_notB, e_truth, e_next, e_drop, e_ret, e_retN, e_ifS, e_set, e_asg, e_par, e_nm, e_gsN, e_gsC, e_gTpK, e_gTpL, e_sum, e_maxL, e_minL, e_maxDef, e_int, e_intB, e_aug, e_on3, e_par3, e_newK, e_getK, e_keyI, e_keyS, e_inK, e_ninK, e_putK, e_lenK, e_lstS, e_seqX, e_gTpT, e_oN, e_oS, e_sl, e_slT, e_slL, e_finT, e_finN, e_index, e_idxT, e_idxL, e_mIx, e_ixST, e_ixSL, e_mtL, e_w, e_w1, e_w2, e_wE, e_wZ, e_itK, e_itT, e_itL, e_itT2, e_itL2, e_lc, e_for, e_wipe0, e_wipe, e_okI, e_okR, e_gSb, List.getElem?_cons_zero, List.getElem?_cons_succ, List.set_cons_zero, List.set_cons_succ]
    refine iteF ⟨_, rfl, hc, ?_⟩
    rw [whole_max la' (by omega)]
    try simp only [e_var, e_C, e_op, e_neg, e_isN, e_notN, e_and, e_or, e_not, e_test, e_tAnd, e_tOr, e_tNot, e_tYes, e_if, e_aNil, e_aCons, e_tup, e_lst, e_lstN, e_len0, e_len1, e_len2, e_len3, e_len4, e_len5, e_cb, e_on1, e_on2, e_onI, e_onB, e_onO, e_onO0, e_onOO, e_I0, e_I, e_add, e_addT, e_addS, e_addL, e_addLR, e_addRL, e_addRR, e_mul, e_mulL, e_mulT, e_rev, e_revT, e_ix, e_eqI, e_eqS, e_eqB, e_neI, e_neS, e_neB, e_ltI, e_chain, e_len, e_abs, e_2I, e_tuple1, e_tuple2, e_tuple3, e_listT, e_listN, e_allR, e_seqT, e_seqK, e_seqL, e_isi, e_isB, e_notB, e_truth, e_next, e_drop, e_ret, e_retN, e_ifS, e_set, e_asg, e_par, e_nm, e_gsN, e_gsC, e_gTpK, e_gTpL, e_sum, e_maxL, e_minL, e_maxDef, e_int, e_intB, e_aug, e_on3, e_par3, e_newK, e_getK, e_keyI, e_keyS, e_inK, e_ninK, e_putK, e_lenK, e_lstS, e_seqX, e_gTpT, e_oN, e_oS, e_sl, e_slT, e_slL, e_finT, e_finN, e_index, e_idxT, e_idxL, e_mIx, e_ixST, e_ixSL, e_mtL, e_w, e_w1, e_w2, e_wE, e_wZ, e_itK, e_itT, e_itL, e_itT2, e_itL2, e_lc, e_for, e_wipe0, e_wipe, e_okI, e_okR, e_gSb, List.getElem?_cons_zero, List.getElem?_cons_succ, List.set_cons_zero, List.set_cons_succ, decide_true, Bool.not_true]
    refine iteF ?_
    try dsimp only
    rw [e_seq]
    try simp only [e_var, e_C, e_op, e_neg, e_isN, e_notN, e_and, e_or, e_not, e_test, e_tAnd, e_tOr, e_tNot, e_tYes, e_if, e_aNil, e_aCons, e_tup, e_lst, e_lstN, e_len0, e_len1, e_len2, e_len3, e_len4, e_len5, e_cb, e_on1, e_on2, e_onI, e_onB, e_onO, e_onO0, e_onOO, e_I0, e_I, e_add, e_addT, e_addS, e_addL, e_addLR, e_addRL, e_addRR, e_mul, e_mulL, e_mulT, e_rev, e_revT, e_ix, e_eqI, e_eqS, e_eqB, e_neI, e_neS, e_neB, e_ltI, e_chain, e_len, e_abs, e_2I, e_tuple1, e_tuple2, e_tuple3, e_listT, e_listN, e_allR, e_seqT, e_seqK, e_seqL, e_isi, e_isB, e_notB, e_truth, e_next, e_drop, e_ret, e_retN, e_ifS, e_set, e_asg, e_par, e_nm, e_gsN, e_gsC, e_gTpK, e_gTpL, e_sum, e_maxL, e_minL, e_maxDef, e_int, e_intB, e_aug, e_on3, e_par3, e_newK, e_getK, e_keyI, e_keyS, e_inK, e_ninK, e_putK, e_lenK, e_lstS, e_seqX, e_gTpT, e_oN, e_oS, e_sl, e_slT, e_slL, e_finT, e_finN, e_index, e_idxT, e_idxL, e_mIx, e_ixST, e_ixSL, e_mtL, e_w, e_w1, e_w2, e_wE, e_wZ, e_itK, e_itT, e_itL, e_itT2, e_itL2, e_lc, e_for, e_wipe0, e_wipe, e_okI, e_okR, e_gSb, List.getElem?_cons_zero, List.getElem?_cons_succ, List.set_cons_zero, List.set_cons_succ, Int.toNat_natCast]
    refine ⟨⟨by omega, by omega⟩, by rw [rgD_length]; omega, ?_⟩
    refine lc_rng (fun i => .int ((i : Int) * (i : Int))) (fun i li Q' q' => ?_) ?_
    · try simp only [e_var, e_C, e_op, e_neg, e_isN, e_notN, e_and, e_or, e_not, e_test, e_tAnd, e_tOr, e_tNot, e_tYes, e_if, e_aNil, e_aCons, e_tup, e_lst, e_lstN, e_len0, e_len1, e_len2, e_len3, e_len4, e_len5, e_cb, e_on1, e_on2, e_onI, e_onB, e_onO, e_onO0, e_onOO, e_I0, e_I, e_add, e_addT, e_addS, e_addL, e_addLR, e_addRL, e_addRR, e_mul, e_mulL, e_mulT, e_rev, e_revT, e_ix, e_eqI, e_eqS, e_eqB, e_neI, e_neS, e_neB, e_ltI, e_chain, e_len, e_abs, e_2I, e_tuple1, e_tuple2, e_tuple3, e_listT, e_listN, e_allR, e_seqT, e_seqK, e_seqL, e_isi, e_isB, e_notB, e_truth, e_next, e_drop, e_ret, e_retN, e_ifS, e_set, e_asg, e_par, e_nm, e_gsN, e_gsC, e_gTpK, e_gTpL, e_sum, e_maxL, e_minL, e_maxDef, e_int, e_intB, e_aug, e_on3, e_par3, e_newK, e_getK, e_keyI, e_keyS, e_inK, e_ninK, e_putK, e_lenK, e_lstS, e_seqX, e_gTpT, e_oN, e_oS, e_sl, e_slT, e_slL, e_finT, e_finN, e_index, e_idxT, e_idxL, e_mIx, e_ixST, e_ixSL, e_mtL, e_w, e_w1, e_w2, e_wE, e_wZ, e_itK, e_itT, e_itL, e_itT2, e_itL2, e_lc, e_for, e_wipe0, e_wipe, e_okI, e_okR, e_gSb, List.getElem?_cons_zero, List.getElem?_cons_succ, List.set_cons_zero, List.set_cons_succ]
      exact ⟨.inl ⟨by omega, by omega⟩, q'⟩
    try dsimp only
    rw [intsD_map (fun i : Nat => (i : Int) * (i : Int))]
    try simp only [e_var, e_C, e_op, e_neg, e_isN, e_notN, e_and, e_or, e_not, e_test, e_tAnd, e_tOr, e_tNot, e_tYes, e_if, e_aNil, e_aCons, e_tup, e_lst, e_lstN, e_len0, e_len1, e_len2, e_len3, e_len4, e_len5, e_cb, e_on1, e_on2, e_onI, e_onB, e_onO, e_onO0, e_onOO, e_I0, e_I, e_add, e_addT, e_addS, e_addL, e_addLR, e_addRL, e_addRR, e_mul, e_mulL, e_mulT, e_rev, e_revT, e_ix, e_eqI, e_eqS, e_eqB, e_neI, e_neS, e_neB, e_ltI, e_chain, e_len, e_abs, e_2I, e_tuple1, e_tuple2, e_tuple3, e_listT, e_listN, e_allR, e_seqT, e_seqK, e_seqL, e_isi, e_isB, e_notB, e_truth, e_next, e_drop, e_ret, e_retN, e_ifS, e_set, e_asg, e_par, e_nm, e_gsN, e_gsC, e_gTpK, e_gTpL, e_sum, e_maxL, e_minL, e_maxDef, e_int, e_intB, e_aug, e_on3, e_par3, e_newK, e_getK, e_keyI, e_keyS, e_inK, e_ninK, e_putK, e_lenK, e_lstS, e_seqX, e_gTpT, e_oN, e_oS, e_sl, e_slT, e_slL, e_finT, e_finN, e_index, e_idxT, e_idxL, e_mIx, e_ixST, e_ixSL, e_mtL, e_w, e_w1, e_w2, e_wE, e_wZ, e_itK, e_itT, e_itL, e_itT2, e_itL2, e_lc, e_for, e_wipe0, e_wipe, e_okI, e_okR, e_gSb, List.getElem?_cons_zero, List.getElem?_cons_succ, List.set_cons_zero, List.set_cons_succ, ML.sum_sumL]
    try dsimp only
    rw [e_seq]
    try simp only [e_var, e_C, e_op, e_neg, e_isN, e_notN, e_and, e_or, e_not, e_test, e_tAnd, e_tOr, e_tNot, e_tYes, e_if, e_aNil, e_aCons, e_tup, e_lst, e_lstN, e_len0, e_len1, e_len2, e_len3, e_len4, e_len5, e_cb, e_on1, e_on2, e_onI, e_onB, e_onO, e_onO0, e_onOO, e_I0, e_I, e_add, e_addT, e_addS, e_addL, e_addLR, e_addRL, e_addRR, e_mul, e_mulL, e_mulT, e_rev, e_revT, e_ix, e_eqI, e_eqS, e_eqB, e_neI, e_neS, e_neB, e_ltI, e_chain, e_len, e_abs, e_2I, e_tuple1, e_tuple2, e_tuple3, e_listT, e_listN, e_allR, e_seqT, e_seqK, e_seqL, e_isi, e_isB, e_notB, e_truth, e_next, e_drop, e_ret, e_retN, e_ifS, e_set, e_asg, e_par, e_nm, e_gsN, e_gsC, e_gTpK, e_gTpL, e_sum, e_maxL, e_minL, e_maxDef, e_int, e_intB, e_aug, e_on3, e_par3, e_newK, e_getK, e_keyI, e_keyS, e_inK, e_ninK, e_putK, e_lenK, e_lstS, e_seqX, e_gTpT, e_oN, e_oS, e_sl, e_slT, e_slL, e_finT, e_finN, e_index, e_idxT, e_idxL, e_mIx, e_ixST, e_ixSL, e_mtL, e_w, e_w1, e_w2, e_wE, e_wZ, e_itK, e_itT, e_itL, e_itT2, e_itL2, e_lc, e_for, e_wipe0, e_wipe, e_okI, e_okR, e_gSb, List.getElem?_cons_zero, List.getElem?_cons_succ, List.set_cons_zero, List.set_cons_succ]
    refine ⟨_, rfl, hc, ?_⟩
    refine ⟨_, rfl, hc, ?_⟩
    have sqb := waits_sq_le hc (by rw [lw]; omega)
    rw [whole_sq la' (by omega)] at sqb
    have tri : 0 ≤ (s : Int) * ((s : Int) - 1) ∧ (s : Int) * ((s : Int) - 1) ≤ 64 * 64 := ⟨Int.mul_nonneg (by omega) (by omega), Int.mul_le_mul (by omega) (by omega) (by omega) (by decide)⟩
    rw [whole_dsum la', whole_sq la' (by omega)]
    have sml : Sm 1 100 (.lst [.int ((s : Int) * ((s : Int) - 1) / 2), .int (ML.sumL ((List.range s).map fun i : Nat => (i : Int) * (i : Int)))]) := Sm.mono (sm_lst (k := 0) (c := 20) (m := 2) (fun d hd => by
      simp only [List.mem_cons, List.not_mem_nil, or_false] at hd
      rcases hd with rfl | rfl
      · exact sm_intB (by omega)
      · exact sm_intB (by omega)) (by simp)) (by decide) (by decide)
    try simp only [e_var, e_C, e_op, e_neg, e_isN, e_notN, e_and, e_or, e_not, e_test, e_tAnd, e_tOr, e_tNot, e_tYes, e_if, e_aNil, e_aCons, e_tup, e_lst, e_lstN, e_len0, e_len1, e_len2, e_len3, e_len4, e_len5, e_cb, e_on1, e_on2, e_onI, e_onB, e_onO, e_onO0, e_onOO, e_I0, e_I, e_add, e_addT, e_addS, e_addL, e_addLR, e_addRL, e_addRR, e_mul, e_mulL, e_mulT, e_rev, e_revT, e_ix, e_eqI, e_eqS, e_eqB, e_neI, e_neS, e_neB, e_ltI, e_chain, e_len, e_abs, e_2I, e_tuple1, e_tuple2, e_tuple3, e_listT, e_listN, e_allR, e_seqT, e_seqK, e_seqL, e_isi, e_isB, e_notB, e_truth, e_next, e_drop, e_ret, e_retN, e_ifS, e_set, e_asg, e_par, e_nm, e_gsN, e_gsC, e_gTpK, e_gTpL, e_sum, e_maxL, e_minL, e_maxDef, e_int, e_intB, e_aug, e_on3, e_par3, e_newK, e_getK, e_keyI, e_keyS, e_inK, e_ninK, e_putK, e_lenK, e_lstS, e_seqX, e_gTpT, e_oN, e_oS, e_sl, e_slT, e_slL, e_finT, e_finN, e_index, e_idxT, e_idxL, e_mIx, e_ixST, e_ixSL, e_mtL, e_w, e_w1, e_w2, e_wE, e_wZ, e_itK, e_itT, e_itL, e_itT2, e_itL2, e_lc, e_for, e_wipe0, e_wipe, e_okI, e_okR, e_gSb, List.getElem?_cons_zero, List.getElem?_cons_succ, List.set_cons_zero, List.set_cons_succ]
    refine ⟨.inl ⟨by omega, by omega⟩, ⟨by decide, by decide⟩, ?_⟩
    refine eq_lst sml (by decide) true ?_
    try simp only [e_var, e_C, e_op, e_neg, e_isN, e_notN, e_and, e_or, e_not, e_test, e_tAnd, e_tOr, e_tNot, e_tYes, e_if, e_aNil, e_aCons, e_tup, e_lst, e_lstN, e_len0, e_len1, e_len2, e_len3, e_len4, e_len5, e_cb, e_on1, e_on2, e_onI, e_onB, e_onO, e_onO0, e_onOO, e_I0, e_I, e_add, e_addT, e_addS, e_addL, e_addLR, e_addRL, e_addRR, e_mul, e_mulL, e_mulT, e_rev, e_revT, e_ix, e_eqI, e_eqS, e_eqB, e_neI, e_neS, e_neB, e_ltI, e_chain, e_len, e_abs, e_2I, e_tuple1, e_tuple2, e_tuple3, e_listT, e_listN, e_allR, e_seqT, e_seqK, e_seqL, e_isi, e_isB, e_notB, e_truth, e_next, e_drop, e_ret, e_retN, e_ifS, e_set, e_asg, e_par, e_nm, e_gsN, e_gsC, e_gTpK, e_gTpL, e_sum, e_maxL, e_minL, e_maxDef, e_int, e_intB, e_aug, e_on3, e_par3, e_newK, e_getK, e_keyI, e_keyS, e_inK, e_ninK, e_putK, e_lenK, e_lstS, e_seqX, e_gTpT, e_oN, e_oS, e_sl, e_slT, e_slL, e_finT, e_finN, e_index, e_idxT, e_idxL, e_mIx, e_ixST, e_ixSL, e_mtL, e_w, e_w1, e_w2, e_wE, e_wZ, e_itK, e_itT, e_itL, e_itT2, e_itL2, e_lc, e_for, e_wipe0, e_wipe, e_okI, e_okR, e_gSb, List.getElem?_cons_zero, List.getElem?_cons_succ, List.set_cons_zero, List.set_cons_succ]
    refine iteF' rfl ?_
    try dsimp only
    rw [e_seq]
    try simp only [e_var, e_C, e_op, e_neg, e_isN, e_notN, e_and, e_or, e_not, e_test, e_tAnd, e_tOr, e_tNot, e_tYes, e_if, e_aNil, e_aCons, e_tup, e_lst, e_lstN, e_len0, e_len1, e_len2, e_len3, e_len4, e_len5, e_cb, e_on1, e_on2, e_onI, e_onB, e_onO, e_onO0, e_onOO, e_I0, e_I, e_add, e_addT, e_addS, e_addL, e_addLR, e_addRL, e_addRR, e_mul, e_mulL, e_mulT, e_rev, e_revT, e_ix, e_eqI, e_eqS, e_eqB, e_neI, e_neS, e_neB, e_ltI, e_chain, e_len, e_abs, e_2I, e_tuple1, e_tuple2, e_tuple3, e_listT, e_listN, e_allR, e_seqT, e_seqK, e_seqL, e_isi, e_isB, e_notB, e_truth, e_next, e_drop, e_ret, e_retN, e_ifS, e_set, e_asg, e_par, e_nm, e_gsN, e_gsC, e_gTpK, e_gTpL, e_sum, e_maxL, e_minL, e_maxDef, e_int, e_intB, e_aug, e_on3, e_par3, e_newK, e_getK, e_keyI, e_keyS, e_inK, e_ninK, e_putK, e_lenK, e_lstS, e_seqX, e_gTpT, e_oN, e_oS, e_sl, e_slT, e_slL, e_finT, e_finN, e_index, e_idxT, e_idxL, e_mIx, e_ixST, e_ixSL, e_mtL, e_w, e_w1, e_w2, e_wE, e_wZ, e_itK, e_itT, e_itL, e_itT2, e_itL2, e_lc, e_for, e_wipe0, e_wipe, e_okI, e_okR, e_gSb, List.getElem?_cons_zero, List.getElem?_cons_succ, List.set_cons_zero, List.set_cons_succ]
    unfold rowD
    try simp only [e_var, e_C, e_op, e_neg, e_isN, e_notN, e_and, e_or, e_not, e_test, e_tAnd, e_tOr, e_tNot, e_tYes, e_if, e_aNil, e_aCons, e_tup, e_lst, e_lstN, e_len0, e_len1, e_len2, e_len3, e_len4, e_len5, e_cb, e_on1, e_on2, e_onI, e_onB, e_onO, e_onO0, e_onOO, e_I0, e_I, e_add, e_addT, e_addS, e_addL, e_addLR, e_addRL, e_addRR, e_mul, e_mulL, e_mulT, e_rev, e_revT, e_ix, e_eqI, e_eqS, e_eqB, e_neI, e_neS, e_neB, e_ltI, e_chain, e_len, e_abs, e_2I, e_tuple1, e_tuple2, e_tuple3, e_listT, e_listN, e_allR, e_seqT, e_seqK, e_seqL, e_isi, e_isB, e_notB, e_truth, e_next, e_drop, e_ret, e_retN, e_ifS, e_set, e_asg, e_par, e_nm, e_gsN, e_gsC, e_gTpK, e_gTpL, e_sum, e_maxL, e_minL, e_maxDef, e_int, e_intB, e_aug, e_on3, e_par3, e_newK, e_getK, e_keyI, e_keyS, e_inK, e_ninK, e_putK, e_lenK, e_lstS, e_seqX, e_gTpT, e_oN, e_oS, e_sl, e_slT, e_slL, e_finT, e_finN, e_index, e_idxT, e_idxL, e_mIx, e_ixST, e_ixSL, e_mtL, e_w, e_w1, e_w2, e_wE, e_wZ, e_itK, e_itT, e_itL, e_itT2, e_itL2, e_lc, e_for, e_wipe0, e_wipe, e_okI, e_okR, e_gSb, List.getElem?_cons_zero, List.getElem?_cons_succ, List.set_cons_zero, List.set_cons_succ]
    have ea1 : ((a : Nat) : Int) + 1 = ((a + 1 : Nat) : Int) := by omega
    have big40 : ((10 : Int) ^ 40) = ((10 ^ 40 : Nat) : Int) := by decide +kernel
    have b40 : (10 ^ 30 : Nat) + 100 < 10 ^ 40 := by decide +kernel
    have eo : ((whole a s).map D.int).take a ++ [D.int ((s : Int) + (m : Int))] ++ ((whole a s).map D.int).drop (a + 1) = (List.replicate a (0 : Int) ++ [(s : Int) + (m : Int)] ++ List.replicate (s - a - 1) 0).map D.int := by
      rw [← List.map_take, ← List.map_drop, List.map_append, List.map_append]
      have t1 : (whole a s).take a = List.replicate a 0 := by
        unfold whole
        rw [List.append_assoc, List.take_append_of_le_length (by simp), List.take_of_length_le (by simp)]
      have t2 : (whole a s).drop (a + 1) = List.replicate (s - a - 1) 0 := by
        unfold whole
        rw [List.drop_append, List.drop_of_length_le (by simp), List.nil_append]
        simp
      rw [t1, t2]
      rfl
    have lt0 : (((whole a s).map D.int).take a).length ≤ 64 := by rw [List.length_take, List.length_map, lw]; omega
    have lt1 : (((whole a s).map D.int).drop (a + 1)).length ≤ 64 := by rw [List.length_drop, List.length_map, lw]; omega
    rw [cutT, ea1, cutN]
    refine ⟨by simp only [List.length_singleton]; omega, by rw [List.length_append]; simp only [List.length_singleton]; omega, ?_⟩
    rw [eo]
    refine ⟨_, _, rfl, by simp; omega, whole_over la' _, by simp; omega, sm_big (by omega) (by rw [big40]; omega), ?_⟩
    try simp only [e_var, e_C, e_op, e_neg, e_isN, e_notN, e_and, e_or, e_not, e_test, e_tAnd, e_tOr, e_tNot, e_tYes, e_if, e_aNil, e_aCons, e_tup, e_lst, e_lstN, e_len0, e_len1, e_len2, e_len3, e_len4, e_len5, e_cb, e_on1, e_on2, e_onI, e_onB, e_onO, e_onO0, e_onOO, e_I0, e_I, e_add, e_addT, e_addS, e_addL, e_addLR, e_addRL, e_addRR, e_mul, e_mulL, e_mulT, e_rev, e_revT, e_ix, e_eqI, e_eqS, e_eqB, e_neI, e_neS, e_neB, e_ltI, e_chain, e_len, e_abs, e_2I, e_tuple1, e_tuple2, e_tuple3, e_listT, e_listN, e_allR, e_seqT, e_seqK, e_seqL, e_isi, e_isB, e_notB, e_truth, e_next, e_drop, e_ret, e_retN, e_ifS, e_set, e_asg, e_par, e_nm, e_gsN, e_gsC, e_gTpK, e_gTpL, e_sum, e_maxL, e_minL, e_maxDef, e_int, e_intB, e_aug, e_on3, e_par3, e_newK, e_getK, e_keyI, e_keyS, e_inK, e_ninK, e_putK, e_lenK, e_lstS, e_seqX, e_gTpT, e_oN, e_oS, e_sl, e_slT, e_slL, e_finT, e_finN, e_index, e_idxT, e_idxL, e_mIx, e_ixST, e_ixSL, e_mtL, e_w, e_w1, e_w2, e_wE, e_wZ, e_itK, e_itT, e_itL, e_itT2, e_itL2, e_lc, e_for, e_wipe0, e_wipe, e_okI, e_okR, e_gSb, List.getElem?_cons_zero, List.getElem?_cons_succ, List.set_cons_zero, List.set_cons_succ]
    refine iteF' rfl ?_
    try dsimp only
    rw [e_seq]
    try simp only [e_var, e_C, e_op, e_neg, e_isN, e_notN, e_and, e_or, e_not, e_test, e_tAnd, e_tOr, e_tNot, e_tYes, e_if, e_aNil, e_aCons, e_tup, e_lst, e_lstN, e_len0, e_len1, e_len2, e_len3, e_len4, e_len5, e_cb, e_on1, e_on2, e_onI, e_onB, e_onO, e_onO0, e_onOO, e_I0, e_I, e_add, e_addT, e_addS, e_addL, e_addLR, e_addRL, e_addRR, e_mul, e_mulL, e_mulT, e_rev, e_revT, e_ix, e_eqI, e_eqS, e_eqB, e_neI, e_neS, e_neB, e_ltI, e_chain, e_len, e_abs, e_2I, e_tuple1, e_tuple2, e_tuple3, e_listT, e_listN, e_allR, e_seqT, e_seqK, e_seqL, e_isi, e_isB, e_notB, e_truth, e_next, e_drop, e_ret, e_retN, e_ifS, e_set, e_asg, e_par, e_nm, e_gsN, e_gsC, e_gTpK, e_gTpL, e_sum, e_maxL, e_minL, e_maxDef, e_int, e_intB, e_aug, e_on3, e_par3, e_newK, e_getK, e_keyI, e_keyS, e_inK, e_ninK, e_putK, e_lenK, e_lstS, e_seqX, e_gTpT, e_oN, e_oS, e_sl, e_slT, e_slL, e_finT, e_finN, e_index, e_idxT, e_idxL, e_mIx, e_ixST, e_ixSL, e_mtL, e_w, e_w1, e_w2, e_wE, e_wZ, e_itK, e_itT, e_itL, e_itT2, e_itL2, e_lc, e_for, e_wipe0, e_wipe, e_okI, e_okR, e_gSb, List.getElem?_cons_zero, List.getElem?_cons_succ, List.set_cons_zero, List.set_cons_succ]
    refine ⟨_, [((s : Int), 1), (1, (m : Int) + 1)], _, rfl, .inr rfl, ⟨by simp, fun p hp => ?_, ?_, ?_⟩, sm_big (by omega) (by rw [big40]; omega), ?_⟩
    · simp only [List.mem_cons, List.not_mem_nil, or_false] at hp
      rcases hp with rfl | rfl
      · exact ⟨by show -(2 ^ 64) < (s : Int); omega, by show (s : Int) < 2 ^ 64; omega⟩
      · exact ⟨by show -(2 ^ 64) < (1 : Int); decide, by show (1 : Int) < 2 ^ 64; decide⟩
    · simp only [List.map_cons, List.map_nil, List.sum_cons, List.sum_nil]
      omega
    · simp only [List.map_cons, List.map_nil, List.sum_cons, List.sum_nil]
      omega
    try simp only [e_var, e_C, e_op, e_neg, e_isN, e_notN, e_and, e_or, e_not, e_test, e_tAnd, e_tOr, e_tNot, e_tYes, e_if, e_aNil, e_aCons, e_tup, e_lst, e_lstN, e_len0, e_len1, e_len2, e_len3, e_len4, e_len5, e_cb, e_on1, e_on2, e_onI, e_onB, e_onO, e_onO0, e_onOO, e_I0, e_I, e_add, e_addT, e_addS, e_addL, e_addLR, e_addRL, e_addRR, e_mul, e_mulL, e_mulT, e_rev, e_revT, e_ix, e_eqI, e_eqS, e_eqB, e_neI, e_neS, e_neB, e_ltI, e_chain, e_len, e_abs, e_2I, e_tuple1, e_tuple2, e_tuple3, e_listT, e_listN, e_allR, e_seqT, e_seqK, e_seqL, e_isi, e_isB, e_notB, e_truth, e_next, e_drop, e_ret, e_retN, e_ifS, e_set, e_asg, e_par, e_nm, e_gsN, e_gsC, e_gTpK, e_gTpL, e_sum, e_maxL, e_minL, e_maxDef, e_int, e_intB, e_aug, e_on3, e_par3, e_newK, e_getK, e_keyI, e_keyS, e_inK, e_ninK, e_putK, e_lenK, e_lstS, e_seqX, e_gTpT, e_oN, e_oS, e_sl, e_slT, e_slL, e_finT, e_finN, e_index, e_idxT, e_idxL, e_mIx, e_ixST, e_ixSL, e_mtL, e_w, e_w1, e_w2, e_wE, e_wZ, e_itK, e_itT, e_itL, e_itT2, e_itL2, e_lc, e_for, e_wipe0, e_wipe, e_okI, e_okR, e_gSb, List.getElem?_cons_zero, List.getElem?_cons_succ, List.set_cons_zero, List.set_cons_succ]
    refine iteF' rfl ?_
    try dsimp only
    rw [e_seq]
    try simp only [e_var, e_C, e_op, e_neg, e_isN, e_notN, e_and, e_or, e_not, e_test, e_tAnd, e_tOr, e_tNot, e_tYes, e_if, e_aNil, e_aCons, e_tup, e_lst, e_lstN, e_len0, e_len1, e_len2, e_len3, e_len4, e_len5, e_cb, e_on1, e_on2, e_onI, e_onB, e_onO, e_onO0, e_onOO, e_I0, e_I, e_add, e_addT, e_addS, e_addL, e_addLR, e_addRL, e_addRR, e_mul, e_mulL, e_mulT, e_rev, e_revT, e_ix, e_eqI, e_eqS, e_eqB, e_neI, e_neS, e_neB, e_ltI, e_chain, e_len, e_abs, e_2I, e_tuple1, e_tuple2, e_tuple3, e_listT, e_listN, e_allR, e_seqT, e_seqK, e_seqL, e_isi, e_isB, e_notB, e_truth, e_next, e_drop, e_ret, e_retN, e_ifS, e_set, e_asg, e_par, e_nm, e_gsN, e_gsC, e_gTpK, e_gTpL, e_sum, e_maxL, e_minL, e_maxDef, e_int, e_intB, e_aug, e_on3, e_par3, e_newK, e_getK, e_keyI, e_keyS, e_inK, e_ninK, e_putK, e_lenK, e_lstS, e_seqX, e_gTpT, e_oN, e_oS, e_sl, e_slT, e_slL, e_finT, e_finN, e_index, e_idxT, e_idxL, e_mIx, e_ixST, e_ixSL, e_mtL, e_w, e_w1, e_w2, e_wE, e_wZ, e_itK, e_itT, e_itL, e_itT2, e_itL2, e_lc, e_for, e_wipe0, e_wipe, e_okI, e_okR, e_gSb, List.getElem?_cons_zero, List.getElem?_cons_succ, List.set_cons_zero, List.set_cons_succ, e_mulTT]
    have oc := ones_cnt s1 (by omega : s ≤ 900)
    have e1 : (List.replicate (Int.toNat (s : Int)) [D.int 1]).flatten = (List.replicate s (1 : Int)).map D.int := by rw [Int.toNat_natCast, rep_flat, List.map_replicate]
    have e0' : (List.replicate (Int.toNat (s : Int)) [D.int 0]).flatten = (List.replicate s (0 : Int)).map D.int := by rw [Int.toNat_natCast, rep_flat, List.map_replicate]
    rw [e1, e0']
    have hr1 : D.tup ((List.replicate s (1 : Int)).map D.int) = rowD (List.replicate s 1) := rfl
    rw [hr1]
    refine ⟨by simp, by omega, by omega, by simp, ⟨_, rfl, oc, ?_⟩⟩
    refine ⟨by simp, by omega, by omega, by simp, ?_⟩
    rw [flows_ones]
    have smz : Sm 1 1411 (rowD (List.replicate s 0)) := sm_row (m := 64) (fun x hx => by rw [List.eq_of_mem_replicate hx]; omega) (by simp; omega)
    refine ne_tup (xs := (List.replicate s (0 : Int)).map D.int) smz (by decide) ?_
    try simp only [e_var, e_C, e_op, e_neg, e_isN, e_notN, e_and, e_or, e_not, e_test, e_tAnd, e_tOr, e_tNot, e_tYes, e_if, e_aNil, e_aCons, e_tup, e_lst, e_lstN, e_len0, e_len1, e_len2, e_len3, e_len4, e_len5, e_cb, e_on1, e_on2, e_onI, e_onB, e_onO, e_onO0, e_onOO, e_I0, e_I, e_add, e_addT, e_addS, e_addL, e_addLR, e_addRL, e_addRR, e_mul, e_mulL, e_mulT, e_rev, e_revT, e_ix, e_eqI, e_eqS, e_eqB, e_neI, e_neS, e_neB, e_ltI, e_chain, e_len, e_abs, e_2I, e_tuple1, e_tuple2, e_tuple3, e_listT, e_listN, e_allR, e_seqT, e_seqK, e_seqL, e_isi, e_isB, e_notB, e_truth, e_next, e_drop, e_ret, e_retN, e_ifS, e_set, e_asg, e_par, e_nm, e_gsN, e_gsC, e_gTpK, e_gTpL, e_sum, e_maxL, e_minL, e_maxDef, e_int, e_intB, e_aug, e_on3, e_par3, e_newK, e_getK, e_keyI, e_keyS, e_inK, e_ninK, e_putK, e_lenK, e_lstS, e_seqX, e_gTpT, e_oN, e_oS, e_sl, e_slT, e_slL, e_finT, e_finN, e_index, e_idxT, e_idxL, e_mIx, e_ixST, e_ixSL, e_mtL, e_w, e_w1, e_w2, e_wE, e_wZ, e_itK, e_itT, e_itL, e_itT2, e_itL2, e_lc, e_for, e_wipe0, e_wipe, e_okI, e_okR, e_gSb, List.getElem?_cons_zero, List.getElem?_cons_succ, List.set_cons_zero, List.set_cons_succ]
    refine iteF' rfl ⟨_, rfl, oc, ?_⟩
    rw [ones_sq s1 (by omega)]
    try simp only [e_var, e_C, e_op, e_neg, e_isN, e_notN, e_and, e_or, e_not, e_test, e_tAnd, e_tOr, e_tNot, e_tYes, e_if, e_aNil, e_aCons, e_tup, e_lst, e_lstN, e_len0, e_len1, e_len2, e_len3, e_len4, e_len5, e_cb, e_on1, e_on2, e_onI, e_onB, e_onO, e_onO0, e_onOO, e_I0, e_I, e_add, e_addT, e_addS, e_addL, e_addLR, e_addRL, e_addRR, e_mul, e_mulL, e_mulT, e_rev, e_revT, e_ix, e_eqI, e_eqS, e_eqB, e_neI, e_neS, e_neB, e_ltI, e_chain, e_len, e_abs, e_2I, e_tuple1, e_tuple2, e_tuple3, e_listT, e_listN, e_allR, e_seqT, e_seqK, e_seqL, e_isi, e_isB, e_notB, e_truth, e_next, e_drop, e_ret, e_retN, e_ifS, e_set, e_asg, e_par, e_nm, e_gsN, e_gsC, e_gTpK, e_gTpL, e_sum, e_maxL, e_minL, e_maxDef, e_int, e_intB, e_aug, e_on3, e_par3, e_newK, e_getK, e_keyI, e_keyS, e_inK, e_ninK, e_putK, e_lenK, e_lstS, e_seqX, e_gTpT, e_oN, e_oS, e_sl, e_slT, e_slL, e_finT, e_finN, e_index, e_idxT, e_idxL, e_mIx, e_ixST, e_ixSL, e_mtL, e_w, e_w1, e_w2, e_wE, e_wZ, e_itK, e_itT, e_itL, e_itT2, e_itL2, e_lc, e_for, e_wipe0, e_wipe, e_okI, e_okR, e_gSb, List.getElem?_cons_zero, List.getElem?_cons_succ, List.set_cons_zero, List.set_cons_succ]
    refine iteF' rfl ⟨_, rfl, oc, ?_⟩
    unfold rowD
    try simp only [e_var, e_C, e_op, e_neg, e_isN, e_notN, e_and, e_or, e_not, e_test, e_tAnd, e_tOr, e_tNot, e_tYes, e_if, e_aNil, e_aCons, e_tup, e_lst, e_lstN, e_len0, e_len1, e_len2, e_len3, e_len4, e_len5, e_cb, e_on1, e_on2, e_onI, e_onB, e_onO, e_onO0, e_onOO, e_I0, e_I, e_add, e_addT, e_addS, e_addL, e_addLR, e_addRL, e_addRR, e_mul, e_mulL, e_mulT, e_rev, e_revT, e_ix, e_eqI, e_eqS, e_eqB, e_neI, e_neS, e_neB, e_ltI, e_chain, e_len, e_abs, e_2I, e_tuple1, e_tuple2, e_tuple3, e_listT, e_listN, e_allR, e_seqT, e_seqK, e_seqL, e_isi, e_isB, e_notB, e_truth, e_next, e_drop, e_ret, e_retN, e_ifS, e_set, e_asg, e_par, e_nm, e_gsN, e_gsC, e_gTpK, e_gTpL, e_sum, e_maxL, e_minL, e_maxDef, e_int, e_intB, e_aug, e_on3, e_par3, e_newK, e_getK, e_keyI, e_keyS, e_inK, e_ninK, e_putK, e_lenK, e_lstS, e_seqX, e_gTpT, e_oN, e_oS, e_sl, e_slT, e_slL, e_finT, e_finN, e_index, e_idxT, e_idxL, e_mIx, e_ixST, e_ixSL, e_mtL, e_w, e_w1, e_w2, e_wE, e_wZ, e_itK, e_itT, e_itL, e_itT2, e_itL2, e_lc, e_for, e_wipe0, e_wipe, e_okI, e_okR, e_gSb, List.getElem?_cons_zero, List.getElem?_cons_succ, List.set_cons_zero, List.set_cons_succ, List.length_map, ones_taken s1 (by omega : s ≤ 900)]
    refine iteF' (by rw [decide_eq_true trivial]; rfl) ?_
    exact hN _ _ (.inl ⟨o4, _, _, _, _, _, _, _, rfl, rfl, po4.less (by omega)⟩)
  · rintro r st' ⟨o, x1, x2, x3, x4, x5, x6, x7, rfl, rfl, po⟩
    try simp only [e_var, e_C, e_op, e_neg, e_isN, e_notN, e_and, e_or, e_not, e_test, e_tAnd, e_tOr, e_tNot, e_tYes, e_if, e_aNil, e_aCons, e_tup, e_lst, e_lstN, e_len0, e_len1, e_len2, e_len3, e_len4, e_len5, e_cb, e_on1, e_on2, e_onI, e_onB, e_onO, e_onO0, e_onOO, e_I0, e_I, e_add, e_addT, e_addS, e_addL, e_addLR, e_addRL, e_addRR, e_mul, e_mulL, e_mulT, e_rev, e_revT, e_ix, e_eqI, e_eqS, e_eqB, e_neI, e_neS, e_neB, e_ltI, e_chain, e_len, e_abs, e_2I, e_tuple1, e_tuple2, e_tuple3, e_listT, e_listN, e_allR, e_seqT, e_seqK, e_seqL, e_isi, e_isB, e_notB, e_truth, e_next, e_drop, e_ret, e_retN, e_ifS, e_set, e_asg, e_par, e_nm, e_gsN, e_gsC, e_gTpK, e_gTpL, e_sum, e_maxL, e_minL, e_maxDef, e_int, e_intB, e_aug, e_on3, e_par3, e_newK, e_getK, e_keyI, e_keyS, e_inK, e_ninK, e_putK, e_lenK, e_lstS, e_seqX, e_gTpT, e_oN, e_oS, e_sl, e_slT, e_slL, e_finT, e_finN, e_index, e_idxT, e_idxL, e_mIx, e_ixST, e_ixSL, e_mtL, e_w, e_w1, e_w2, e_wE, e_wZ, e_itK, e_itT, e_itL, e_itT2, e_itL2, e_lc, e_for, e_wipe0, e_wipe, e_okI, e_okR, e_gSb, List.getElem?_cons_zero, List.getElem?_cons_succ, List.set_cons_zero, List.set_cons_succ]
    have z := rt_drop (junk := []) (d := .bl true) List.length_set rfl (cs_set (m := st.length) po) (q o (po.less (by simp)))
    rw [List.append_nil] at z
    exact z
end DL
namespace DL.K33
open PySem PySem.Spec PyProof.Rows L2 LamX PySem.W SL
open DL
def topS (i : Nat) : Stmt := PySem.Challenge.pw_samelayout_k33_too_many_keys_and_full_ta.main.body.getD i (.Pass ⟨0, 0, 0, 0⟩)
abbrev s_flows : Stmt := topS 5
abbrev n_flows : List Str := ["counts", "count"]
theorem sc_flows : FnScope n_flows ["counts"] (defScope s_flows) := ⟨rfl, rfl, rfl, by decide +kernel, rfl, by decide +kernel, by decide +kernel⟩
abbrev s_flows_behind : Stmt := topS 6
abbrev n_flows_behind : List Str := ["runs", "flow", "size", "count", "behind"]
theorem sc_flows_behind : FnScope n_flows_behind ["runs"] (defScope s_flows_behind) := ⟨rfl, rfl, rfl, by decide +kernel, rfl, by decide +kernel, by decide +kernel⟩
abbrev s_require_room : Stmt := topS 7
abbrev n_require_room : List Str := ["runs", "keys", "size", "count"]
theorem sc_require_room : FnScope n_require_room ["runs"] (defScope s_require_room) := ⟨rfl, rfl, rfl, by decide +kernel, rfl, by decide +kernel, by decide +kernel⟩
abbrev s_flow_behind : Stmt := topS 8
abbrev n_flow_behind : List Str := ["flow", "size", "count"]
theorem sc_flow_behind : FnScope n_flow_behind ["flow", "size", "count"] (defScope s_flow_behind) := ⟨rfl, rfl, rfl, by decide +kernel, rfl, by decide +kernel, by decide +kernel⟩
abbrev s_taken : Stmt := topS 9
abbrev n_taken : List Str := ["counts", "over", "slot"]
theorem sc_taken : FnScope n_taken ["counts"] (defScope s_taken) := ⟨rfl, rfl, rfl, by decide +kernel, rfl, by decide +kernel, by decide +kernel⟩
abbrev s_distance_sum : Stmt := topS 10
abbrev n_distance_sum : List Str := ["counts"]
theorem sc_distance_sum : FnScope n_distance_sum ["counts"] (defScope s_distance_sum) := ⟨rfl, rfl, rfl, by decide +kernel, rfl, by decide +kernel, by decide +kernel⟩
abbrev s_greatest_distance : Stmt := topS 11
abbrev n_greatest_distance : List Str := ["counts"]
theorem sc_greatest_distance : FnScope n_greatest_distance ["counts"] (defScope s_greatest_distance) := ⟨rfl, rfl, rfl, by decide +kernel, rfl, by decide +kernel, by decide +kernel⟩
abbrev s_square_sum : Stmt := topS 12
abbrev n_square_sum : List Str := ["counts", "wait"]
theorem sc_square_sum : FnScope n_square_sum ["counts"] (defScope s_square_sum) := ⟨rfl, rfl, rfl, by decide +kernel, rfl, by decide +kernel, by decide +kernel⟩
abbrev s_waits : Stmt := topS 13
abbrev n_waits : List Str := ["counts", "over", "slot", "at"]
theorem sc_waits : FnScope n_waits ["counts"] (defScope s_waits) := ⟨rfl, rfl, rfl, by decide +kernel, rfl, by decide +kernel, by decide +kernel⟩
abbrev s_run_flow : Stmt := topS 15
abbrev n_run_flow : List Str := ["runs", "slot", "coming", "count"]
theorem sc_run_flow : FnScope n_run_flow ["runs", "slot"] (defScope s_run_flow) := ⟨rfl, rfl, rfl, by decide +kernel, rfl, by decide +kernel, by decide +kernel⟩
abbrev s_run_taken : Stmt := topS 16
abbrev n_run_taken : List Str := ["runs", "slot", "coming", "count"]
theorem sc_run_taken : FnScope n_run_taken ["runs", "slot"] (defScope s_run_taken) := ⟨rfl, rfl, rfl, by decide +kernel, rfl, by decide +kernel, by decide +kernel⟩
abbrev s_coming_to : Stmt := topS 17
abbrev n_coming_to : List Str := ["runs", "slot", "behind", "at", "inside", "count"]
theorem sc_coming_to : FnScope n_coming_to ["runs", "slot"] (defScope s_coming_to) := ⟨rfl, rfl, rfl, by decide +kernel, rfl, by decide +kernel, by decide +kernel⟩
abbrev s_run_distance_sum : Stmt := topS 18
abbrev n_run_distance_sum : List Str := ["runs", "behind", "at"]
theorem sc_run_distance_sum : FnScope n_run_distance_sum ["runs"] (defScope s_run_distance_sum) := ⟨rfl, rfl, rfl, by decide +kernel, rfl, by decide +kernel, by decide +kernel⟩
abbrev s_flow_sum : Stmt := topS 19
abbrev s_run_greatest : Stmt := topS 20
abbrev n_run_greatest : List Str := ["runs"]
theorem sc_run_greatest : FnScope n_run_greatest ["runs"] (defScope s_run_greatest) := ⟨rfl, rfl, rfl, by decide +kernel, rfl, by decide +kernel, by decide +kernel⟩
abbrev s__law_pot : Stmt := topS 22
abbrev n__law_pot : List Str := ["_law_script", "_law_k", "_law_cell", "_law_great"]
theorem sc__law_pot : FnScope n__law_pot ["_law_script", "_law_k"] (defScope s__law_pot) := ⟨rfl, rfl, rfl, by decide +kernel, rfl, by decide +kernel, by decide +kernel⟩
abbrev s__law_take : Stmt := topS 23
abbrev n__law_take : List Str := ["_law_pot_here", "_law_size", "_law_digit", "_law_prime", "_law_mixed"]
theorem sc__law_take : FnScope n__law_take ["_law_pot_here", "_law_size"] (defScope s__law_take) := ⟨rfl, rfl, rfl, by decide +kernel, rfl, by decide +kernel, by decide +kernel⟩
abbrev s__law_pick : Stmt := topS 24
abbrev n__law_pick : List Str := ["_law_pot_here", "_law_some"]
theorem sc__law_pick : FnScope n__law_pick ["_law_pot_here", "_law_some"] (defScope s__law_pick) := ⟨rfl, rfl, rfl, by decide +kernel, rfl, by decide +kernel, by decide +kernel⟩
abbrev s__law_refused : Stmt := topS 25
abbrev n__law_refused : List Str := ["_law_call", "_law_caught", "error"]
theorem sc__law_refused : FnScope n__law_refused ["_law_call"] (defScope s__law_refused) := ⟨rfl, rfl, rfl, by decide +kernel, rfl, by decide +kernel, by decide +kernel⟩
abbrev s__law_all_refused : Stmt := topS 26
abbrev n__law_all_refused : List Str := ["_law_some", "_law_many", "_law_told"]
theorem sc__law_all_refused : FnScope n__law_all_refused ["_law_some", "_law_many"] (defScope s__law_all_refused) := ⟨rfl, rfl, rfl, by decide +kernel, rfl, by decide +kernel, by decide +kernel⟩
abbrev s__law_all_runs_refused : Stmt := topS 27
abbrev n__law_all_runs_refused : List Str := ["_law_some", "_law_many", "_law_told"]
theorem sc__law_all_runs_refused : FnScope n__law_all_runs_refused ["_law_some", "_law_many"] (defScope s__law_all_runs_refused) := ⟨rfl, rfl, rfl, by decide +kernel, rfl, by decide +kernel, by decide +kernel⟩
abbrev s__law_right : Stmt := topS 28
abbrev n__law_right : List Str := ["_law_pot_here", "_law_turn", "_law_size", "_law_at", "_law_more", "_law_whole", "_law_squares", "_law_even", "_law_one"]
theorem sc__law_right : FnScope n__law_right ["_law_pot_here"] (defScope s__law_right) := ⟨rfl, rfl, rfl, by decide +kernel, rfl, by decide +kernel, by decide +kernel⟩
abbrev s_law : Stmt := topS 29
abbrev n_law : List Str := ["_law_script", "_law_k"]
theorem sc_law : FnScope n_law ["_law_script"] (defScope s_law) := ⟨rfl, rfl, rfl, by decide +kernel, rfl, by decide +kernel, by decide +kernel⟩
abbrev s_TooFull_init : Stmt := clsMeth (topS 3) 0
theorem sc_TooFull_init : FnScope ["self", "count"] ["self", "count"] (defScope s_TooFull_init) := ⟨rfl, rfl, rfl, by decide +kernel, rfl, by decide +kernel, by decide +kernel⟩
structure Defs (K : Frag) (mg : Str → Option Value) (base : Heap) (T : List (Addr × Str)) : Prop where
  d_flows : ∃ f fd, Fun K "flows" "flows" s_flows f fd ∧ Binds K fd ["counts"] [] ∧ mg "flows" = some (.ref f)
  d_flows_behind : ∃ f fd, Fun K "flows_behind" "flows_behind" s_flows_behind f fd ∧ Binds K fd ["runs"] [] ∧ mg "flows_behind" = some (.ref f)
  d_require_room : ∃ f fd, Fun K "require_room" "require_room" s_require_room f fd ∧ Binds K fd ["runs"] [] ∧ mg "require_room" = some (.ref f)
  d_flow_behind : ∃ f fd, Fun K "flow_behind" "flow_behind" s_flow_behind f fd ∧ Binds K fd ["flow", "size", "count"] [] ∧ mg "flow_behind" = some (.ref f)
  d_taken : ∃ f fd, Fun K "taken" "taken" s_taken f fd ∧ Binds K fd ["counts"] [] ∧ mg "taken" = some (.ref f)
  d_distance_sum : ∃ f fd, Fun K "distance_sum" "distance_sum" s_distance_sum f fd ∧ Binds K fd ["counts"] [] ∧ mg "distance_sum" = some (.ref f)
  d_greatest_distance : ∃ f fd, Fun K "greatest_distance" "greatest_distance" s_greatest_distance f fd ∧ Binds K fd ["counts"] [] ∧ mg "greatest_distance" = some (.ref f)
  d_square_sum : ∃ f fd, Fun K "square_sum" "square_sum" s_square_sum f fd ∧ Binds K fd ["counts"] [] ∧ mg "square_sum" = some (.ref f)
  d_waits : ∃ f fd, Fun K "waits" "waits" s_waits f fd ∧ Binds K fd ["counts"] [] ∧ mg "waits" = some (.ref f)
  d_run_flow : ∃ f fd, Fun K "run_flow" "run_flow" s_run_flow f fd ∧ Binds K fd ["runs", "slot"] [] ∧ mg "run_flow" = some (.ref f)
  d_run_taken : ∃ f fd, Fun K "run_taken" "run_taken" s_run_taken f fd ∧ Binds K fd ["runs", "slot"] [] ∧ mg "run_taken" = some (.ref f)
  d_coming_to : ∃ f fd, Fun K "coming_to" "coming_to" s_coming_to f fd ∧ Binds K fd ["runs", "slot"] [] ∧ mg "coming_to" = some (.ref f)
  d_run_distance_sum : ∃ f fd, Fun K "run_distance_sum" "run_distance_sum" s_run_distance_sum f fd ∧ Binds K fd ["runs"] [] ∧ mg "run_distance_sum" = some (.ref f)
  d_flow_sum : ∃ f fd, Fun K "flow_sum" "flow_sum" s_flow_sum f fd ∧ Binds K fd ["flow", "size", "count"] [] ∧ mg "flow_sum" = some (.ref f)
  d_run_greatest : ∃ f fd, Fun K "run_greatest" "run_greatest" s_run_greatest f fd ∧ Binds K fd ["runs"] [] ∧ mg "run_greatest" = some (.ref f)
  d__law_pot : ∃ f fd, Fun K "_law_pot" "_law_pot" s__law_pot f fd ∧ Binds K fd ["_law_script", "_law_k"] [] ∧ mg "_law_pot" = some (.ref f)
  d__law_take : ∃ f fd, Fun K "_law_take" "_law_take" s__law_take f fd ∧ Binds K fd ["_law_pot_here", "_law_size"] [] ∧ mg "_law_take" = some (.ref f)
  d__law_pick : ∃ f fd, Fun K "_law_pick" "_law_pick" s__law_pick f fd ∧ Binds K fd ["_law_pot_here", "_law_some"] [] ∧ mg "_law_pick" = some (.ref f)
  d__law_refused : ∃ f fd, Fun K "_law_refused" "_law_refused" s__law_refused f fd ∧ Binds K fd ["_law_call"] [] ∧ mg "_law_refused" = some (.ref f)
  d__law_all_refused : ∃ f fd, Fun K "_law_all_refused" "_law_all_refused" s__law_all_refused f fd ∧ Binds K fd ["_law_some", "_law_many"] [] ∧ mg "_law_all_refused" = some (.ref f) ∧ ∃ c Pt, fd.code = .ref c ∧ TabB base mg c Pt ∧ (Pt, qLam "_law_all_refused") ∈ T ∧ ∀ p ∈ T, p.1 = Pt → p.2 = qLam "_law_all_refused"
  d__law_all_runs_refused : ∃ f fd, Fun K "_law_all_runs_refused" "_law_all_runs_refused" s__law_all_runs_refused f fd ∧ Binds K fd ["_law_some", "_law_many"] [] ∧ mg "_law_all_runs_refused" = some (.ref f) ∧ ∃ c Pt, fd.code = .ref c ∧ TabB base mg c Pt ∧ (Pt, qLam "_law_all_runs_refused") ∈ T ∧ ∀ p ∈ T, p.1 = Pt → p.2 = qLam "_law_all_runs_refused"
  d__law_right : ∃ f fd, Fun K "_law_right" "_law_right" s__law_right f fd ∧ Binds K fd ["_law_pot_here"] [] ∧ mg "_law_right" = some (.ref f)
  d_law : ∃ f fd, Fun K "law" "law" s_law f fd ∧ Binds K fd ["_law_script"] [] ∧ mg "law" = some (.ref f)
  z_ValueError : mg "ValueError" = none
  z_abs : mg "abs" = none
  z_all : mg "all" = none
  z_isinstance : mg "isinstance" = none
  z_len : mg "len" = none
  z_list : mg "list" = none
  z_max : mg "max" = none
  z_min : mg "min" = none
  z_range : mg "range" = none
  z_repr : mg "repr" = none
  z_sum : mg "sum" = none
  z_tuple : mg "tuple" = none
  x_TooFull : RefC K mg "TooFull" "LayoutError" (some "count") ["TooFull", "TooMany"]
  r_TooFull : RaI K mg "TooFull" "count" "TooFull.__init__" s_TooFull_init ["self", "count"]
section
variable {P : Program} {w : World} {K : Frag} {mg : Str → Option Value} {base : Heap} {T : List (Addr × Str)}
def Cal (P : Program) (w : World) (K : Frag) (mg : Str → Option Value) (base : Heap) (T : List (Addr × Str)) (x : Str) (st : Stmt) (k : Nat) (ps : List Str) (g : DRs) : Prop := ∃ f fd, Fun K x x st f fd ∧ Binds K fd ps [] ∧ mg x = some (.ref f) ∧ FnD P w K mg base T k f fd ps g
def CalX (P : Program) (w : World) (K : Frag) (mg : Str → Option Value) (base : Heap) (T : List (Addr × Str)) (x : Str) (st : Stmt) (k : Nat) (ps : List Str) (C : Str) (gx : DXs) : Prop := ∃ f fd, Fun K x x st f fd ∧ Binds K fd ps [] ∧ mg x = some (.ref f) ∧ FnX P w K mg base T k f fd ps C gx
abbrev Zt__law_refused (X : Cx) (g : Addr) (cdg : Value) (s : Shared) (H : Hp) : Cx := (ctxG X n__law_refused "_law_refused" (defScope s__law_refused) g cdg s H).nox
set_option maxHeartbeats 0 in
theorem tell_TooFull (R : RefC K mg "TooFull" "LayoutError" (some "count") ["TooFull", "TooMany"]) (zi : mg "isinstance" = none) (zl : mg "len" = none) (zv : mg "ValueError" = none) : ∃ c, mg "TooFull" = some (.ref c) ∧ ∀ (X : Cx) (eK : X.K = K) (em : X.mg = mg) (g : Addr) (cdg : Value) (qq : Str) (i : Int), GivesX X n__law_refused "_law_refused" (defScope s__law_refused) g cdg (defBody s__law_refused) "_law_call" qq (TTone c "count" i) := by
  obtain ⟨c, cs, m, ms, ke, kv, kc, kf, kt⟩ := R.ex
  obtain ⟨c0, m0, k0⟩ := kt "TooFull" (by simp)
  obtain ⟨c1, m1, k1⟩ := kt "TooMany" (by simp)
  refine ⟨c, m, fun X eK em g cdg qq i => ?_⟩
  subst eK em
  exact one_gives rfl (by decide) rfl rfl rfl ms (by decide) (by decide) (by decide) ke kc (fun s H => (t2_end (X := Zt__law_refused X g cdg s H) rfl (.inl rfl) (by decide) (by decide) ⟨pe_isK (X := Zt__law_refused X g cdg s H) rfl (.inl rfl) (by decide) (by decide) (by rfl) zi (pe_glob (X := Zt__law_refused X g cdg s H) (v := .ref c0) (by rfl) m0 rfl), fun _ => rfl⟩ (fun u e => e) (k0.trans (by decide)) ⟨pe_isK (X := Zt__law_refused X g cdg s H) rfl (.inl rfl) (by decide) (by decide) (by rfl) zi (pe_glob (X := Zt__law_refused X g cdg s H) (v := .ref c1) (by rfl) m1 rfl), fun _ => rfl⟩ (fun u e => e) (k1.trans (by decide)) (kf _ rfl)))
theorem okx_require_room_TooFull (D : Defs K mg base T) {gx : DXs} (ar : ∀ ds st fld, gx ds st fld → ds.length = 1) (shx : ∀ ds st fld, gx ds st fld → ∃ i, fld = shp (some "count") i) (sem : ∀ ds st fld, gx ds st fld → FX_require_room_TooFull st fld (startD 4 ds) st) : CalX P w K mg base T "require_room" s_require_room 3 ["runs"] "TooFull" gx := by
  obtain ⟨f, fd, F, b, m⟩ := D.d_require_room
  have R : RaC P w K mg base "TooFull" "count" := RaI.raC (x5 := ⟨0, 0, 0, 0⟩) D.r_TooFull sc_TooFull_init rfl rfl (.inl rfl) (.inl rfl) (by decide) (by decide)
  refine ⟨f, fd, F, b, m, fnX_mk (k := 2) F sc_require_room ar (B := FX_require_room_TooFull) (fun cdv A outer s H E M0 st0 fld gd hr wish hex => ?_) sem⟩
  obtain ⟨ds, hg⟩ := hex
  obtain ⟨i, rfl⟩ := shx ds st0 _ hg
  unfold FX_require_room_TooFull
  refine x_seq (F1 := (sSet 1 (dCB dSum (daCons (dLcG (wSeq (dVar 0)) (gTp 2 (gsCons (gNm 2) (gsCons (gNm 3) gsNil))) dtYes (dOp dMul (dVar 2) (dVar 3)) [2, 3] finT) daNil)))) ?_ ?_
  · exact (ds_set (i := 1) sc_require_room.nd rfl (.inl rfl) (de_callB (cr_sum2 rfl) callD_sum (by rfl) D.z_sum (by decide +kernel) (da_cons (de_lcG (own := [("size", 2), ("count", 3)]) finT_ok rfl sc_require_room.nd (di_seq (de_var (pv 0))) (blkOk_by (own := [("size", 2), ("count", 3)]) (N := n_require_room) (sc := defScope s_require_room) (by decide +kernel)) (fun _ _ _ _ _ => (dg_tup rfl (dgs_cons (dg_name (i := 2) sc_require_room.nd rfl (.inl rfl) (by decide)) (dgs_cons (dg_name (i := 3) sc_require_room.nd rfl (.inl rfl) (by decide)) dgs_nil)))) (fun _ _ _ _ _ => dts_nil) (fun _ _ _ _ _ => (de_mul (de_var (pv 2)) (de_var (pv 3))))) da_nil)))
  exact (x_last (x_if (dt_cmpR op_gt (opD_I0 fun _ _ _ _ => .bl _) (de_var (pv 1)) (de_callB (cr_sum2 rfl) callD_sum (by rfl) D.z_sum (by decide +kernel) (da_cons (de_lcG (own := [("size", 2), ("count", 3)]) finT_ok rfl sc_require_room.nd (di_seq (de_var (pv 0))) (blkOk_by (own := [("size", 2), ("count", 3)]) (N := n_require_room) (sc := defScope s_require_room) (by decide +kernel)) (fun _ _ _ _ _ => (dg_tup rfl (dgs_cons (dg_name (i := 2) sc_require_room.nd rfl (.inl rfl) (by decide)) (dgs_cons (dg_name (i := 3) sc_require_room.nd rfl (.inl rfl) (by decide)) dgs_nil)))) (fun _ _ _ _ _ => dts_nil) (fun _ _ _ _ _ => (de_var (pv 2)))) da_nil)) (nomark _)) (pss_one (x_raise R rfl (takes_of rfl rfl rfl rfl) wish (hr.mono (by omega)) pass0x (by rfl) (de_var (pv 1))))))
theorem okx_flows_behind_TooFull (D : Defs K mg base T) {gx_require_room_TooFull : DXs} (X_require_room_TooFull : CalX P w K mg base T "require_room" s_require_room 3 ["runs"] "TooFull" gx_require_room_TooFull) {gx : DXs} (ar : ∀ ds st fld, gx ds st fld → ds.length = 1) (shx : ∀ ds st fld, gx ds st fld → ∃ i, fld = shp (some "count") i) (sem : ∀ ds st fld, gx ds st fld → FX_flows_behind_TooFull gx_require_room_TooFull st fld (startD 5 ds) st) : CalX P w K mg base T "flows_behind" s_flows_behind 4 ["runs"] "TooFull" gx := by
  obtain ⟨f, fd, F, b, m⟩ := D.d_flows_behind
  obtain ⟨xf_require_room_TooFull, xfd_require_room_TooFull, xF_require_room_TooFull, xb_require_room_TooFull, xm_require_room_TooFull, XG_require_room_TooFull⟩ := X_require_room_TooFull
  have R : RaC P w K mg base "TooFull" "count" := RaI.raC (x5 := ⟨0, 0, 0, 0⟩) D.r_TooFull sc_TooFull_init rfl rfl (.inl rfl) (.inl rfl) (by decide) (by decide)
  refine ⟨f, fd, F, b, m, fnX_mk (k := 3) F sc_flows_behind ar (B := FX_flows_behind_TooFull gx_require_room_TooFull) (fun cdv A outer s H E M0 st0 fld gd hr wish hex => ?_) sem⟩
  obtain ⟨ds, hg⟩ := hex
  obtain ⟨i, rfl⟩ := shx ds st0 _ hg
  unfold FX_flows_behind_TooFull
  exact (x_last (x_expr (x_call XG_require_room_TooFull gd (takes_of rfl rfl rfl rfl) wish (hr.mono (by omega)) (by rfl) xm_require_room_TooFull xF_require_room_TooFull.kp xb_require_room_TooFull (da_cons (de_var (pv 0)) da_nil))))
theorem okx_coming_to_TooFull (D : Defs K mg base T) {gx_flows_behind_TooFull : DXs} (X_flows_behind_TooFull : CalX P w K mg base T "flows_behind" s_flows_behind 4 ["runs"] "TooFull" gx_flows_behind_TooFull) {gx : DXs} (ar : ∀ ds st fld, gx ds st fld → ds.length = 2) (shx : ∀ ds st fld, gx ds st fld → ∃ i, fld = shp (some "count") i) (sem : ∀ ds st fld, gx ds st fld → FX_coming_to_TooFull gx_flows_behind_TooFull st fld (startD 6 ds) st) : CalX P w K mg base T "coming_to" s_coming_to 5 ["runs", "slot"] "TooFull" gx := by
  obtain ⟨f, fd, F, b, m⟩ := D.d_coming_to
  obtain ⟨xf_flows_behind_TooFull, xfd_flows_behind_TooFull, xF_flows_behind_TooFull, xb_flows_behind_TooFull, xm_flows_behind_TooFull, XG_flows_behind_TooFull⟩ := X_flows_behind_TooFull
  have R : RaC P w K mg base "TooFull" "count" := RaI.raC (x5 := ⟨0, 0, 0, 0⟩) D.r_TooFull sc_TooFull_init rfl rfl (.inl rfl) (.inl rfl) (by decide) (by decide)
  refine ⟨f, fd, F, b, m, fnX_mk (k := 4) F sc_coming_to ar (B := FX_coming_to_TooFull gx_flows_behind_TooFull) (fun cdv A outer s H E M0 st0 fld gd hr wish hex => ?_) sem⟩
  obtain ⟨ds, hg⟩ := hex
  obtain ⟨i, rfl⟩ := shx ds st0 _ hg
  unfold FX_coming_to_TooFull
  exact (x_last (x_set (x_call XG_flows_behind_TooFull gd (takes_of rfl rfl rfl rfl) wish (hr.mono (by omega)) (by rfl) xm_flows_behind_TooFull xF_flows_behind_TooFull.kp xb_flows_behind_TooFull (da_cons (de_var (pv 0)) da_nil))))
theorem okx_flows_TooFull (D : Defs K mg base T) {gx_flows_behind_TooFull : DXs} (X_flows_behind_TooFull : CalX P w K mg base T "flows_behind" s_flows_behind 4 ["runs"] "TooFull" gx_flows_behind_TooFull) {gx : DXs} (ar : ∀ ds st fld, gx ds st fld → ds.length = 1) (shx : ∀ ds st fld, gx ds st fld → ∃ i, fld = shp (some "count") i) (sem : ∀ ds st fld, gx ds st fld → FX_flows_TooFull gx_flows_behind_TooFull st fld (startD 2 ds) st) : CalX P w K mg base T "flows" s_flows 5 ["counts"] "TooFull" gx := by
  obtain ⟨f, fd, F, b, m⟩ := D.d_flows
  obtain ⟨xf_flows_behind_TooFull, xfd_flows_behind_TooFull, xF_flows_behind_TooFull, xb_flows_behind_TooFull, xm_flows_behind_TooFull, XG_flows_behind_TooFull⟩ := X_flows_behind_TooFull
  have R : RaC P w K mg base "TooFull" "count" := RaI.raC (x5 := ⟨0, 0, 0, 0⟩) D.r_TooFull sc_TooFull_init rfl rfl (.inl rfl) (.inl rfl) (by decide) (by decide)
  refine ⟨f, fd, F, b, m, fnX_mk (k := 4) F sc_flows ar (B := FX_flows_TooFull gx_flows_behind_TooFull) (fun cdv A outer s H E M0 st0 fld gd hr wish hex => ?_) sem⟩
  obtain ⟨ds, hg⟩ := hex
  obtain ⟨i, rfl⟩ := shx ds st0 _ hg
  unfold FX_flows_TooFull
  exact (x_last (x_ret (x_call XG_flows_behind_TooFull gd (takes_of rfl rfl rfl rfl) wish (hr.mono (by omega)) (by rfl) xm_flows_behind_TooFull xF_flows_behind_TooFull.kp xb_flows_behind_TooFull (da_cons (de_lcG (own := [("count", 1)]) finT_ok rfl sc_flows.nd (di_seq (de_var (pv 0))) (blkOk_by (own := [("count", 1)]) (N := n_flows) (sc := defScope s_flows) (by decide +kernel)) (fun _ _ _ _ _ => (dg_name (i := 1) sc_flows.nd rfl (.inl rfl) (by decide))) (fun _ _ _ _ _ => dts_nil) (fun _ _ _ _ _ => (de_tup (da_cons (de_int) (da_cons (de_var (pv 1)) da_nil))))) da_nil))))
theorem okx_run_distance_sum_TooFull (D : Defs K mg base T) {gx_flows_behind_TooFull : DXs} (X_flows_behind_TooFull : CalX P w K mg base T "flows_behind" s_flows_behind 4 ["runs"] "TooFull" gx_flows_behind_TooFull) {gx : DXs} (ar : ∀ ds st fld, gx ds st fld → ds.length = 1) (shx : ∀ ds st fld, gx ds st fld → ∃ i, fld = shp (some "count") i) (sem : ∀ ds st fld, gx ds st fld → FX_run_distance_sum_TooFull gx_flows_behind_TooFull st fld (startD 3 ds) st) : CalX P w K mg base T "run_distance_sum" s_run_distance_sum 5 ["runs"] "TooFull" gx := by
  obtain ⟨f, fd, F, b, m⟩ := D.d_run_distance_sum
  obtain ⟨xf_flows_behind_TooFull, xfd_flows_behind_TooFull, xF_flows_behind_TooFull, xb_flows_behind_TooFull, xm_flows_behind_TooFull, XG_flows_behind_TooFull⟩ := X_flows_behind_TooFull
  have R : RaC P w K mg base "TooFull" "count" := RaI.raC (x5 := ⟨0, 0, 0, 0⟩) D.r_TooFull sc_TooFull_init rfl rfl (.inl rfl) (.inl rfl) (by decide) (by decide)
  refine ⟨f, fd, F, b, m, fnX_mk (k := 4) F sc_run_distance_sum ar (B := FX_run_distance_sum_TooFull gx_flows_behind_TooFull) (fun cdv A outer s H E M0 st0 fld gd hr wish hex => ?_) sem⟩
  obtain ⟨ds, hg⟩ := hex
  obtain ⟨i, rfl⟩ := shx ds st0 _ hg
  unfold FX_run_distance_sum_TooFull
  exact (x_last (x_set (x_call XG_flows_behind_TooFull gd (takes_of rfl rfl rfl rfl) wish (hr.mono (by omega)) (by rfl) xm_flows_behind_TooFull xF_flows_behind_TooFull.kp xb_flows_behind_TooFull (da_cons (de_var (pv 0)) da_nil))))
theorem okx_run_greatest_TooFull (D : Defs K mg base T) {gx_flows_behind_TooFull : DXs} (X_flows_behind_TooFull : CalX P w K mg base T "flows_behind" s_flows_behind 4 ["runs"] "TooFull" gx_flows_behind_TooFull) {gx : DXs} (ar : ∀ ds st fld, gx ds st fld → ds.length = 1) (shx : ∀ ds st fld, gx ds st fld → ∃ i, fld = shp (some "count") i) (sem : ∀ ds st fld, gx ds st fld → FX_run_greatest_TooFull gx_flows_behind_TooFull st fld (startD 1 ds) st) : CalX P w K mg base T "run_greatest" s_run_greatest 5 ["runs"] "TooFull" gx := by
  obtain ⟨f, fd, F, b, m⟩ := D.d_run_greatest
  obtain ⟨xf_flows_behind_TooFull, xfd_flows_behind_TooFull, xF_flows_behind_TooFull, xb_flows_behind_TooFull, xm_flows_behind_TooFull, XG_flows_behind_TooFull⟩ := X_flows_behind_TooFull
  have R : RaC P w K mg base "TooFull" "count" := RaI.raC (x5 := ⟨0, 0, 0, 0⟩) D.r_TooFull sc_TooFull_init rfl rfl (.inl rfl) (.inl rfl) (by decide) (by decide)
  refine ⟨f, fd, F, b, m, fnX_mk (k := 4) F sc_run_greatest ar (B := FX_run_greatest_TooFull gx_flows_behind_TooFull) (fun cdv A outer s H E M0 st0 fld gd hr wish hex => ?_) sem⟩
  obtain ⟨ds, hg⟩ := hex
  obtain ⟨i, rfl⟩ := shx ds st0 _ hg
  unfold FX_run_greatest_TooFull
  exact (x_last (x_ret (x_arg (cr_max2' rfl) (by rfl) D.z_max (by decide +kernel) (x_call XG_flows_behind_TooFull gd (takes_of rfl rfl rfl rfl) wish (hr.mono (by omega)) (by rfl) xm_flows_behind_TooFull xF_flows_behind_TooFull.kp xb_flows_behind_TooFull (da_cons (de_var (pv 0)) da_nil)))))
theorem okx_distance_sum_TooFull (D : Defs K mg base T) {gx_flows_TooFull : DXs} (X_flows_TooFull : CalX P w K mg base T "flows" s_flows 5 ["counts"] "TooFull" gx_flows_TooFull) {gx : DXs} (ar : ∀ ds st fld, gx ds st fld → ds.length = 1) (shx : ∀ ds st fld, gx ds st fld → ∃ i, fld = shp (some "count") i) (sem : ∀ ds st fld, gx ds st fld → FX_distance_sum_TooFull gx_flows_TooFull st fld (startD 1 ds) st) : CalX P w K mg base T "distance_sum" s_distance_sum 6 ["counts"] "TooFull" gx := by
  obtain ⟨f, fd, F, b, m⟩ := D.d_distance_sum
  obtain ⟨xf_flows_TooFull, xfd_flows_TooFull, xF_flows_TooFull, xb_flows_TooFull, xm_flows_TooFull, XG_flows_TooFull⟩ := X_flows_TooFull
  have R : RaC P w K mg base "TooFull" "count" := RaI.raC (x5 := ⟨0, 0, 0, 0⟩) D.r_TooFull sc_TooFull_init rfl rfl (.inl rfl) (.inl rfl) (by decide) (by decide)
  refine ⟨f, fd, F, b, m, fnX_mk (k := 5) F sc_distance_sum ar (B := FX_distance_sum_TooFull gx_flows_TooFull) (fun cdv A outer s H E M0 st0 fld gd hr wish hex => ?_) sem⟩
  obtain ⟨ds, hg⟩ := hex
  obtain ⟨i, rfl⟩ := shx ds st0 _ hg
  unfold FX_distance_sum_TooFull
  exact (x_last (x_ret (x_arg (cr_sum2 rfl) (by rfl) D.z_sum (by decide +kernel) (x_call XG_flows_TooFull gd (takes_of rfl rfl rfl rfl) wish (hr.mono (by omega)) (by rfl) xm_flows_TooFull xF_flows_TooFull.kp xb_flows_TooFull (da_cons (de_var (pv 0)) da_nil)))))
theorem okx_run_flow_TooFull (D : Defs K mg base T) {gx_coming_to_TooFull : DXs} (X_coming_to_TooFull : CalX P w K mg base T "coming_to" s_coming_to 5 ["runs", "slot"] "TooFull" gx_coming_to_TooFull) {gx : DXs} (ar : ∀ ds st fld, gx ds st fld → ds.length = 2) (shx : ∀ ds st fld, gx ds st fld → ∃ i, fld = shp (some "count") i) (sem : ∀ ds st fld, gx ds st fld → FX_run_flow_TooFull gx_coming_to_TooFull st fld (startD 4 ds) st) : CalX P w K mg base T "run_flow" s_run_flow 6 ["runs", "slot"] "TooFull" gx := by
  obtain ⟨f, fd, F, b, m⟩ := D.d_run_flow
  obtain ⟨xf_coming_to_TooFull, xfd_coming_to_TooFull, xF_coming_to_TooFull, xb_coming_to_TooFull, xm_coming_to_TooFull, XG_coming_to_TooFull⟩ := X_coming_to_TooFull
  have R : RaC P w K mg base "TooFull" "count" := RaI.raC (x5 := ⟨0, 0, 0, 0⟩) D.r_TooFull sc_TooFull_init rfl rfl (.inl rfl) (.inl rfl) (by decide) (by decide)
  refine ⟨f, fd, F, b, m, fnX_mk (k := 5) F sc_run_flow ar (B := FX_run_flow_TooFull gx_coming_to_TooFull) (fun cdv A outer s H E M0 st0 fld gd hr wish hex => ?_) sem⟩
  obtain ⟨ds, hg⟩ := hex
  obtain ⟨i, rfl⟩ := shx ds st0 _ hg
  unfold FX_run_flow_TooFull
  exact (x_last (x_asg (x_call XG_coming_to_TooFull gd (takes_of rfl rfl rfl rfl) wish (hr.mono (by omega)) (by rfl) xm_coming_to_TooFull xF_coming_to_TooFull.kp xb_coming_to_TooFull (da_cons (de_var (pv 0)) (da_cons (de_var (pv 1)) da_nil)))))
theorem okx_run_taken_TooFull (D : Defs K mg base T) {gx_coming_to_TooFull : DXs} (X_coming_to_TooFull : CalX P w K mg base T "coming_to" s_coming_to 5 ["runs", "slot"] "TooFull" gx_coming_to_TooFull) {gx : DXs} (ar : ∀ ds st fld, gx ds st fld → ds.length = 2) (shx : ∀ ds st fld, gx ds st fld → ∃ i, fld = shp (some "count") i) (sem : ∀ ds st fld, gx ds st fld → FX_run_taken_TooFull gx_coming_to_TooFull st fld (startD 4 ds) st) : CalX P w K mg base T "run_taken" s_run_taken 6 ["runs", "slot"] "TooFull" gx := by
  obtain ⟨f, fd, F, b, m⟩ := D.d_run_taken
  obtain ⟨xf_coming_to_TooFull, xfd_coming_to_TooFull, xF_coming_to_TooFull, xb_coming_to_TooFull, xm_coming_to_TooFull, XG_coming_to_TooFull⟩ := X_coming_to_TooFull
  have R : RaC P w K mg base "TooFull" "count" := RaI.raC (x5 := ⟨0, 0, 0, 0⟩) D.r_TooFull sc_TooFull_init rfl rfl (.inl rfl) (.inl rfl) (by decide) (by decide)
  refine ⟨f, fd, F, b, m, fnX_mk (k := 5) F sc_run_taken ar (B := FX_run_taken_TooFull gx_coming_to_TooFull) (fun cdv A outer s H E M0 st0 fld gd hr wish hex => ?_) sem⟩
  obtain ⟨ds, hg⟩ := hex
  obtain ⟨i, rfl⟩ := shx ds st0 _ hg
  unfold FX_run_taken_TooFull
  exact (x_last (x_asg (x_call XG_coming_to_TooFull gd (takes_of rfl rfl rfl rfl) wish (hr.mono (by omega)) (by rfl) xm_coming_to_TooFull xF_coming_to_TooFull.kp xb_coming_to_TooFull (da_cons (de_var (pv 0)) (da_cons (de_var (pv 1)) da_nil)))))
theorem okx_taken_TooFull (D : Defs K mg base T) {gx_flows_TooFull : DXs} (X_flows_TooFull : CalX P w K mg base T "flows" s_flows 5 ["counts"] "TooFull" gx_flows_TooFull) {gx : DXs} (ar : ∀ ds st fld, gx ds st fld → ds.length = 1) (shx : ∀ ds st fld, gx ds st fld → ∃ i, fld = shp (some "count") i) (sem : ∀ ds st fld, gx ds st fld → FX_taken_TooFull gx_flows_TooFull st fld (startD 3 ds) st) : CalX P w K mg base T "taken" s_taken 6 ["counts"] "TooFull" gx := by
  obtain ⟨f, fd, F, b, m⟩ := D.d_taken
  obtain ⟨xf_flows_TooFull, xfd_flows_TooFull, xF_flows_TooFull, xb_flows_TooFull, xm_flows_TooFull, XG_flows_TooFull⟩ := X_flows_TooFull
  have R : RaC P w K mg base "TooFull" "count" := RaI.raC (x5 := ⟨0, 0, 0, 0⟩) D.r_TooFull sc_TooFull_init rfl rfl (.inl rfl) (.inl rfl) (by decide) (by decide)
  refine ⟨f, fd, F, b, m, fnX_mk (k := 5) F sc_taken ar (B := FX_taken_TooFull gx_flows_TooFull) (fun cdv A outer s H E M0 st0 fld gd hr wish hex => ?_) sem⟩
  obtain ⟨ds, hg⟩ := hex
  obtain ⟨i, rfl⟩ := shx ds st0 _ hg
  unfold FX_taken_TooFull
  exact (x_last (x_set (x_call XG_flows_TooFull gd (takes_of rfl rfl rfl rfl) wish (hr.mono (by omega)) (by rfl) xm_flows_TooFull xF_flows_TooFull.kp xb_flows_TooFull (da_cons (de_var (pv 0)) da_nil))))
theorem okx_waits_TooFull (D : Defs K mg base T) {gx_flows_TooFull : DXs} (X_flows_TooFull : CalX P w K mg base T "flows" s_flows 5 ["counts"] "TooFull" gx_flows_TooFull) {gx : DXs} (ar : ∀ ds st fld, gx ds st fld → ds.length = 1) (shx : ∀ ds st fld, gx ds st fld → ∃ i, fld = shp (some "count") i) (sem : ∀ ds st fld, gx ds st fld → FX_waits_TooFull gx_flows_TooFull st fld (startD 4 ds) st) : CalX P w K mg base T "waits" s_waits 6 ["counts"] "TooFull" gx := by
  obtain ⟨f, fd, F, b, m⟩ := D.d_waits
  obtain ⟨xf_flows_TooFull, xfd_flows_TooFull, xF_flows_TooFull, xb_flows_TooFull, xm_flows_TooFull, XG_flows_TooFull⟩ := X_flows_TooFull
  have R : RaC P w K mg base "TooFull" "count" := RaI.raC (x5 := ⟨0, 0, 0, 0⟩) D.r_TooFull sc_TooFull_init rfl rfl (.inl rfl) (.inl rfl) (by decide) (by decide)
  refine ⟨f, fd, F, b, m, fnX_mk (k := 5) F sc_waits ar (B := FX_waits_TooFull gx_flows_TooFull) (fun cdv A outer s H E M0 st0 fld gd hr wish hex => ?_) sem⟩
  obtain ⟨ds, hg⟩ := hex
  obtain ⟨i, rfl⟩ := shx ds st0 _ hg
  unfold FX_waits_TooFull
  exact (x_last (x_set (x_call XG_flows_TooFull gd (takes_of rfl rfl rfl rfl) wish (hr.mono (by omega)) (by rfl) xm_flows_TooFull xF_flows_TooFull.kp xb_flows_TooFull (da_cons (de_var (pv 0)) da_nil))))
theorem okx_greatest_distance_TooFull (D : Defs K mg base T) {gx_waits_TooFull : DXs} (X_waits_TooFull : CalX P w K mg base T "waits" s_waits 6 ["counts"] "TooFull" gx_waits_TooFull) {gx : DXs} (ar : ∀ ds st fld, gx ds st fld → ds.length = 1) (shx : ∀ ds st fld, gx ds st fld → ∃ i, fld = shp (some "count") i) (sem : ∀ ds st fld, gx ds st fld → FX_greatest_distance_TooFull gx_waits_TooFull st fld (startD 1 ds) st) : CalX P w K mg base T "greatest_distance" s_greatest_distance 7 ["counts"] "TooFull" gx := by
  obtain ⟨f, fd, F, b, m⟩ := D.d_greatest_distance
  obtain ⟨xf_waits_TooFull, xfd_waits_TooFull, xF_waits_TooFull, xb_waits_TooFull, xm_waits_TooFull, XG_waits_TooFull⟩ := X_waits_TooFull
  have R : RaC P w K mg base "TooFull" "count" := RaI.raC (x5 := ⟨0, 0, 0, 0⟩) D.r_TooFull sc_TooFull_init rfl rfl (.inl rfl) (.inl rfl) (by decide) (by decide)
  refine ⟨f, fd, F, b, m, fnX_mk (k := 6) F sc_greatest_distance ar (B := FX_greatest_distance_TooFull gx_waits_TooFull) (fun cdv A outer s H E M0 st0 fld gd hr wish hex => ?_) sem⟩
  obtain ⟨ds, hg⟩ := hex
  obtain ⟨i, rfl⟩ := shx ds st0 _ hg
  unfold FX_greatest_distance_TooFull
  exact (x_last (x_ret (x_maxDef (Nat.lt_of_le_of_lt (Nat.add_le_add_left (by decide) _) hr.units) rfl (by rfl) D.z_max (x_call XG_waits_TooFull gd (takes_of rfl rfl rfl rfl) wish (hr.mono (by omega)) (by rfl) xm_waits_TooFull xF_waits_TooFull.kp xb_waits_TooFull (da_cons (de_var (pv 0)) da_nil)) (de_int))))
theorem okx_square_sum_TooFull (D : Defs K mg base T) {gx_waits_TooFull : DXs} (X_waits_TooFull : CalX P w K mg base T "waits" s_waits 6 ["counts"] "TooFull" gx_waits_TooFull) {gx : DXs} (ar : ∀ ds st fld, gx ds st fld → ds.length = 1) (shx : ∀ ds st fld, gx ds st fld → ∃ i, fld = shp (some "count") i) (sem : ∀ ds st fld, gx ds st fld → FX_square_sum_TooFull gx_waits_TooFull st fld (startD 2 ds) st) : CalX P w K mg base T "square_sum" s_square_sum 7 ["counts"] "TooFull" gx := by
  obtain ⟨f, fd, F, b, m⟩ := D.d_square_sum
  obtain ⟨xf_waits_TooFull, xfd_waits_TooFull, xF_waits_TooFull, xb_waits_TooFull, xm_waits_TooFull, XG_waits_TooFull⟩ := X_waits_TooFull
  have R : RaC P w K mg base "TooFull" "count" := RaI.raC (x5 := ⟨0, 0, 0, 0⟩) D.r_TooFull sc_TooFull_init rfl rfl (.inl rfl) (.inl rfl) (by decide) (by decide)
  refine ⟨f, fd, F, b, m, fnX_mk (k := 6) F sc_square_sum ar (B := FX_square_sum_TooFull gx_waits_TooFull) (fun cdv A outer s H E M0 st0 fld gd hr wish hex => ?_) sem⟩
  obtain ⟨ds, hg⟩ := hex
  obtain ⟨i, rfl⟩ := shx ds st0 _ hg
  unfold FX_square_sum_TooFull
  exact (x_last (x_ret (x_arg (cr_sum2 rfl) (by rfl) D.z_sum (by decide +kernel) (x_lc rfl sc_square_sum.nd (x_call XG_waits_TooFull gd (takes_of rfl rfl rfl rfl) wish (hr.mono (by omega)) (by rfl) xm_waits_TooFull xF_waits_TooFull.kp xb_waits_TooFull (da_cons (de_var (pv 0)) da_nil)) (blkOk_by (own := [("wait", 1)]) (N := n_square_sum) (sc := defScope s_square_sum) (by decide +kernel))))))
theorem ok_flows (D : Defs K mg base T) {g_flows_behind : DRs} (C_flows_behind : Cal P w K mg base T "flows_behind" s_flows_behind 2 ["runs"] g_flows_behind) {g_ : DRs} (ar : ∀ ds st Q, g_ ds st Q → ds.length = 1) (sem : ∀ ds st Q, g_ ds st Q → F_flows g_flows_behind { nx := fun _ st' => Rt st Q .non st', rt := Rt st Q } (startD 2 ds) st) : Cal P w K mg base T "flows" s_flows 3 ["counts"] g_ := by
  obtain ⟨f, fd, F, b, m⟩ := D.d_flows
  obtain ⟨f_flows_behind, fd_flows_behind, F_flows_behind_, b_flows_behind, g_flows_behind_at, G_flows_behind⟩ := C_flows_behind
  exact ⟨f, fd, F, b, m, fnD_mk (k := 2) F sc_flows ar (fun cdv A outer s H E gd hr => (ds_one (ds_ret (de_call G_flows_behind gd (hr.mono (by omega)) (by rfl) g_flows_behind_at F_flows_behind_.kp b_flows_behind (da_cons (de_lcG (own := [("count", 1)]) finT_ok rfl sc_flows.nd (di_seq (de_var (pv 0))) (blkOk_by (own := [("count", 1)]) (N := n_flows) (sc := defScope s_flows) (by decide +kernel)) (fun _ _ _ _ _ => (dg_name (i := 1) sc_flows.nd rfl (.inl rfl) (by decide))) (fun _ _ _ _ _ => dts_nil) (fun _ _ _ _ _ => (de_tup (da_cons (de_int) (da_cons (de_var (pv 1)) da_nil))))) da_nil))))) sem⟩
theorem ok_flows_behind (D : Defs K mg base T) {g_require_room : DRs} (C_require_room : Cal P w K mg base T "require_room" s_require_room 1 ["runs"] g_require_room) {g_flow_behind : DRs} (C_flow_behind : Cal P w K mg base T "flow_behind" s_flow_behind 1 ["flow", "size", "count"] g_flow_behind) {g_ : DRs} (ar : ∀ ds st Q, g_ ds st Q → ds.length = 1) (sem : ∀ ds st Q, g_ ds st Q → F_flows_behind g_require_room g_flow_behind { nx := fun _ st' => Rt st Q .non st', rt := Rt st Q } (startD 5 ds) st) : Cal P w K mg base T "flows_behind" s_flows_behind 2 ["runs"] g_ := by
  obtain ⟨f, fd, F, b, m⟩ := D.d_flows_behind
  obtain ⟨f_require_room, fd_require_room, F_require_room_, b_require_room, g_require_room_at, G_require_room⟩ := C_require_room
  obtain ⟨f_flow_behind, fd_flow_behind, F_flow_behind_, b_flow_behind, g_flow_behind_at, G_flow_behind⟩ := C_flow_behind
  exact ⟨f, fd, F, b, m, fnD_mk (k := 1) F sc_flows_behind ar (fun cdv A outer s H E gd hr => (ds_cons (ds_expr (de_call G_require_room gd (hr.mono (by omega)) (by rfl) g_require_room_at F_require_room_.kp b_require_room (da_cons (de_var (pv 0)) da_nil))) (ds_cons (ds_set (i := 1) sc_flows_behind.nd rfl (.inl rfl) (de_int)) (ds_cons (ds_for (vs := [2, 3]) PassesOwn.never rfl (di_seq (de_var (pv 0))) (dg_tup rfl (dgs_cons (dg_name (i := 2) sc_flows_behind.nd rfl (.inl rfl) (by decide)) (dgs_cons (dg_name (i := 3) sc_flows_behind.nd rfl (.inl rfl) (by decide)) dgs_nil))) (ds_one (ds_set (i := 1) sc_flows_behind.nd rfl (.inl rfl) (de_call G_flow_behind gd (hr.mono (by omega)) (by rfl) g_flow_behind_at F_flow_behind_.kp b_flow_behind (da_cons (de_var (pv 1)) (da_cons (de_var (pv 2)) (da_cons (de_var (pv 3)) da_nil))))))) (ds_cons (ds_set (i := 4) sc_flows_behind.nd rfl (.inl rfl) (de_lstN da_nil)) (ds_cons (ds_for (vs := [2, 3]) PassesOwn.never rfl (di_seq (de_var (pv 0))) (dg_tup rfl (dgs_cons (dg_name (i := 2) sc_flows_behind.nd rfl (.inl rfl) (by decide)) (dgs_cons (dg_name (i := 3) sc_flows_behind.nd rfl (.inl rfl) (by decide)) dgs_nil))) (ds_cons (ds_set (i := 1) sc_flows_behind.nd rfl (.inl rfl) (de_call G_flow_behind gd (hr.mono (by omega)) (by rfl) g_flow_behind_at F_flow_behind_.kp b_flow_behind (da_cons (de_var (pv 1)) (da_cons (de_var (pv 2)) (da_cons (de_var (pv 3)) da_nil))))) (ds_one (ds_expr (de_bmL PySem.F.slot_list_append PySem.F.type_list_append mt_append mtD_append (de_var (pv 4)) (da_cons (de_var (pv 1)) da_nil)))))) (ds_one (ds_ret (de_callTy call_tup2 callD_tup (by rfl) D.z_tuple (by decide +kernel) (da_cons (de_var (pv 4)) da_nil)))))))))) sem⟩
theorem ok_require_room (D : Defs K mg base T) {g_ : DRs} (ar : ∀ ds st Q, g_ ds st Q → ds.length = 1) (sem : ∀ ds st Q, g_ ds st Q → F_require_room { nx := fun _ st' => Rt st Q .non st', rt := Rt st Q } (startD 4 ds) st) : Cal P w K mg base T "require_room" s_require_room 1 ["runs"] g_ := by
  obtain ⟨f, fd, F, b, m⟩ := D.d_require_room
  exact ⟨f, fd, F, b, m, fnD_mk (k := 0) F sc_require_room ar (fun cdv A outer s H E gd hr => (ds_cons (ds_set (i := 1) sc_require_room.nd rfl (.inl rfl) (de_callB (cr_sum2 rfl) callD_sum (by rfl) D.z_sum (by decide +kernel) (da_cons (de_lcG (own := [("size", 2), ("count", 3)]) finT_ok rfl sc_require_room.nd (di_seq (de_var (pv 0))) (blkOk_by (own := [("size", 2), ("count", 3)]) (N := n_require_room) (sc := defScope s_require_room) (by decide +kernel)) (fun _ _ _ _ _ => (dg_tup rfl (dgs_cons (dg_name (i := 2) sc_require_room.nd rfl (.inl rfl) (by decide)) (dgs_cons (dg_name (i := 3) sc_require_room.nd rfl (.inl rfl) (by decide)) dgs_nil)))) (fun _ _ _ _ _ => dts_nil) (fun _ _ _ _ _ => (de_mul (de_var (pv 2)) (de_var (pv 3))))) da_nil))) (ds_one (ds_if (dt_cmpR op_gt (opD_I0 fun _ _ _ _ => .bl _) (de_var (pv 1)) (de_callB (cr_sum2 rfl) callD_sum (by rfl) D.z_sum (by decide +kernel) (da_cons (de_lcG (own := [("size", 2), ("count", 3)]) finT_ok rfl sc_require_room.nd (di_seq (de_var (pv 0))) (blkOk_by (own := [("size", 2), ("count", 3)]) (N := n_require_room) (sc := defScope s_require_room) (by decide +kernel)) (fun _ _ _ _ _ => (dg_tup rfl (dgs_cons (dg_name (i := 2) sc_require_room.nd rfl (.inl rfl) (by decide)) (dgs_cons (dg_name (i := 3) sc_require_room.nd rfl (.inl rfl) (by decide)) dgs_nil)))) (fun _ _ _ _ _ => dts_nil) (fun _ _ _ _ _ => (de_var (pv 2)))) da_nil)) (nomark _)) (ds_one ds_never) ds_nil)))) sem⟩
theorem ok_flow_behind (D : Defs K mg base T) {g_ : DRs} (ar : ∀ ds st Q, g_ ds st Q → ds.length = 3) (sem : ∀ ds st Q, g_ ds st Q → F_flow_behind { nx := fun _ st' => Rt st Q .non st', rt := Rt st Q } (startD 3 ds) st) : Cal P w K mg base T "flow_behind" s_flow_behind 1 ["flow", "size", "count"] g_ := by
  obtain ⟨f, fd, F, b, m⟩ := D.d_flow_behind
  exact ⟨f, fd, F, b, m, fnD_mk (k := 0) F sc_flow_behind ar (fun cdv A outer s H E gd hr => (ds_one (ds_ret (de_callB (call_max2 rfl) callD_2I (by rfl) D.z_max (by decide +kernel) (da_cons (de_int) (da_cons (de_add (de_var (pv 0)) (de_mul (de_var (pv 1)) (de_sub (de_var (pv 2)) (de_int)))) da_nil)))))) sem⟩
theorem ok_taken (D : Defs K mg base T) {g_flows : DRs} (C_flows : Cal P w K mg base T "flows" s_flows 3 ["counts"] g_flows) {g_ : DRs} (ar : ∀ ds st Q, g_ ds st Q → ds.length = 1) (sem : ∀ ds st Q, g_ ds st Q → F_taken g_flows { nx := fun _ st' => Rt st Q .non st', rt := Rt st Q } (startD 3 ds) st) : Cal P w K mg base T "taken" s_taken 4 ["counts"] g_ := by
  obtain ⟨f, fd, F, b, m⟩ := D.d_taken
  obtain ⟨f_flows, fd_flows, F_flows_, b_flows, g_flows_at, G_flows⟩ := C_flows
  exact ⟨f, fd, F, b, m, fnD_mk (k := 3) F sc_taken ar (fun cdv A outer s H E gd hr => (ds_cons (ds_set (i := 1) sc_taken.nd rfl (.inr rfl) (de_call G_flows gd (hr.mono (by omega)) (by rfl) g_flows_at F_flows_.kp b_flows (da_cons (de_var (pv 0)) da_nil))) (ds_one (ds_ret (de_callTy call_tup2 callD_tup (by rfl) D.z_tuple (by decide +kernel) (da_cons (de_lcG (own := [("slot", 2)]) finT_ok rfl sc_taken.nd (di_range1 (by rfl) D.z_range (da_cons (de_callB call_len_seq callD_len (by rfl) D.z_len PySem.boot_len (da_cons (de_var (pv 0)) da_nil)) da_nil)) (blkOk_by (own := [("slot", 2)]) (N := n_taken) (sc := defScope s_taken) (by decide +kernel)) (fun _ _ _ _ _ => (dg_name (i := 2) sc_taken.nd rfl (.inl rfl) (by decide))) (fun _ _ _ _ _ => (dts_one (dt_cmpR op_gt (opD_I0 fun _ _ _ _ => .bl _) (de_add (de_ix (de_var (pv 1)) (de_sub (de_var (pv 2)) (de_int)) (fun _ _ => rfl)) (de_ix (de_var (pv 0)) (de_var (pv 2)) (fun _ _ => rfl))) (de_int) (nomark _)))) (fun _ _ _ _ _ => (de_var (pv 2)))) da_nil)))))) sem⟩
theorem ok_distance_sum (D : Defs K mg base T) {g_flows : DRs} (C_flows : Cal P w K mg base T "flows" s_flows 3 ["counts"] g_flows) {g_ : DRs} (ar : ∀ ds st Q, g_ ds st Q → ds.length = 1) (sem : ∀ ds st Q, g_ ds st Q → F_distance_sum g_flows { nx := fun _ st' => Rt st Q .non st', rt := Rt st Q } (startD 1 ds) st) : Cal P w K mg base T "distance_sum" s_distance_sum 4 ["counts"] g_ := by
  obtain ⟨f, fd, F, b, m⟩ := D.d_distance_sum
  obtain ⟨f_flows, fd_flows, F_flows_, b_flows, g_flows_at, G_flows⟩ := C_flows
  exact ⟨f, fd, F, b, m, fnD_mk (k := 3) F sc_distance_sum ar (fun cdv A outer s H E gd hr => (ds_one (ds_ret (de_callB (cr_sum2 rfl) callD_sum (by rfl) D.z_sum (by decide +kernel) (da_cons (de_call G_flows gd (hr.mono (by omega)) (by rfl) g_flows_at F_flows_.kp b_flows (da_cons (de_var (pv 0)) da_nil)) da_nil))))) sem⟩
theorem ok_greatest_distance (D : Defs K mg base T) {g_waits : DRs} (C_waits : Cal P w K mg base T "waits" s_waits 4 ["counts"] g_waits) {g_ : DRs} (ar : ∀ ds st Q, g_ ds st Q → ds.length = 1) (sem : ∀ ds st Q, g_ ds st Q → F_greatest_distance g_waits { nx := fun _ st' => Rt st Q .non st', rt := Rt st Q } (startD 1 ds) st) : Cal P w K mg base T "greatest_distance" s_greatest_distance 5 ["counts"] g_ := by
  obtain ⟨f, fd, F, b, m⟩ := D.d_greatest_distance
  obtain ⟨f_waits, fd_waits, F_waits_, b_waits, g_waits_at, G_waits⟩ := C_waits
  exact ⟨f, fd, F, b, m, fnD_mk (k := 4) F sc_greatest_distance ar (fun cdv A outer s H E gd hr => (ds_one (ds_ret (de_maxDef (Nat.lt_of_le_of_lt (Nat.add_le_add_left (by decide) _) hr.units) rfl (by rfl) D.z_max (de_call G_waits gd (hr.mono (by omega)) (by rfl) g_waits_at F_waits_.kp b_waits (da_cons (de_var (pv 0)) da_nil)) (de_int))))) sem⟩
theorem ok_square_sum (D : Defs K mg base T) {g_waits : DRs} (C_waits : Cal P w K mg base T "waits" s_waits 4 ["counts"] g_waits) {g_ : DRs} (ar : ∀ ds st Q, g_ ds st Q → ds.length = 1) (sem : ∀ ds st Q, g_ ds st Q → F_square_sum g_waits { nx := fun _ st' => Rt st Q .non st', rt := Rt st Q } (startD 2 ds) st) : Cal P w K mg base T "square_sum" s_square_sum 5 ["counts"] g_ := by
  obtain ⟨f, fd, F, b, m⟩ := D.d_square_sum
  obtain ⟨f_waits, fd_waits, F_waits_, b_waits, g_waits_at, G_waits⟩ := C_waits
  exact ⟨f, fd, F, b, m, fnD_mk (k := 4) F sc_square_sum ar (fun cdv A outer s H E gd hr => (ds_one (ds_ret (de_callB (cr_sum2 rfl) callD_sum (by rfl) D.z_sum (by decide +kernel) (da_cons (de_lcG (own := [("wait", 1)]) finT_ok rfl sc_square_sum.nd (di_seq (de_call G_waits gd (hr.mono (by omega)) (by rfl) g_waits_at F_waits_.kp b_waits (da_cons (de_var (pv 0)) da_nil))) (blkOk_by (own := [("wait", 1)]) (N := n_square_sum) (sc := defScope s_square_sum) (by decide +kernel)) (fun _ _ _ _ _ => (dg_name (i := 1) sc_square_sum.nd rfl (.inl rfl) (by decide))) (fun _ _ _ _ _ => dts_nil) (fun _ _ _ _ _ => (de_mul (de_var (pv 1)) (de_var (pv 1))))) da_nil))))) sem⟩
theorem ok_waits (D : Defs K mg base T) {g_flows : DRs} (C_flows : Cal P w K mg base T "flows" s_flows 3 ["counts"] g_flows) {g_ : DRs} (ar : ∀ ds st Q, g_ ds st Q → ds.length = 1) (sem : ∀ ds st Q, g_ ds st Q → F_waits g_flows { nx := fun _ st' => Rt st Q .non st', rt := Rt st Q } (startD 4 ds) st) : Cal P w K mg base T "waits" s_waits 4 ["counts"] g_ := by
  obtain ⟨f, fd, F, b, m⟩ := D.d_waits
  obtain ⟨f_flows, fd_flows, F_flows_, b_flows, g_flows_at, G_flows⟩ := C_flows
  exact ⟨f, fd, F, b, m, fnD_mk (k := 3) F sc_waits ar (fun cdv A outer s H E gd hr => (ds_cons (ds_set (i := 1) sc_waits.nd rfl (.inr rfl) (de_call G_flows gd (hr.mono (by omega)) (by rfl) g_flows_at F_flows_.kp b_flows (da_cons (de_var (pv 0)) da_nil))) (ds_one (ds_ret (de_lc2G (vs1 := [3]) finT_ok rfl sc_waits.nd (di_range1 (by rfl) D.z_range (da_cons (de_callB call_len_seq callD_len (by rfl) D.z_len PySem.boot_len (da_cons (de_var (pv 0)) da_nil)) da_nil)) (blkOk_by (own := [("slot", 2), ("at", 3)]) (N := n_waits) (sc := defScope s_waits) (by decide +kernel)) (by decide) (fun _ _ _ _ _ => (dg_name (i := 2) sc_waits.nd rfl (.inl rfl) (by decide))) (fun _ _ _ _ _ => dts_nil) (fun _ _ _ _ _ => (di_range1 (by rfl) D.z_range (da_cons (de_ix (de_var (pv 0)) (de_var (pv 2)) (fun _ _ => rfl)) da_nil))) (fun _ _ _ _ _ => (dg_name (i := 3) sc_waits.nd rfl (.inl rfl) (by decide))) (fun _ _ _ _ _ => dts_nil) (fun _ _ _ _ _ => (de_add (de_ix (de_var (pv 1)) (de_sub (de_var (pv 2)) (de_int)) (fun _ _ => rfl)) (de_var (pv 3))))))))) sem⟩
theorem ok__law_pot (D : Defs K mg base T) {g_ : DRs} (ar : ∀ ds st Q, g_ ds st Q → ds.length = 2) (sem : ∀ ds st Q, g_ ds st Q → F__law_pot { nx := fun _ st' => Rt st Q .non st', rt := Rt st Q } (startD 4 ds) st) : Cal P w K mg base T "_law_pot" s__law_pot 1 ["_law_script", "_law_k"] g_ := by
  obtain ⟨f, fd, F, b, m⟩ := D.d__law_pot
  exact ⟨f, fd, F, b, m, fnD_mk (k := 0) F sc__law_pot ar (fun cdv A outer s H E gd hr => (ds_cons (ds_set (i := 2) sc__law_pot.nd rfl (.inl rfl) (de_if (dt_cmpR (op_ltG (Nat.lt_of_le_of_lt (Nat.le_add_right _ _) hr.units)) opD_ltG (de_var (pv 1)) (de_callB call_len_seq callD_len (by rfl) D.z_len PySem.boot_len (da_cons (de_var (pv 0)) da_nil)) (nomark _)) (de_ix (de_var (pv 0)) (de_var (pv 1)) (fun _ _ => rfl)) (de_add (de_mul (de_int) (de_var (pv 1))) (de_int)))) (ds_cons (ds_set (i := 3) sc__law_pot.nd rfl (.inl rfl) (de_if (dt_cmpR op_ge (opD_I0 fun _ _ _ _ => .bl _) (de_callB call_abs callD_abs (by rfl) D.z_abs (by decide +kernel) (da_cons (de_var (pv 2)) da_nil)) (de_pow (de_int) (de_int)) (nomark _)) (de_mod (de_callB call_abs callD_abs (by rfl) D.z_abs (by decide +kernel) (da_cons (de_var (pv 2)) da_nil)) (de_pow (de_pow (de_int) (de_int)) (de_int))) (de_int))) (ds_one (ds_ret (de_lstN (da_cons (de_var (pv 3)) (da_cons (de_mod (de_add (de_add (de_mul (de_mod (de_var (pv 2)) (de_int)) (de_int)) (de_mul (de_mul (de_int) (de_var (pv 1))) (de_var (pv 1)))) (de_int)) (de_int)) (da_cons (de_int) da_nil))))))))) sem⟩
theorem ok__law_take (D : Defs K mg base T) {g_ : DRs} (ar : ∀ ds st Q, g_ ds st Q → ds.length = 2) (sem : ∀ ds st Q, g_ ds st Q → F__law_take { nx := fun _ st' => Rt st Q .non st', rt := Rt st Q } (startD 5 ds) st) : Cal P w K mg base T "_law_take" s__law_take 1 ["_law_pot_here", "_law_size"] g_ := by
  obtain ⟨f, fd, F, b, m⟩ := D.d__law_take
  exact ⟨f, fd, F, b, m, fnD_mk (k := 0) F sc__law_take ar (fun cdv A outer s H E gd hr => (ds_cons (ds_if (dt_cmpR op_gt (opD_I0 fun _ _ _ _ => .bl _) (de_ix (de_var (pv 0)) (de_int) (fun _ _ => rfl)) (de_int) (nomark _)) (ds_cons (ds_set (i := 2) sc__law_take.nd rfl (.inl rfl) (de_mod (de_ix (de_var (pv 0)) (de_int) (fun _ _ => rfl)) (de_var (pv 1)))) (ds_cons (ds_asg (vs := []) (de_div (de_ix (de_var (pv 0)) (de_int) (fun _ _ => rfl)) (de_var (pv 1))) (dg_sub (de_var (pv 0)) (de_int))) (ds_one (ds_ret (de_var (pv 2)))))) ds_nil) (ds_cons (ds_asg (vs := []) (de_add (de_ix (de_var (pv 0)) (de_int) (fun _ _ => rfl)) (de_int)) (dg_sub (de_var (pv 0)) (de_int))) (ds_cons (ds_set (i := 3) sc__law_take.nd rfl (.inl rfl) (de_ix (de_lst (da_cons (de_int) (da_cons (de_int) (da_cons (de_int) (da_cons (de_int) (da_cons (de_int) da_nil)))))) (de_mod (de_ix (de_var (pv 0)) (de_int) (fun _ _ => rfl)) (de_int)) (fun _ _ => rfl))) (ds_cons (ds_set (i := 4) sc__law_take.nd rfl (.inl rfl) (de_mod (de_pow (de_add (de_add (de_ix (de_var (pv 0)) (de_int) (fun _ _ => rfl)) (de_mul (de_mul (de_int) (de_ix (de_var (pv 0)) (de_int) (fun _ _ => rfl))) (de_ix (de_var (pv 0)) (de_int) (fun _ _ => rfl)))) (de_int)) (de_int)) (de_var (pv 3)))) (ds_one (ds_ret (de_mod (de_div (de_mod (de_mul (de_var (pv 4)) (de_add (de_mod (de_var (pv 4)) (de_int)) (de_mul (de_int) (de_ix (de_var (pv 0)) (de_int) (fun _ _ => rfl))))) (de_int)) (de_int)) (de_var (pv 1)))))))))) sem⟩
theorem ok__law_pick (D : Defs K mg base T) {g__law_take : DRs} (C__law_take : Cal P w K mg base T "_law_take" s__law_take 1 ["_law_pot_here", "_law_size"] g__law_take) {g_ : DRs} (ar : ∀ ds st Q, g_ ds st Q → ds.length = 2) (sem : ∀ ds st Q, g_ ds st Q → F__law_pick g__law_take { nx := fun _ st' => Rt st Q .non st', rt := Rt st Q } (startD 2 ds) st) : Cal P w K mg base T "_law_pick" s__law_pick 2 ["_law_pot_here", "_law_some"] g_ := by
  obtain ⟨f, fd, F, b, m⟩ := D.d__law_pick
  obtain ⟨f__law_take, fd__law_take, F__law_take_, b__law_take, g__law_take_at, G__law_take⟩ := C__law_take
  exact ⟨f, fd, F, b, m, fnD_mk (k := 1) F sc__law_pick ar (fun cdv A outer s H E gd hr => (ds_one (ds_ret (de_ix (de_var (pv 1)) (de_call G__law_take gd (hr.mono (by omega)) (by rfl) g__law_take_at F__law_take_.kp b__law_take (da_cons (de_var (pv 0)) (da_cons (de_callB call_len_seq callD_len (by rfl) D.z_len PySem.boot_len (da_cons (de_var (pv 1)) da_nil)) da_nil))) (fun _ _ => rfl))))) sem⟩
theorem ok__law_all_refused (D : Defs K mg base T) {g_ : DRs} {gx_distance_sum_TooFull : DXs} (X_distance_sum_TooFull : CalX P w K mg base T "distance_sum" s_distance_sum 6 ["counts"] "TooFull" gx_distance_sum_TooFull) {gx_flows_TooFull : DXs} (X_flows_TooFull : CalX P w K mg base T "flows" s_flows 5 ["counts"] "TooFull" gx_flows_TooFull) {gx_greatest_distance_TooFull : DXs} (X_greatest_distance_TooFull : CalX P w K mg base T "greatest_distance" s_greatest_distance 7 ["counts"] "TooFull" gx_greatest_distance_TooFull) {gx_square_sum_TooFull : DXs} (X_square_sum_TooFull : CalX P w K mg base T "square_sum" s_square_sum 7 ["counts"] "TooFull" gx_square_sum_TooFull) {gx_taken_TooFull : DXs} (X_taken_TooFull : CalX P w K mg base T "taken" s_taken 6 ["counts"] "TooFull" gx_taken_TooFull) (ar : ∀ ds st Q, g_ ds st Q → ds.length = 2) (sem : ∀ ds st Q, g_ ds st Q → F__law_all_refused gx_distance_sum_TooFull gx_flows_TooFull gx_greatest_distance_TooFull gx_square_sum_TooFull gx_taken_TooFull { nx := fun _ st' => Rt st Q .non st', rt := Rt st Q } (startD 3 ds) st) : Cal P w K mg base T "_law_all_refused" s__law_all_refused 11 ["_law_some", "_law_many"] g_ := by
  obtain ⟨f, fd, F, b, m, c, Pt, code, TB, hT, hT1⟩ := D.d__law_all_refused
  obtain ⟨f__law_refused_t, fd__law_refused_t, F__law_refused_t, b__law_refused_t, m__law_refused_t⟩ := D.d__law_refused
  obtain ⟨xf_distance_sum_TooFull, xfd_distance_sum_TooFull, xF_distance_sum_TooFull, xb_distance_sum_TooFull, xm_distance_sum_TooFull, XG_distance_sum_TooFull⟩ := X_distance_sum_TooFull
  obtain ⟨xf_flows_TooFull, xfd_flows_TooFull, xF_flows_TooFull, xb_flows_TooFull, xm_flows_TooFull, XG_flows_TooFull⟩ := X_flows_TooFull
  obtain ⟨xf_greatest_distance_TooFull, xfd_greatest_distance_TooFull, xF_greatest_distance_TooFull, xb_greatest_distance_TooFull, xm_greatest_distance_TooFull, XG_greatest_distance_TooFull⟩ := X_greatest_distance_TooFull
  obtain ⟨xf_square_sum_TooFull, xfd_square_sum_TooFull, xF_square_sum_TooFull, xb_square_sum_TooFull, xm_square_sum_TooFull, XG_square_sum_TooFull⟩ := X_square_sum_TooFull
  obtain ⟨xf_taken_TooFull, xfd_taken_TooFull, xF_taken_TooFull, xb_taken_TooFull, xm_taken_TooFull, XG_taken_TooFull⟩ := X_taken_TooFull
  obtain ⟨c_TooFull, mc_TooFull, tl_TooFull⟩ := tell_TooFull D.x_TooFull D.z_isinstance D.z_len D.z_ValueError
  exact ⟨f, fd, F, b, m, fnD_code (k := 10) F sc__law_all_refused ar (fun A outer s H E gd hr => (ds_cons (ds_set (i := 2) sc__law_all_refused.nd rfl (.inl rfl) (de_lstN (da_cons (de_tell1 (k := 5) F__law_refused_t b__law_refused_t m__law_refused_t (by rfl) sc__law_refused rfl (.inl rfl) mc_TooFull (fun cdv i => tl_TooFull _ rfl rfl _ cdv _ i) TB code hT hT1 (hr.mono (by omega)) (lamS_by (by show lamSB (defScope s__law_all_refused) _ = true; decide +kernel)) rfl (fun _ _ _ _ _ => rfl) (fun A outer s H E f c' gg hr => lam_body XG_flows_TooFull (gg.trans gd) hr (by rfl) xm_flows_TooFull xF_flows_TooFull.kp xb_flows_TooFull (da_cons (de_var (pv 0)) da_nil))) (da_cons (de_non) (da_cons (de_non) (da_cons (de_non) (da_cons (de_non) da_nil))))))) (ds_cons (ds_asg (vs := []) (de_tell1 (k := 6) F__law_refused_t b__law_refused_t m__law_refused_t (by rfl) sc__law_refused rfl (.inl rfl) mc_TooFull (fun cdv i => tl_TooFull _ rfl rfl _ cdv _ i) TB code hT hT1 (hr.mono (by omega)) (lamS_by (by show lamSB (defScope s__law_all_refused) _ = true; decide +kernel)) rfl (fun _ _ _ _ _ => rfl) (fun A outer s H E f c' gg hr => lam_body XG_taken_TooFull (gg.trans gd) hr (by rfl) xm_taken_TooFull xF_taken_TooFull.kp xb_taken_TooFull (da_cons (de_var (pv 0)) da_nil))) (dg_sub (de_var (pv 2)) (de_int))) (ds_cons (ds_asg (vs := []) (de_tell1 (k := 6) F__law_refused_t b__law_refused_t m__law_refused_t (by rfl) sc__law_refused rfl (.inl rfl) mc_TooFull (fun cdv i => tl_TooFull _ rfl rfl _ cdv _ i) TB code hT hT1 (hr.mono (by omega)) (lamS_by (by show lamSB (defScope s__law_all_refused) _ = true; decide +kernel)) rfl (fun _ _ _ _ _ => rfl) (fun A outer s H E f c' gg hr => lam_body XG_distance_sum_TooFull (gg.trans gd) hr (by rfl) xm_distance_sum_TooFull xF_distance_sum_TooFull.kp xb_distance_sum_TooFull (da_cons (de_var (pv 0)) da_nil))) (dg_sub (de_var (pv 2)) (de_int))) (ds_cons (ds_asg (vs := []) (de_tell1 (k := 7) F__law_refused_t b__law_refused_t m__law_refused_t (by rfl) sc__law_refused rfl (.inl rfl) mc_TooFull (fun cdv i => tl_TooFull _ rfl rfl _ cdv _ i) TB code hT hT1 (hr.mono (by omega)) (lamS_by (by show lamSB (defScope s__law_all_refused) _ = true; decide +kernel)) rfl (fun _ _ _ _ _ => rfl) (fun A outer s H E f c' gg hr => lam_body XG_greatest_distance_TooFull (gg.trans gd) hr (by rfl) xm_greatest_distance_TooFull xF_greatest_distance_TooFull.kp xb_greatest_distance_TooFull (da_cons (de_var (pv 0)) da_nil))) (dg_sub (de_var (pv 2)) (de_int))) (ds_cons (ds_asg (vs := []) (de_tell1 (k := 7) F__law_refused_t b__law_refused_t m__law_refused_t (by rfl) sc__law_refused rfl (.inl rfl) mc_TooFull (fun cdv i => tl_TooFull _ rfl rfl _ cdv _ i) TB code hT hT1 (hr.mono (by omega)) (lamS_by (by show lamSB (defScope s__law_all_refused) _ = true; decide +kernel)) rfl (fun _ _ _ _ _ => rfl) (fun A outer s H E f c' gg hr => lam_body XG_square_sum_TooFull (gg.trans gd) hr (by rfl) xm_square_sum_TooFull xF_square_sum_TooFull.kp xb_square_sum_TooFull (da_cons (de_var (pv 0)) da_nil))) (dg_sub (de_var (pv 2)) (de_int))) (ds_one (ds_ret (de_cmp (op_eq2 hr.units) opD_eq (de_callB (call_reprD gd hr.units) callD_repr (by rfl) D.z_repr (by decide +kernel) (da_cons (de_var (pv 2)) da_nil)) (de_callB (call_reprD gd hr.units) callD_repr (by rfl) D.z_repr (by decide +kernel) (da_cons (de_mul (de_lst (da_cons (de_var (pv 1)) da_nil)) (de_int)) da_nil)) (nomark _)))))))))) sem⟩
theorem ok__law_all_runs_refused (D : Defs K mg base T) {g_ : DRs} {gx_run_distance_sum_TooFull : DXs} (X_run_distance_sum_TooFull : CalX P w K mg base T "run_distance_sum" s_run_distance_sum 5 ["runs"] "TooFull" gx_run_distance_sum_TooFull) {gx_run_flow_TooFull : DXs} (X_run_flow_TooFull : CalX P w K mg base T "run_flow" s_run_flow 6 ["runs", "slot"] "TooFull" gx_run_flow_TooFull) {gx_run_greatest_TooFull : DXs} (X_run_greatest_TooFull : CalX P w K mg base T "run_greatest" s_run_greatest 5 ["runs"] "TooFull" gx_run_greatest_TooFull) {gx_run_taken_TooFull : DXs} (X_run_taken_TooFull : CalX P w K mg base T "run_taken" s_run_taken 6 ["runs", "slot"] "TooFull" gx_run_taken_TooFull) (ar : ∀ ds st Q, g_ ds st Q → ds.length = 2) (sem : ∀ ds st Q, g_ ds st Q → F__law_all_runs_refused gx_run_distance_sum_TooFull gx_run_flow_TooFull gx_run_greatest_TooFull gx_run_taken_TooFull { nx := fun _ st' => Rt st Q .non st', rt := Rt st Q } (startD 3 ds) st) : Cal P w K mg base T "_law_all_runs_refused" s__law_all_runs_refused 10 ["_law_some", "_law_many"] g_ := by
  obtain ⟨f, fd, F, b, m, c, Pt, code, TB, hT, hT1⟩ := D.d__law_all_runs_refused
  obtain ⟨f__law_refused_t, fd__law_refused_t, F__law_refused_t, b__law_refused_t, m__law_refused_t⟩ := D.d__law_refused
  obtain ⟨xf_run_distance_sum_TooFull, xfd_run_distance_sum_TooFull, xF_run_distance_sum_TooFull, xb_run_distance_sum_TooFull, xm_run_distance_sum_TooFull, XG_run_distance_sum_TooFull⟩ := X_run_distance_sum_TooFull
  obtain ⟨xf_run_flow_TooFull, xfd_run_flow_TooFull, xF_run_flow_TooFull, xb_run_flow_TooFull, xm_run_flow_TooFull, XG_run_flow_TooFull⟩ := X_run_flow_TooFull
  obtain ⟨xf_run_greatest_TooFull, xfd_run_greatest_TooFull, xF_run_greatest_TooFull, xb_run_greatest_TooFull, xm_run_greatest_TooFull, XG_run_greatest_TooFull⟩ := X_run_greatest_TooFull
  obtain ⟨xf_run_taken_TooFull, xfd_run_taken_TooFull, xF_run_taken_TooFull, xb_run_taken_TooFull, xm_run_taken_TooFull, XG_run_taken_TooFull⟩ := X_run_taken_TooFull
  obtain ⟨c_TooFull, mc_TooFull, tl_TooFull⟩ := tell_TooFull D.x_TooFull D.z_isinstance D.z_len D.z_ValueError
  exact ⟨f, fd, F, b, m, fnD_code (k := 9) F sc__law_all_runs_refused ar (fun A outer s H E gd hr => (ds_cons (ds_set (i := 2) sc__law_all_runs_refused.nd rfl (.inl rfl) (de_lstN (da_cons (de_tell1 (k := 6) F__law_refused_t b__law_refused_t m__law_refused_t (by rfl) sc__law_refused rfl (.inl rfl) mc_TooFull (fun cdv i => tl_TooFull _ rfl rfl _ cdv _ i) TB code hT hT1 (hr.mono (by omega)) (lamS_by (by show lamSB (defScope s__law_all_runs_refused) _ = true; decide +kernel)) rfl (fun _ _ _ _ _ => rfl) (fun A outer s H E f c' gg hr => lam_body XG_run_flow_TooFull (gg.trans gd) hr (by rfl) xm_run_flow_TooFull xF_run_flow_TooFull.kp xb_run_flow_TooFull (da_cons (de_var (pv 0)) (da_cons (de_int) da_nil)))) (da_cons (de_non) (da_cons (de_non) (da_cons (de_non) da_nil)))))) (ds_cons (ds_asg (vs := []) (de_tell1 (k := 6) F__law_refused_t b__law_refused_t m__law_refused_t (by rfl) sc__law_refused rfl (.inl rfl) mc_TooFull (fun cdv i => tl_TooFull _ rfl rfl _ cdv _ i) TB code hT hT1 (hr.mono (by omega)) (lamS_by (by show lamSB (defScope s__law_all_runs_refused) _ = true; decide +kernel)) rfl (fun _ _ _ _ _ => rfl) (fun A outer s H E f c' gg hr => lam_body XG_run_taken_TooFull (gg.trans gd) hr (by rfl) xm_run_taken_TooFull xF_run_taken_TooFull.kp xb_run_taken_TooFull (da_cons (de_var (pv 0)) (da_cons (de_int) da_nil)))) (dg_sub (de_var (pv 2)) (de_int))) (ds_cons (ds_asg (vs := []) (de_tell1 (k := 5) F__law_refused_t b__law_refused_t m__law_refused_t (by rfl) sc__law_refused rfl (.inl rfl) mc_TooFull (fun cdv i => tl_TooFull _ rfl rfl _ cdv _ i) TB code hT hT1 (hr.mono (by omega)) (lamS_by (by show lamSB (defScope s__law_all_runs_refused) _ = true; decide +kernel)) rfl (fun _ _ _ _ _ => rfl) (fun A outer s H E f c' gg hr => lam_body XG_run_distance_sum_TooFull (gg.trans gd) hr (by rfl) xm_run_distance_sum_TooFull xF_run_distance_sum_TooFull.kp xb_run_distance_sum_TooFull (da_cons (de_var (pv 0)) da_nil))) (dg_sub (de_var (pv 2)) (de_int))) (ds_cons (ds_asg (vs := []) (de_tell1 (k := 5) F__law_refused_t b__law_refused_t m__law_refused_t (by rfl) sc__law_refused rfl (.inl rfl) mc_TooFull (fun cdv i => tl_TooFull _ rfl rfl _ cdv _ i) TB code hT hT1 (hr.mono (by omega)) (lamS_by (by show lamSB (defScope s__law_all_runs_refused) _ = true; decide +kernel)) rfl (fun _ _ _ _ _ => rfl) (fun A outer s H E f c' gg hr => lam_body XG_run_greatest_TooFull (gg.trans gd) hr (by rfl) xm_run_greatest_TooFull xF_run_greatest_TooFull.kp xb_run_greatest_TooFull (da_cons (de_var (pv 0)) da_nil))) (dg_sub (de_var (pv 2)) (de_int))) (ds_one (ds_ret (de_cmp (op_eq2 hr.units) opD_eq (de_callB (call_reprD gd hr.units) callD_repr (by rfl) D.z_repr (by decide +kernel) (da_cons (de_var (pv 2)) da_nil)) (de_callB (call_reprD gd hr.units) callD_repr (by rfl) D.z_repr (by decide +kernel) (da_cons (de_mul (de_lst (da_cons (de_var (pv 1)) da_nil)) (de_int)) da_nil)) (nomark _))))))))) sem⟩
theorem ok__law_right (D : Defs K mg base T) {g_flows : DRs} (C_flows : Cal P w K mg base T "flows" s_flows 3 ["counts"] g_flows) {g_taken : DRs} (C_taken : Cal P w K mg base T "taken" s_taken 4 ["counts"] g_taken) {g_distance_sum : DRs} (C_distance_sum : Cal P w K mg base T "distance_sum" s_distance_sum 4 ["counts"] g_distance_sum) {g_greatest_distance : DRs} (C_greatest_distance : Cal P w K mg base T "greatest_distance" s_greatest_distance 5 ["counts"] g_greatest_distance) {g_square_sum : DRs} (C_square_sum : Cal P w K mg base T "square_sum" s_square_sum 5 ["counts"] g_square_sum) {g__law_take : DRs} (C__law_take : Cal P w K mg base T "_law_take" s__law_take 1 ["_law_pot_here", "_law_size"] g__law_take) {g__law_pick : DRs} (C__law_pick : Cal P w K mg base T "_law_pick" s__law_pick 2 ["_law_pot_here", "_law_some"] g__law_pick) {g__law_all_refused : DRs} (C__law_all_refused : Cal P w K mg base T "_law_all_refused" s__law_all_refused 11 ["_law_some", "_law_many"] g__law_all_refused) {g__law_all_runs_refused : DRs} (C__law_all_runs_refused : Cal P w K mg base T "_law_all_runs_refused" s__law_all_runs_refused 10 ["_law_some", "_law_many"] g__law_all_runs_refused) {g_ : DRs} (ar : ∀ ds st Q, g_ ds st Q → ds.length = 1) (sem : ∀ ds st Q, g_ ds st Q → F__law_right_v23 g_flows g_taken g_distance_sum g_greatest_distance g_square_sum g__law_take g__law_pick g__law_all_refused g__law_all_runs_refused { nx := fun _ st' => Rt st Q .non st', rt := Rt st Q } (startD 9 ds) st) : Cal P w K mg base T "_law_right" s__law_right 12 ["_law_pot_here"] g_ := by
  obtain ⟨f, fd, F, b, m⟩ := D.d__law_right
  obtain ⟨f_flows, fd_flows, F_flows_, b_flows, g_flows_at, G_flows⟩ := C_flows
  obtain ⟨f_taken, fd_taken, F_taken_, b_taken, g_taken_at, G_taken⟩ := C_taken
  obtain ⟨f_distance_sum, fd_distance_sum, F_distance_sum_, b_distance_sum, g_distance_sum_at, G_distance_sum⟩ := C_distance_sum
  obtain ⟨f_greatest_distance, fd_greatest_distance, F_greatest_distance_, b_greatest_distance, g_greatest_distance_at, G_greatest_distance⟩ := C_greatest_distance
  obtain ⟨f_square_sum, fd_square_sum, F_square_sum_, b_square_sum, g_square_sum_at, G_square_sum⟩ := C_square_sum
  obtain ⟨f__law_take, fd__law_take, F__law_take_, b__law_take, g__law_take_at, G__law_take⟩ := C__law_take
  obtain ⟨f__law_pick, fd__law_pick, F__law_pick_, b__law_pick, g__law_pick_at, G__law_pick⟩ := C__law_pick
  obtain ⟨f__law_all_refused, fd__law_all_refused, F__law_all_refused_, b__law_all_refused, g__law_all_refused_at, G__law_all_refused⟩ := C__law_all_refused
  obtain ⟨f__law_all_runs_refused, fd__law_all_runs_refused, F__law_all_runs_refused_, b__law_all_runs_refused, g__law_all_runs_refused_at, G__law_all_runs_refused⟩ := C__law_all_runs_refused
  exact ⟨f, fd, F, b, m, fnD_mk (k := 11) F sc__law_right ar (fun cdv A outer s H E gd hr => (ds_cons (ds_for (vs := [1]) PassesOwn.never rfl (di_range1 (by rfl) D.z_range (da_cons (de_int) da_nil)) (dg_name (i := 1) sc__law_right.nd rfl (.inl rfl) (by decide)) (ds_cons (ds_set (i := 2) sc__law_right.nd rfl (.inl rfl) (de_add (de_int) (de_call G__law_take gd (hr.mono (by omega)) (by rfl) g__law_take_at F__law_take_.kp b__law_take (da_cons (de_var (pv 0)) (da_cons (de_int) da_nil))))) (ds_cons (ds_par (i := 3) (j := 4) rfl sc__law_right.nd rfl rfl (by decide) rfl rfl (da_cons (de_call G__law_take gd (hr.mono (by omega)) (by rfl) g__law_take_at F__law_take_.kp b__law_take (da_cons (de_var (pv 0)) (da_cons (de_var (pv 2)) da_nil))) (da_cons (de_add (de_int) (de_call G__law_pick gd (hr.mono (by omega)) (by rfl) g__law_pick_at F__law_pick_.kp b__law_pick (da_cons (de_var (pv 0)) (da_cons (de_lst (da_cons (de_int) (da_cons (de_call G__law_take gd (hr.mono (by omega)) (by rfl) g__law_take_at F__law_take_.kp b__law_take (da_cons (de_var (pv 0)) (da_cons (de_int) da_nil))) (da_cons (de_pow (de_int) (de_int)) da_nil)))) da_nil)))) da_nil)) (by rfl)) (ds_cons (ds_set (i := 5) sc__law_right.nd rfl (.inl rfl) (de_add (de_add (de_mulT (de_tup (da_cons (de_int) da_nil)) (de_var (pv 3))) (de_tup (da_cons (de_var (pv 2)) da_nil))) (de_mulT (de_tup (da_cons (de_int) da_nil)) (de_sub (de_sub (de_var (pv 2)) (de_var (pv 3))) (de_int))))) (ds_cons (ds_if (PW.pt (dw_or (dt_cmpR (op_ne2 hr.units) opD_ne (de_call G_taken gd (hr.mono (by omega)) (by rfl) g_taken_at F_taken_.kp b_taken (da_cons (de_var (pv 5)) da_nil)) (de_callTy call_tup2 callD_tup (by rfl) D.z_tuple (by decide +kernel) (da_cons (de_listRg1 (.inl rfl) rfl (by rfl) D.z_list (by rfl) D.z_range (de_var (pv 2))) da_nil)) (nomark _)) (dw_or1 (dt_cmpR (op_ne2 hr.units) opD_ne (de_call G_greatest_distance gd (hr.mono (by omega)) (by rfl) g_greatest_distance_at F_greatest_distance_.kp b_greatest_distance (da_cons (de_var (pv 5)) da_nil)) (de_sub (de_var (pv 2)) (de_int)) (nomark _))))) (ds_one (ds_ret (de_bl))) ds_nil) (ds_cons (ds_set (i := 6) sc__law_right.nd rfl (.inl rfl) (de_callB (cr_sum2 rfl) callD_sum (by rfl) D.z_sum (by decide +kernel) (da_cons (de_lcG (own := [("_law_one", 8)]) finT_ok rfl sc__law_right.nd (di_range1 (by rfl) D.z_range (da_cons (de_var (pv 2)) da_nil)) (blkOk_by (own := [("_law_one", 8)]) (N := n__law_right) (sc := defScope s__law_right) (by decide +kernel)) (fun _ _ _ _ _ => (dg_name (i := 8) sc__law_right.nd rfl (.inl rfl) (by decide))) (fun _ _ _ _ _ => dts_nil) (fun _ _ _ _ _ => (de_mul (de_var (pv 8)) (de_var (pv 8))))) da_nil))) (ds_cons (ds_if (dt_cmpR (op_ne2 hr.units) opD_ne (de_lst (da_cons (de_call G_distance_sum gd (hr.mono (by omega)) (by rfl) g_distance_sum_at F_distance_sum_.kp b_distance_sum (da_cons (de_var (pv 5)) da_nil)) (da_cons (de_call G_square_sum gd (hr.mono (by omega)) (by rfl) g_square_sum_at F_square_sum_.kp b_square_sum (da_cons (de_var (pv 5)) da_nil)) da_nil))) (de_lst (da_cons (de_div (de_mul (de_var (pv 2)) (de_sub (de_var (pv 2)) (de_int))) (de_int)) (da_cons (de_var (pv 6)) da_nil))) (nomark _)) (ds_one (ds_ret (de_bl))) ds_nil) (ds_cons (ds_if (dt_not (dt_val (de_call G__law_all_refused gd (hr.mono (by omega)) (by rfl) g__law_all_refused_at F__law_all_refused_.kp b__law_all_refused (da_cons (de_add (de_add (de_slice (.inl rfl) (de_var (pv 5)) do_none (do_some (de_var (pv 3)))) (de_tup (da_cons (de_add (de_var (pv 2)) (de_var (pv 4))) da_nil))) (de_slice (.inl rfl) (de_var (pv 5)) (do_some (de_add (de_var (pv 3)) (de_int))) do_none)) (da_cons (de_add (de_var (pv 2)) (de_var (pv 4))) da_nil))))) (ds_one (ds_ret (de_bl))) ds_nil) (ds_cons (ds_if (dt_not (dt_val (de_call G__law_all_runs_refused gd (hr.mono (by omega)) (by rfl) g__law_all_runs_refused_at F__law_all_runs_refused_.kp b__law_all_runs_refused (da_cons (de_tup (da_cons (de_tup (da_cons (de_var (pv 2)) (da_cons (de_int) da_nil))) (da_cons (de_tup (da_cons (de_int) (da_cons (de_add (de_var (pv 4)) (de_int)) da_nil))) da_nil))) (da_cons (de_add (de_add (de_var (pv 2)) (de_var (pv 4))) (de_int)) da_nil))))) (ds_one (ds_ret (de_bl))) ds_nil) (ds_cons (ds_set (i := 7) sc__law_right.nd rfl (.inl rfl) (de_mulT (de_tup (da_cons (de_int) da_nil)) (de_var (pv 2)))) (ds_one (ds_if (PW.pt (dw_or (dt_cmpR (op_ne2 hr.units) opD_ne (de_call G_flows gd (hr.mono (by omega)) (by rfl) g_flows_at F_flows_.kp b_flows (da_cons (de_var (pv 7)) da_nil)) (de_mulT (de_tup (da_cons (de_int) da_nil)) (de_var (pv 2))) (nomark _)) (dw_or (dt_cmpR (op_ne2 hr.units) opD_ne (de_call G_square_sum gd (hr.mono (by omega)) (by rfl) g_square_sum_at F_square_sum_.kp b_square_sum (da_cons (de_var (pv 7)) da_nil)) (de_int) (nomark _)) (dw_or1 (dt_cmpR (op_ne2 hr.units) opD_ne (de_callB call_len_seq callD_len (by rfl) D.z_len PySem.boot_len (da_cons (de_call G_taken gd (hr.mono (by omega)) (by rfl) g_taken_at F_taken_.kp b_taken (da_cons (de_var (pv 7)) da_nil)) da_nil)) (de_var (pv 2)) (nomark _)))))) (ds_one (ds_ret (de_bl))) ds_nil)))))))))))) (ds_one (ds_ret (de_bl))))) sem⟩
theorem ok_law (D : Defs K mg base T) {g__law_pot : DRs} (C__law_pot : Cal P w K mg base T "_law_pot" s__law_pot 1 ["_law_script", "_law_k"] g__law_pot) {g__law_right : DRs} (C__law_right : Cal P w K mg base T "_law_right" s__law_right 12 ["_law_pot_here"] g__law_right) {g_ : DRs} (ar : ∀ ds st Q, g_ ds st Q → ds.length = 1) (sem : ∀ ds st Q, g_ ds st Q → F_law g__law_pot g__law_right { nx := fun _ st' => Rt st Q .non st', rt := Rt st Q } (startD 2 ds) st) : Cal P w K mg base T "law" s_law 13 ["_law_script"] g_ := by
  obtain ⟨f, fd, F, b, m⟩ := D.d_law
  obtain ⟨f__law_pot, fd__law_pot, F__law_pot_, b__law_pot, g__law_pot_at, G__law_pot⟩ := C__law_pot
  obtain ⟨f__law_right, fd__law_right, F__law_right_, b__law_right, g__law_right_at, G__law_right⟩ := C__law_right
  exact ⟨f, fd, F, b, m, fnD_mk (k := 12) F sc_law ar (fun cdv A outer s H E gd hr => (ds_one (ds_ret (de_callB (cr_all rfl) (callD_all _) (by rfl) D.z_all (by decide +kernel) (da_cons (de_lcG (own := [("_law_k", 1)]) finT_ok rfl sc_law.nd (di_range1 (by rfl) D.z_range (da_cons (de_callB (call_max2 rfl) callD_2I (by rfl) D.z_max (by decide +kernel) (da_cons (de_int) (da_cons (de_callB (call_min2 rfl) callD_2I (by rfl) D.z_min (by decide +kernel) (da_cons (de_int) (da_cons (de_callB call_len_seq callD_len (by rfl) D.z_len PySem.boot_len (da_cons (de_var (pv 0)) da_nil)) da_nil))) da_nil))) da_nil)) (blkOk_by (own := [("_law_k", 1)]) (N := n_law) (sc := defScope s_law) (by decide +kernel)) (fun _ _ _ _ _ => (dg_name (i := 1) sc_law.nd rfl (.inl rfl) (by decide))) (fun _ _ _ _ _ => dts_nil) (fun _ _ _ _ _ => (de_call G__law_right gd (hr.mono (by omega)) (by rfl) g__law_right_at F__law_right_.kp b__law_right (da_cons (de_call G__law_pot gd (hr.mono (by omega)) (by rfl) g__law_pot_at F__law_pot_.kp b__law_pot (da_cons (de_var (pv 0)) (da_cons (de_var (pv 1)) da_nil))) da_nil)))) da_nil))))) sem⟩
end
section
variable {P : Program} {w : World} {K : Frag} {mg : Str → Option Value} {base : Heap} {T : List (Addr × Str)}
theorem law_ok (D : Defs K mg base T) : Cal P w K mg base T "law" s_law 13 ["_law_script"] g_law := by
  have X_require_room_TooFull := okx_require_room_TooFull (P := P) (w := w) D ar_run sh_run sem_xroom
  have X_flows_behind_TooFull := okx_flows_behind_TooFull (P := P) (w := w) D X_require_room_TooFull ar_run sh_run sem_xbehind
  have X_coming_to_TooFull := okx_coming_to_TooFull (P := P) (w := w) D X_flows_behind_TooFull ar_run2 sh_run2 sem_xcoming
  have X_flows_TooFull := okx_flows_TooFull (P := P) (w := w) D X_flows_behind_TooFull ar_cnt sh_cnt sem_xflows
  have X_run_distance_sum_TooFull := okx_run_distance_sum_TooFull (P := P) (w := w) D X_flows_behind_TooFull ar_run sh_run sem_xdsum
  have X_run_greatest_TooFull := okx_run_greatest_TooFull (P := P) (w := w) D X_flows_behind_TooFull ar_run sh_run sem_xgreat
  have X_distance_sum_TooFull := okx_distance_sum_TooFull (P := P) (w := w) D X_flows_TooFull ar_cnt sh_cnt sem_xdist
  have X_run_flow_TooFull := okx_run_flow_TooFull (P := P) (w := w) D X_coming_to_TooFull ar_run2 sh_run2 sem_xrflow
  have X_run_taken_TooFull := okx_run_taken_TooFull (P := P) (w := w) D X_coming_to_TooFull ar_run2 sh_run2 sem_xrtaken
  have X_taken_TooFull := okx_taken_TooFull (P := P) (w := w) D X_flows_TooFull ar_cnt sh_cnt sem_xtaken
  have X_waits_TooFull := okx_waits_TooFull (P := P) (w := w) D X_flows_TooFull ar_cnt sh_cnt sem_xwaits
  have X_greatest_distance_TooFull := okx_greatest_distance_TooFull (P := P) (w := w) D X_waits_TooFull ar_cnt sh_cnt sem_xgd
  have X_square_sum_TooFull := okx_square_sum_TooFull (P := P) (w := w) D X_waits_TooFull ar_cnt sh_cnt sem_xsq
  have C__law_pot := ok__law_pot (P := P) (w := w) D ar_pot sem_pot
  have C_require_room := ok_require_room (P := P) (w := w) D ar_room sem_room
  have C_flow_behind := ok_flow_behind (P := P) (w := w) D ar_flowB sem_flowB
  have C_flows_behind := ok_flows_behind (P := P) (w := w) D C_require_room C_flow_behind ar_flowsB sem_flowsB
  have C_flows := ok_flows (P := P) (w := w) D C_flows_behind ar_flows sem_flows
  have C_taken := ok_taken (P := P) (w := w) D C_flows ar_taken sem_taken
  have C_distance_sum := ok_distance_sum (P := P) (w := w) D C_flows ar_dsum sem_dsum
  have C_waits := ok_waits (P := P) (w := w) D C_flows ar_waits sem_waits
  have C_greatest_distance := ok_greatest_distance (P := P) (w := w) D C_waits ar_great sem_great
  have C_square_sum := ok_square_sum (P := P) (w := w) D C_waits ar_sq sem_sq
  have C__law_take := ok__law_take (P := P) (w := w) D ar_take sem_take
  have C__law_pick := ok__law_pick (P := P) (w := w) D C__law_take ar_pick sem_pick
  have C__law_all_refused := ok__law_all_refused (P := P) (w := w) D X_distance_sum_TooFull X_flows_TooFull X_greatest_distance_TooFull X_square_sum_TooFull X_taken_TooFull ar_allRef sem_allRef
  have C__law_all_runs_refused := ok__law_all_runs_refused (P := P) (w := w) D X_run_distance_sum_TooFull X_run_flow_TooFull X_run_greatest_TooFull X_run_taken_TooFull ar_allRuns sem_allRuns
  have C__law_right := ok__law_right (P := P) (w := w) D C_flows C_taken C_distance_sum C_greatest_distance C_square_sum C__law_take C__law_pick C__law_all_refused C__law_all_runs_refused ar_right sem_right33
  have C_law := ok_law (P := P) (w := w) D C__law_pot C__law_right ar_law sem_law
  exact C_law
end
theorem all_mk {l : PySem.W.OpenLaw} {w : World} {K : PySem.W.Frag} {h : Heap} {mg : Str → Option Value} {fa : Addr} (X : K.In h) (G : h.Ns mainGlobals mg) (hfa : mg "law" = some (.ref fa))
    {f1 f2 f3 f4 f5 f6 f7 f8 f9 f10 f11 f12 f13 f14 f15 f16 f17 f18 f19 f20 f21 f22 f23 : Addr} {od1 an1 od2 an2 od3 an3 od4 an4 od5 an5 od6 an6 od7 an7 od8 an8 od9 an9 od10 an10 od11 an11 od12 an12 od13 an13 od14 an14 od15 an15 od16 an16 od17 an17 od18 an18 od19 an19 od20 an20 od21 an21 od22 an22 od23 an23 : Option Addr} {sl1 sl2 sl3 sl4 sl5 sl6 sl7 sl8 sl9 sl10 sl11 sl12 sl13 sl14 sl15 sl16 sl17 sl18 sl19 sl20 sl21 sl22 sl23 : Array (Option Value)} {oc1 kV1 dc1 pm1 cd1 ct1 oc2 kV2 dc2 pm2 cd2 ct2 oc3 kV3 dc3 pm3 cd3 ct3 oc4 kV4 dc4 pm4 cd4 ct4 oc5 kV5 dc5 pm5 cd5 ct5 oc6 kV6 dc6 pm6 cd6 ct6 oc7 kV7 dc7 pm7 cd7 ct7 oc8 kV8 dc8 pm8 cd8 ct8 oc9 kV9 dc9 pm9 cd9 ct9 oc10 kV10 dc10 pm10 cd10 ct10 oc11 kV11 dc11 pm11 cd11 ct11 oc12 kV12 dc12 pm12 cd12 ct12 oc13 kV13 dc13 pm13 cd13 ct13 oc14 kV14 dc14 pm14 cd14 ct14 oc15 kV15 dc15 pm15 cd15 ct15 oc16 kV16 dc16 pm16 cd16 ct16 oc17 kV17 dc17 pm17 cd17 ct17 oc18 kV18 dc18 pm18 cd18 ct18 oc19 kV19 dc19 pm19 cd19 ct19 oc20 kV20 dc20 pm20 cd20 ct20 oc21 kV21 dc21 pm21 cd21 ct21 oc22 kV22 dc22 pm22 cd22 ct22 oc23 kV23 dc23 pm23 cd23 ct23 : Value}
    (a1 : PySem.W.nsIn K mainGlobals "flows" = some (some (.ref f1))) (l1 : K.lookup f1 = some ⟨oc1, od1, .func (PySem.W.fnOf "flows" "flows" (defArgs s_flows) (defBody s_flows) (defScope s_flows) .none kV1 dc1 pm1 an1 cd1 ct1), sl1⟩) (c1 : PySem.W.codeIn K cd1 "flows" = true) (k1 : PySem.W.keepIn K (.ref f1) = true)
    (a2 : PySem.W.nsIn K mainGlobals "flows_behind" = some (some (.ref f2))) (l2 : K.lookup f2 = some ⟨oc2, od2, .func (PySem.W.fnOf "flows_behind" "flows_behind" (defArgs s_flows_behind) (defBody s_flows_behind) (defScope s_flows_behind) .none kV2 dc2 pm2 an2 cd2 ct2), sl2⟩) (c2 : PySem.W.codeIn K cd2 "flows_behind" = true) (k2 : PySem.W.keepIn K (.ref f2) = true)
    (a3 : PySem.W.nsIn K mainGlobals "require_room" = some (some (.ref f3))) (l3 : K.lookup f3 = some ⟨oc3, od3, .func (PySem.W.fnOf "require_room" "require_room" (defArgs s_require_room) (defBody s_require_room) (defScope s_require_room) .none kV3 dc3 pm3 an3 cd3 ct3), sl3⟩) (c3 : PySem.W.codeIn K cd3 "require_room" = true) (k3 : PySem.W.keepIn K (.ref f3) = true)
    (a4 : PySem.W.nsIn K mainGlobals "flow_behind" = some (some (.ref f4))) (l4 : K.lookup f4 = some ⟨oc4, od4, .func (PySem.W.fnOf "flow_behind" "flow_behind" (defArgs s_flow_behind) (defBody s_flow_behind) (defScope s_flow_behind) .none kV4 dc4 pm4 an4 cd4 ct4), sl4⟩) (c4 : PySem.W.codeIn K cd4 "flow_behind" = true) (k4 : PySem.W.keepIn K (.ref f4) = true)
    (a5 : PySem.W.nsIn K mainGlobals "taken" = some (some (.ref f5))) (l5 : K.lookup f5 = some ⟨oc5, od5, .func (PySem.W.fnOf "taken" "taken" (defArgs s_taken) (defBody s_taken) (defScope s_taken) .none kV5 dc5 pm5 an5 cd5 ct5), sl5⟩) (c5 : PySem.W.codeIn K cd5 "taken" = true) (k5 : PySem.W.keepIn K (.ref f5) = true)
    (a6 : PySem.W.nsIn K mainGlobals "distance_sum" = some (some (.ref f6))) (l6 : K.lookup f6 = some ⟨oc6, od6, .func (PySem.W.fnOf "distance_sum" "distance_sum" (defArgs s_distance_sum) (defBody s_distance_sum) (defScope s_distance_sum) .none kV6 dc6 pm6 an6 cd6 ct6), sl6⟩) (c6 : PySem.W.codeIn K cd6 "distance_sum" = true) (k6 : PySem.W.keepIn K (.ref f6) = true)
    (a7 : PySem.W.nsIn K mainGlobals "greatest_distance" = some (some (.ref f7))) (l7 : K.lookup f7 = some ⟨oc7, od7, .func (PySem.W.fnOf "greatest_distance" "greatest_distance" (defArgs s_greatest_distance) (defBody s_greatest_distance) (defScope s_greatest_distance) .none kV7 dc7 pm7 an7 cd7 ct7), sl7⟩) (c7 : PySem.W.codeIn K cd7 "greatest_distance" = true) (k7 : PySem.W.keepIn K (.ref f7) = true)
    (a8 : PySem.W.nsIn K mainGlobals "square_sum" = some (some (.ref f8))) (l8 : K.lookup f8 = some ⟨oc8, od8, .func (PySem.W.fnOf "square_sum" "square_sum" (defArgs s_square_sum) (defBody s_square_sum) (defScope s_square_sum) .none kV8 dc8 pm8 an8 cd8 ct8), sl8⟩) (c8 : PySem.W.codeIn K cd8 "square_sum" = true) (k8 : PySem.W.keepIn K (.ref f8) = true)
    (a9 : PySem.W.nsIn K mainGlobals "waits" = some (some (.ref f9))) (l9 : K.lookup f9 = some ⟨oc9, od9, .func (PySem.W.fnOf "waits" "waits" (defArgs s_waits) (defBody s_waits) (defScope s_waits) .none kV9 dc9 pm9 an9 cd9 ct9), sl9⟩) (c9 : PySem.W.codeIn K cd9 "waits" = true) (k9 : PySem.W.keepIn K (.ref f9) = true)
    (a10 : PySem.W.nsIn K mainGlobals "run_flow" = some (some (.ref f10))) (l10 : K.lookup f10 = some ⟨oc10, od10, .func (PySem.W.fnOf "run_flow" "run_flow" (defArgs s_run_flow) (defBody s_run_flow) (defScope s_run_flow) .none kV10 dc10 pm10 an10 cd10 ct10), sl10⟩) (c10 : PySem.W.codeIn K cd10 "run_flow" = true) (k10 : PySem.W.keepIn K (.ref f10) = true)
    (a11 : PySem.W.nsIn K mainGlobals "run_taken" = some (some (.ref f11))) (l11 : K.lookup f11 = some ⟨oc11, od11, .func (PySem.W.fnOf "run_taken" "run_taken" (defArgs s_run_taken) (defBody s_run_taken) (defScope s_run_taken) .none kV11 dc11 pm11 an11 cd11 ct11), sl11⟩) (c11 : PySem.W.codeIn K cd11 "run_taken" = true) (k11 : PySem.W.keepIn K (.ref f11) = true)
    (a12 : PySem.W.nsIn K mainGlobals "coming_to" = some (some (.ref f12))) (l12 : K.lookup f12 = some ⟨oc12, od12, .func (PySem.W.fnOf "coming_to" "coming_to" (defArgs s_coming_to) (defBody s_coming_to) (defScope s_coming_to) .none kV12 dc12 pm12 an12 cd12 ct12), sl12⟩) (c12 : PySem.W.codeIn K cd12 "coming_to" = true) (k12 : PySem.W.keepIn K (.ref f12) = true)
    (a13 : PySem.W.nsIn K mainGlobals "run_distance_sum" = some (some (.ref f13))) (l13 : K.lookup f13 = some ⟨oc13, od13, .func (PySem.W.fnOf "run_distance_sum" "run_distance_sum" (defArgs s_run_distance_sum) (defBody s_run_distance_sum) (defScope s_run_distance_sum) .none kV13 dc13 pm13 an13 cd13 ct13), sl13⟩) (c13 : PySem.W.codeIn K cd13 "run_distance_sum" = true) (k13 : PySem.W.keepIn K (.ref f13) = true)
    (a14 : PySem.W.nsIn K mainGlobals "flow_sum" = some (some (.ref f14))) (l14 : K.lookup f14 = some ⟨oc14, od14, .func (PySem.W.fnOf "flow_sum" "flow_sum" (defArgs s_flow_sum) (defBody s_flow_sum) (defScope s_flow_sum) .none kV14 dc14 pm14 an14 cd14 ct14), sl14⟩) (c14 : PySem.W.codeIn K cd14 "flow_sum" = true) (k14 : PySem.W.keepIn K (.ref f14) = true)
    (a15 : PySem.W.nsIn K mainGlobals "run_greatest" = some (some (.ref f15))) (l15 : K.lookup f15 = some ⟨oc15, od15, .func (PySem.W.fnOf "run_greatest" "run_greatest" (defArgs s_run_greatest) (defBody s_run_greatest) (defScope s_run_greatest) .none kV15 dc15 pm15 an15 cd15 ct15), sl15⟩) (c15 : PySem.W.codeIn K cd15 "run_greatest" = true) (k15 : PySem.W.keepIn K (.ref f15) = true)
    (a16 : PySem.W.nsIn K mainGlobals "_law_pot" = some (some (.ref f16))) (l16 : K.lookup f16 = some ⟨oc16, od16, .func (PySem.W.fnOf "_law_pot" "_law_pot" (defArgs s__law_pot) (defBody s__law_pot) (defScope s__law_pot) .none kV16 dc16 pm16 an16 cd16 ct16), sl16⟩) (c16 : PySem.W.codeIn K cd16 "_law_pot" = true) (k16 : PySem.W.keepIn K (.ref f16) = true)
    (a17 : PySem.W.nsIn K mainGlobals "_law_take" = some (some (.ref f17))) (l17 : K.lookup f17 = some ⟨oc17, od17, .func (PySem.W.fnOf "_law_take" "_law_take" (defArgs s__law_take) (defBody s__law_take) (defScope s__law_take) .none kV17 dc17 pm17 an17 cd17 ct17), sl17⟩) (c17 : PySem.W.codeIn K cd17 "_law_take" = true) (k17 : PySem.W.keepIn K (.ref f17) = true)
    (a18 : PySem.W.nsIn K mainGlobals "_law_pick" = some (some (.ref f18))) (l18 : K.lookup f18 = some ⟨oc18, od18, .func (PySem.W.fnOf "_law_pick" "_law_pick" (defArgs s__law_pick) (defBody s__law_pick) (defScope s__law_pick) .none kV18 dc18 pm18 an18 cd18 ct18), sl18⟩) (c18 : PySem.W.codeIn K cd18 "_law_pick" = true) (k18 : PySem.W.keepIn K (.ref f18) = true)
    (a19 : PySem.W.nsIn K mainGlobals "_law_refused" = some (some (.ref f19))) (l19 : K.lookup f19 = some ⟨oc19, od19, .func (PySem.W.fnOf "_law_refused" "_law_refused" (defArgs s__law_refused) (defBody s__law_refused) (defScope s__law_refused) .none kV19 dc19 pm19 an19 cd19 ct19), sl19⟩) (c19 : PySem.W.codeIn K cd19 "_law_refused" = true) (k19 : PySem.W.keepIn K (.ref f19) = true)
    (a20 : PySem.W.nsIn K mainGlobals "_law_all_refused" = some (some (.ref f20))) (l20 : K.lookup f20 = some ⟨oc20, od20, .func (PySem.W.fnOf "_law_all_refused" "_law_all_refused" (defArgs s__law_all_refused) (defBody s__law_all_refused) (defScope s__law_all_refused) .none kV20 dc20 pm20 an20 cd20 ct20), sl20⟩) (c20 : PySem.W.codeIn K cd20 "_law_all_refused" = true) (k20 : PySem.W.keepIn K (.ref f20) = true)
    (a21 : PySem.W.nsIn K mainGlobals "_law_all_runs_refused" = some (some (.ref f21))) (l21 : K.lookup f21 = some ⟨oc21, od21, .func (PySem.W.fnOf "_law_all_runs_refused" "_law_all_runs_refused" (defArgs s__law_all_runs_refused) (defBody s__law_all_runs_refused) (defScope s__law_all_runs_refused) .none kV21 dc21 pm21 an21 cd21 ct21), sl21⟩) (c21 : PySem.W.codeIn K cd21 "_law_all_runs_refused" = true) (k21 : PySem.W.keepIn K (.ref f21) = true)
    (a22 : PySem.W.nsIn K mainGlobals "_law_right" = some (some (.ref f22))) (l22 : K.lookup f22 = some ⟨oc22, od22, .func (PySem.W.fnOf "_law_right" "_law_right" (defArgs s__law_right) (defBody s__law_right) (defScope s__law_right) .none kV22 dc22 pm22 an22 cd22 ct22), sl22⟩) (c22 : PySem.W.codeIn K cd22 "_law_right" = true) (k22 : PySem.W.keepIn K (.ref f22) = true)
    (a23 : PySem.W.nsIn K mainGlobals "law" = some (some (.ref f23))) (l23 : K.lookup f23 = some ⟨oc23, od23, .func (PySem.W.fnOf "law" "law" (defArgs s_law) (defBody s_law) (defScope s_law) .none kV23 dc23 pm23 an23 cd23 ct23), sl23⟩) (c23 : PySem.W.codeIn K cd23 "law" = true) (k23 : PySem.W.keepIn K (.ref f23) = true)
    {lc1 lp1 : Addr} {ce1 : Value} {cdd1 : Option Addr} {cvs1 : Array Value} {csl1 : Array (Option Value)} (cdr1 : cd20 = .ref lc1) (lk1 : K.lookup lc1 = some ⟨ce1, cdd1, .fields cvs1, csl1⟩) (lv1 : cvs1[11]? = some (.ref lp1)) (out1 : K.lookup lp1 = none)
    {lc2 lp2 : Addr} {ce2 : Value} {cdd2 : Option Addr} {cvs2 : Array Value} {csl2 : Array (Option Value)} (cdr2 : cd21 = .ref lc2) (lk2 : K.lookup lc2 = some ⟨ce2, cdd2, .fields cvs2, csl2⟩) (lv2 : cvs2[11]? = some (.ref lp2)) (out2 : K.lookup lp2 = none)
    (ne12 : lp1 ≠ lp2)
    (ne21 : lp2 ≠ lp1)
    (z_ValueError : PySem.W.nsIn K mainGlobals "ValueError" = some none)
    (z_abs : PySem.W.nsIn K mainGlobals "abs" = some none)
    (z_all : PySem.W.nsIn K mainGlobals "all" = some none)
    (z_isinstance : PySem.W.nsIn K mainGlobals "isinstance" = some none)
    (z_len : PySem.W.nsIn K mainGlobals "len" = some none)
    (z_list : PySem.W.nsIn K mainGlobals "list" = some none)
    (z_max : PySem.W.nsIn K mainGlobals "max" = some none)
    (z_min : PySem.W.nsIn K mainGlobals "min" = some none)
    (z_range : PySem.W.nsIn K mainGlobals "range" = some none)
    (z_repr : PySem.W.nsIn K mainGlobals "repr" = some none)
    (z_sum : PySem.W.nsIn K mainGlobals "sum" = some none)
    (z_tuple : PySem.W.nsIn K mainGlobals "tuple" = some none)
    {cl_LayoutError : Addr}
    (ca_LayoutError : PySem.W.nsIn K mainGlobals "LayoutError" = some (some (.ref cl_LayoutError)))
    (ch_LayoutError : PySem.W.hasDictIn K cl_LayoutError = true)
    (cy_LayoutError : PySem.W.typeIn K (.ref cl_LayoutError) = some (.type "type"))
    {cl_TooFull : Addr}
    (ca_TooFull : PySem.W.nsIn K mainGlobals "TooFull" = some (some (.ref cl_TooFull)))
    (ch_TooFull : PySem.W.hasDictIn K cl_TooFull = true)
    (cy_TooFull : PySem.W.typeIn K (.ref cl_TooFull) = some (.type "type"))
    {cl_TooMany : Addr}
    (ca_TooMany : PySem.W.nsIn K mainGlobals "TooMany" = some (some (.ref cl_TooMany)))
    (ch_TooMany : PySem.W.hasDictIn K cl_TooMany = true)
    (cy_TooMany : PySem.W.typeIn K (.ref cl_TooMany) = some (.type "type"))
    (cB_LayoutError : PySem.W.subIn K (.ref cl_LayoutError) (.type "BaseException") = some true)
    (cb_TooFull : PySem.W.subIn K (.ref cl_TooFull) (.ref cl_LayoutError) = some true)
    (cv_TooFull : PySem.W.subIn K (.ref cl_TooFull) (.type "ValueError") = some true)
    (cg_TooFull : Kcl K cl_TooFull)
    (cs_TooFull_TooMany : PySem.W.subIn K (.ref cl_TooFull) (.ref cl_TooMany) = some false)
    (cn_TooFull_TooMany : cl_TooFull ≠ cl_TooMany)
    (cf_TooFull : PySem.W.findIn K (.ref cl_TooFull) "count" = some none)
    {fi_TooFull : Addr} {odi_TooFull ani_TooFull : Option Addr} {sli_TooFull : Array (Option Value)} {oci_TooFull kVi_TooFull dci_TooFull pmi_TooFull cdi_TooFull cti_TooFull : Value}
    (co_TooFull : OexC K cl_TooFull)
    (ci_TooFull : PySem.W.findIn K (.ref cl_TooFull) "__init__" = some (some (.ref fi_TooFull)))
    (ct_TooFull : PySem.W.typeIn K (.ref fi_TooFull) = some (.type "function"))
    (cl2_TooFull : K.lookup fi_TooFull = some ⟨oci_TooFull, odi_TooFull, .func (PySem.W.fnOf "__init__" "TooFull.__init__" (defArgs s_TooFull_init) (defBody s_TooFull_init) (defScope s_TooFull_init) .none kVi_TooFull dci_TooFull pmi_TooFull ani_TooFull cdi_TooFull cti_TooFull), sli_TooFull⟩)
    (cc_TooFull : PySem.W.codeIn K cdi_TooFull "TooFull.__init__" = true)
    (ck_TooFull : PySem.W.keepIn K (.ref fi_TooFull) = true)
    :
    ∃ (cs : List (Addr × Addr)) (fd : FuncData), (∀ p ∈ cs, ∃ y ∈ (["_law_all_refused", "_law_all_runs_refused"] : List Str), tabIn K y = some p) ∧ (∀ p ∈ cs, K.lookup p.2 = none) ∧ (∀ (s : Shared) (v : Value), BindsTo s fd ⟨[v], []⟩ [("_law_script", v)]) ∧
      ∀ base : Heap, K.In base → base.Ns mainGlobals mg → (∀ p ∈ cs, TabB base mg p.1 p.2) → FnG l.prog w K mg base 13 fa fd ["_law_script"] (spD (tabsOf cs ["_law_all_refused", "_law_all_runs_refused"]) K 1 g_law) := by
  have e := hfa.symm.trans (PySem.W.mg_of X G a23)
  cases e
  have F1 := fun_mk (st := s_flows) l1 c1 k1
  have b1 := F1.binds (ps := ["counts"]) fun _ _ _ _ _ _ us hl => match us, hl with | [_], _ => rfl
  have F2 := fun_mk (st := s_flows_behind) l2 c2 k2
  have b2 := F2.binds (ps := ["runs"]) fun _ _ _ _ _ _ us hl => match us, hl with | [_], _ => rfl
  have F3 := fun_mk (st := s_require_room) l3 c3 k3
  have b3 := F3.binds (ps := ["runs"]) fun _ _ _ _ _ _ us hl => match us, hl with | [_], _ => rfl
  have F4 := fun_mk (st := s_flow_behind) l4 c4 k4
  have b4 := F4.binds (ps := ["flow", "size", "count"]) fun _ _ _ _ _ _ us hl => match us, hl with | [_, _, _], _ => rfl
  have F5 := fun_mk (st := s_taken) l5 c5 k5
  have b5 := F5.binds (ps := ["counts"]) fun _ _ _ _ _ _ us hl => match us, hl with | [_], _ => rfl
  have F6 := fun_mk (st := s_distance_sum) l6 c6 k6
  have b6 := F6.binds (ps := ["counts"]) fun _ _ _ _ _ _ us hl => match us, hl with | [_], _ => rfl
  have F7 := fun_mk (st := s_greatest_distance) l7 c7 k7
  have b7 := F7.binds (ps := ["counts"]) fun _ _ _ _ _ _ us hl => match us, hl with | [_], _ => rfl
  have F8 := fun_mk (st := s_square_sum) l8 c8 k8
  have b8 := F8.binds (ps := ["counts"]) fun _ _ _ _ _ _ us hl => match us, hl with | [_], _ => rfl
  have F9 := fun_mk (st := s_waits) l9 c9 k9
  have b9 := F9.binds (ps := ["counts"]) fun _ _ _ _ _ _ us hl => match us, hl with | [_], _ => rfl
  have F10 := fun_mk (st := s_run_flow) l10 c10 k10
  have b10 := F10.binds (ps := ["runs", "slot"]) fun _ _ _ _ _ _ us hl => match us, hl with | [_, _], _ => rfl
  have F11 := fun_mk (st := s_run_taken) l11 c11 k11
  have b11 := F11.binds (ps := ["runs", "slot"]) fun _ _ _ _ _ _ us hl => match us, hl with | [_, _], _ => rfl
  have F12 := fun_mk (st := s_coming_to) l12 c12 k12
  have b12 := F12.binds (ps := ["runs", "slot"]) fun _ _ _ _ _ _ us hl => match us, hl with | [_, _], _ => rfl
  have F13 := fun_mk (st := s_run_distance_sum) l13 c13 k13
  have b13 := F13.binds (ps := ["runs"]) fun _ _ _ _ _ _ us hl => match us, hl with | [_], _ => rfl
  have F14 := fun_mk (st := s_flow_sum) l14 c14 k14
  have b14 := F14.binds (ps := ["flow", "size", "count"]) fun _ _ _ _ _ _ us hl => match us, hl with | [_, _, _], _ => rfl
  have F15 := fun_mk (st := s_run_greatest) l15 c15 k15
  have b15 := F15.binds (ps := ["runs"]) fun _ _ _ _ _ _ us hl => match us, hl with | [_], _ => rfl
  have F16 := fun_mk (st := s__law_pot) l16 c16 k16
  have b16 := F16.binds (ps := ["_law_script", "_law_k"]) fun _ _ _ _ _ _ us hl => match us, hl with | [_, _], _ => rfl
  have F17 := fun_mk (st := s__law_take) l17 c17 k17
  have b17 := F17.binds (ps := ["_law_pot_here", "_law_size"]) fun _ _ _ _ _ _ us hl => match us, hl with | [_, _], _ => rfl
  have F18 := fun_mk (st := s__law_pick) l18 c18 k18
  have b18 := F18.binds (ps := ["_law_pot_here", "_law_some"]) fun _ _ _ _ _ _ us hl => match us, hl with | [_, _], _ => rfl
  have F19 := fun_mk (st := s__law_refused) l19 c19 k19
  have b19 := F19.binds (ps := ["_law_call"]) fun _ _ _ _ _ _ us hl => match us, hl with | [_], _ => rfl
  have F20 := fun_mk (st := s__law_all_refused) l20 c20 k20
  have b20 := F20.binds (ps := ["_law_some", "_law_many"]) fun _ _ _ _ _ _ us hl => match us, hl with | [_, _], _ => rfl
  have F21 := fun_mk (st := s__law_all_runs_refused) l21 c21 k21
  have b21 := F21.binds (ps := ["_law_some", "_law_many"]) fun _ _ _ _ _ _ us hl => match us, hl with | [_, _], _ => rfl
  have F22 := fun_mk (st := s__law_right) l22 c22 k22
  have b22 := F22.binds (ps := ["_law_pot_here"]) fun _ _ _ _ _ _ us hl => match us, hl with | [_], _ => rfl
  have F23 := fun_mk (st := s_law) l23 c23 k23
  have b23 := F23.binds (ps := ["_law_script"]) fun _ _ _ _ _ _ us hl => match us, hl with | [_], _ => rfl
  have tin1 : tabIn K "_law_all_refused" = some (lc1, lp1) := by
    unfold tabIn
    simp only [a20, l20, cdr1, lk1, lv1]
  have tin2 : tabIn K "_law_all_runs_refused" = some (lc2, lp2) := by
    unfold tabIn
    simp only [a21, l21, cdr2, lk2, lv2]
  refine ⟨[(lc1, lp1), (lc2, lp2)], _, fun p hp => ?_, fun p hp => ?_, fun s v => F23.bindsK fun _ _ _ _ _ _ => rfl, fun base _ _ tb => ?_⟩
  · simp only [List.mem_cons, List.not_mem_nil, or_false] at hp
    rcases hp with rfl | rfl
    · exact ⟨"_law_all_refused", by simp, tin1⟩
    · exact ⟨"_law_all_runs_refused", by simp, tin2⟩
  · simp only [List.mem_cons, List.not_mem_nil, or_false] at hp
    rcases hp with rfl | rfl
    · exact out1
    · exact out2
  have D : Defs K mg base (tabsOf [(lc1, lp1), (lc2, lp2)] ["_law_all_refused", "_law_all_runs_refused"]) := ⟨⟨_, _, F1, b1, PySem.W.mg_of X G a1⟩,
    ⟨_, _, F2, b2, PySem.W.mg_of X G a2⟩,
    ⟨_, _, F3, b3, PySem.W.mg_of X G a3⟩,
    ⟨_, _, F4, b4, PySem.W.mg_of X G a4⟩,
    ⟨_, _, F5, b5, PySem.W.mg_of X G a5⟩,
    ⟨_, _, F6, b6, PySem.W.mg_of X G a6⟩,
    ⟨_, _, F7, b7, PySem.W.mg_of X G a7⟩,
    ⟨_, _, F8, b8, PySem.W.mg_of X G a8⟩,
    ⟨_, _, F9, b9, PySem.W.mg_of X G a9⟩,
    ⟨_, _, F10, b10, PySem.W.mg_of X G a10⟩,
    ⟨_, _, F11, b11, PySem.W.mg_of X G a11⟩,
    ⟨_, _, F12, b12, PySem.W.mg_of X G a12⟩,
    ⟨_, _, F13, b13, PySem.W.mg_of X G a13⟩,
    ⟨_, _, F14, b14, PySem.W.mg_of X G a14⟩,
    ⟨_, _, F15, b15, PySem.W.mg_of X G a15⟩,
    ⟨_, _, F16, b16, PySem.W.mg_of X G a16⟩,
    ⟨_, _, F17, b17, PySem.W.mg_of X G a17⟩,
    ⟨_, _, F18, b18, PySem.W.mg_of X G a18⟩,
    ⟨_, _, F19, b19, PySem.W.mg_of X G a19⟩,
    ⟨_, _, F20, b20, PySem.W.mg_of X G a20, lc1, lp1, cdr1, tb (lc1, lp1) List.mem_cons_self, List.mem_cons_self, fun p hp e => by
      simp only [tabsOf, List.mem_cons, List.not_mem_nil, or_false] at hp
      rcases hp with rfl | rfl
      · rfl
      · exact absurd e ne21
    ⟩,
    ⟨_, _, F21, b21, PySem.W.mg_of X G a21, lc2, lp2, cdr2, tb (lc2, lp2) (List.mem_cons_of_mem _ List.mem_cons_self), (List.mem_cons_of_mem _ List.mem_cons_self), fun p hp e => by
      simp only [tabsOf, List.mem_cons, List.not_mem_nil, or_false] at hp
      rcases hp with rfl | rfl
      · exact absurd e ne12
      · rfl
    ⟩,
    ⟨_, _, F22, b22, PySem.W.mg_of X G a22⟩,
    ⟨_, _, F23, b23, PySem.W.mg_of X G a23⟩,
    PySem.W.mg_none_of X G z_ValueError,
    PySem.W.mg_none_of X G z_abs,
    PySem.W.mg_none_of X G z_all,
    PySem.W.mg_none_of X G z_isinstance,
    PySem.W.mg_none_of X G z_len,
    PySem.W.mg_none_of X G z_list,
    PySem.W.mg_none_of X G z_max,
    PySem.W.mg_none_of X G z_min,
    PySem.W.mg_none_of X G z_range,
    PySem.W.mg_none_of X G z_repr,
    PySem.W.mg_none_of X G z_sum,
    PySem.W.mg_none_of X G z_tuple,
    ⟨cl_TooFull, cl_LayoutError, PySem.W.mg_of X G ca_TooFull, PySem.W.mg_of X G ca_LayoutError, exm_ref cB_LayoutError ch_LayoutError cy_LayoutError cb_TooFull, kit_ty (by decide +kernel) cv_TooFull, cg_TooFull, (fun n h => by cases h; exact cf_TooFull), fun t ht => by
      simp only [List.mem_cons, List.not_mem_nil, or_false] at ht
      rcases ht with rfl | rfl
      · exact ⟨cl_TooFull, PySem.W.mg_of X G ca_TooFull, (kit_same).trans (by decide)⟩
      · exact ⟨cl_TooMany, PySem.W.mg_of X G ca_TooMany, (kit_ref cn_TooFull_TooMany ch_TooMany cy_TooMany cs_TooFull_TooMany).trans (by decide)⟩⟩,
    ⟨cl_TooFull, fi_TooFull, _, PySem.W.mg_of X G ca_TooFull, co_TooFull, cf_TooFull, ci_TooFull, ct_TooFull, fun_mk (st := s_TooFull_init) cl2_TooFull cc_TooFull ck_TooFull, (fun_mk (st := s_TooFull_init) cl2_TooFull cc_TooFull ck_TooFull).binds (ps := ["self", "count"]) fun _ _ _ _ _ _ us hl => match us, hl with | [_, _], _ => rfl⟩⟩
  obtain ⟨f, fd, F, b, m, C⟩ := law_ok (P := l.prog) (w := w) D
  have e2 := m.symm.trans (PySem.W.mg_of X G a23)
  cases e2
  have e3 := F.one F23
  subst e3
  exact C.fn

end DL.K33
open PySem PySem.W PyProof.Rows
set_option maxHeartbeats 0 in
theorem PySem.Challenge.cw_samelayout_k33_too_many_keys_and_full_ta_holds : PySem.Challenge.rw_samelayout_k33_too_many_keys_and_full_ta.Holds := by
  w_on; o_law; k_head; (case hw => w_witness2)
  k_fill
  refine SL.walkGT (l := PySem.Challenge.rw_samelayout_k33_too_many_keys_and_full_ta) (n := 63) (k := 13) (x := "_law_script") (sp := fun cs K => DL.spD (DL.tabsOf cs ["_law_all_refused", "_law_all_runs_refused"]) K 1 DL.g_law) ["_law_all_refused", "_law_all_runs_refused"] rfl (by decide) rfl ⟨rfl, by decide, by decide⟩ (fun w h Y => by first | exact PySem.W.km_in_of Y | exact PySem.W.kIn_of Y) (fun y hy => by
    simp only [List.mem_cons, List.not_mem_nil, or_false] at hy
    rcases hy with rfl | rfl <;> decide +kernel) ?F (fun cs K H a ns hl em hS => DL.law_start DL.tabsOf_mem em hS fun x hx => ⟨ns, x, rfl, hx, hl, fun _ => rfl⟩)
  case F =>
    intro w mg fa h KX G hmg
    refine' DL.K33.all_mk KX G hmg ?a1 ?l1 ?c1 ?k1 ?a2 ?l2 ?c2 ?k2 ?a3 ?l3 ?c3 ?k3 ?a4 ?l4 ?c4 ?k4 ?a5 ?l5 ?c5 ?k5 ?a6 ?l6 ?c6 ?k6 ?a7 ?l7 ?c7 ?k7 ?a8 ?l8 ?c8 ?k8 ?a9 ?l9 ?c9 ?k9 ?a10 ?l10 ?c10 ?k10 ?a11 ?l11 ?c11 ?k11 ?a12 ?l12 ?c12 ?k12 ?a13 ?l13 ?c13 ?k13 ?a14 ?l14 ?c14 ?k14 ?a15 ?l15 ?c15 ?k15 ?a16 ?l16 ?c16 ?k16 ?a17 ?l17 ?c17 ?k17 ?a18 ?l18 ?c18 ?k18 ?a19 ?l19 ?c19 ?k19 ?a20 ?l20 ?c20 ?k20 ?a21 ?l21 ?c21 ?k21 ?a22 ?l22 ?c22 ?k22 ?a23 ?l23 ?c23 ?k23 ?cdr1 ?lk1 ?lv1 ?out1 ?cdr2 ?lk2 ?lv2 ?out2 ?ne12 ?ne21 ?z_ValueError ?z_abs ?z_all ?z_isinstance ?z_len ?z_list ?z_max ?z_min ?z_range ?z_repr ?z_sum ?z_tuple ?ca_LayoutError ?ch_LayoutError ?cy_LayoutError ?ca_TooFull ?ch_TooFull ?cy_TooFull ?ca_TooMany ?ch_TooMany ?cy_TooMany ?cB_LayoutError ?cb_TooFull ?cv_TooFull ?cg_TooFull ?cs_TooFull_TooMany ?cn_TooFull_TooMany ?cf_TooFull ?co_TooFull ?ci_TooFull ?ct_TooFull ?cl2_TooFull ?cc_TooFull ?ck_TooFull
    (case a1 => k_is); (case l1 => k_is); (case c1 => k_is); (case k1 => k_is)
    (case a2 => k_is); (case l2 => k_is); (case c2 => k_is); (case k2 => k_is)
    (case a3 => k_is); (case l3 => k_is); (case c3 => k_is); (case k3 => k_is)
    (case a4 => k_is); (case l4 => k_is); (case c4 => k_is); (case k4 => k_is)
    (case a5 => k_is); (case l5 => k_is); (case c5 => k_is); (case k5 => k_is)
    (case a6 => k_is); (case l6 => k_is); (case c6 => k_is); (case k6 => k_is)
    (case a7 => k_is); (case l7 => k_is); (case c7 => k_is); (case k7 => k_is)
    (case a8 => k_is); (case l8 => k_is); (case c8 => k_is); (case k8 => k_is)
    (case a9 => k_is); (case l9 => k_is); (case c9 => k_is); (case k9 => k_is)
    (case a10 => k_is); (case l10 => k_is); (case c10 => k_is); (case k10 => k_is)
    (case a11 => k_is); (case l11 => k_is); (case c11 => k_is); (case k11 => k_is)
    (case a12 => k_is); (case l12 => k_is); (case c12 => k_is); (case k12 => k_is)
    (case a13 => k_is); (case l13 => k_is); (case c13 => k_is); (case k13 => k_is)
    (case a14 => k_is); (case l14 => k_is); (case c14 => k_is); (case k14 => k_is)
    (case a15 => k_is); (case l15 => k_is); (case c15 => k_is); (case k15 => k_is)
    (case a16 => k_is); (case l16 => k_is); (case c16 => k_is); (case k16 => k_is)
    (case a17 => k_is); (case l17 => k_is); (case c17 => k_is); (case k17 => k_is)
    (case a18 => k_is); (case l18 => k_is); (case c18 => k_is); (case k18 => k_is)
    (case a19 => k_is); (case l19 => k_is); (case c19 => k_is); (case k19 => k_is)
    (case a20 => k_is); (case l20 => k_is); (case c20 => k_is); (case k20 => k_is)
    (case a21 => k_is); (case l21 => k_is); (case c21 => k_is); (case k21 => k_is)
    (case a22 => k_is); (case l22 => k_is); (case c22 => k_is); (case k22 => k_is)
    (case a23 => k_is); (case l23 => k_is); (case c23 => k_is); (case k23 => k_is)
    (case cdr1 => first | rfl | k_is); (case lk1 => k_is); (case lv1 => first | rfl | k_is); (case out1 => first | rfl | k_is)
    (case cdr2 => first | rfl | k_is); (case lk2 => k_is); (case lv2 => first | rfl | k_is); (case out2 => first | rfl | k_is)
    (case ne12 => decide)
    (case ne21 => decide)
    (case z_ValueError => k_is)
    (case z_abs => k_is)
    (case z_all => k_is)
    (case z_isinstance => k_is)
    (case z_len => k_is)
    (case z_list => k_is)
    (case z_max => k_is)
    (case z_min => k_is)
    (case z_range => k_is)
    (case z_repr => k_is)
    (case z_sum => k_is)
    (case z_tuple => k_is)
    (case ca_LayoutError => k_is)
    (case ch_LayoutError => k_is)
    (case cy_LayoutError => k_is)
    (case ca_TooFull => k_is)
    (case ch_TooFull => k_is)
    (case cy_TooFull => k_is)
    (case ca_TooMany => k_is)
    (case ch_TooMany => k_is)
    (case cy_TooMany => k_is)
    (case cB_LayoutError => k_is)
    (case cb_TooFull => k_is)
    (case cv_TooFull => k_is)
    (case cg_TooFull => exact ⟨⟨by k_is, by k_is, by k_is, by k_is, by k_is, by k_is, by k_is, by k_is⟩, ⟨by k_is, by k_is, by k_is, by k_is⟩⟩)
    (case cs_TooFull_TooMany => k_is)
    (case cn_TooFull_TooMany => decide)
    (case cf_TooFull => k_is)
    (case co_TooFull => exact ⟨⟨_, _, _, _, _, _, _, _, _, _, _, _, _, _, _, by k_is, by decide⟩, by k_is, by k_is, by k_is, by k_is⟩)
    (case ci_TooFull => k_is)
    (case ct_TooFull => k_is)
    (case cl2_TooFull => k_is)
    (case cc_TooFull => k_is)
    (case ck_TooFull => k_is)


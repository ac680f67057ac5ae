import PyProof.Rows.All
import Wide.All
import OpenK.AllK
import Wide.FinOn
import HandS.ForMost
import HandS.IsInst
import HandS.Conv
import HandS.SetFor
import HandS.SortInts
import HandS.TupAny
import HandS.Wide
import HandS.Style
import HandS.RaiseMore
import HandS.ExcValue
import KE.SortKeyHeap
import HandS.Lambda
import HandS.EndTab
import HandS.TupMul
import HandS.Flow
import HandS.Strs
import PyProof.ReprLen
import HandS.TryOnly
import HandS.Zip
import KE.GoesMore
import KE.DataMinMax
import HandS.SortKw
import HandS.Deep
import HandS.More
import HandS.DeepEq
import PyProof.SumAny
import PyProof.ListOps
import KE.KDictZip
import PyProof.CollectIter
import HandS.ExcInit
import HandS.ExcField
import HandS.ExcIs
import HandS.Small
import HandS.WordsExc
import KE.KExcIs
import KE.GoesEnumKw
import KE.DataMinKey
import PyProof.WalkInts
import HandS.SortRule
import KE.SortData
import HandS.ListItems
import HandS.DictTup
import KE.KDictDisplayH
import HandS.Sort
import KE.KDictSum
import KE.LtSeq
import HandS.TupLen
import KE.KDictPairs
import HandS.DictComp
import HandS.MakeKwOnly
import HandS.Replace
import KE.DatumOrd
import PyProof.Rows.SetFrom
import PyProof.P3In
import HandS.Flt
import KE.KEqDict
import HandS.OwnEq
import PyProof.InstNe
import PySem.Challenge.RW_samelayout_k84_whole_tables_by_unlike_hi
set_option Elab.async false
set_option linter.all false
set_option maxRecDepth 100000
namespace SL
open PySem PySem.Spec PyProof.Rows L2
structure FnG (P : Program) (w : World) (K : PySem.W.Frag) (mg : Str → Option Value) (base : Heap) (k : Nat) (f : Addr)
    (fd : FuncData) (ps : List Str) (sp : Sp) : Prop where
  size : ∀ vs H Q E, sp vs H Q E → vs.length = ps.length
  go : ∀ (A : Around) (outer : List Env) (s : Shared) (H : Hp) (args : Args) (us : List Value) (vs : List V) (Q : VK) (E : XK),
    A.guards = some [] → Room k A → Env0 P w K mg base A outer s H → BindsTo s fd args (ps.zip us) → Vals vs us →
    sp vs H Q E → codeAny (model P w) A (.call (.ref f) args) (CR CX0 outer P w H s Q E) s

section
variable {P : Program} {w : World} {K : PySem.W.Frag} {mg : Str → Option Value} {base : Heap}
theorem fnG_mk {x qual : Str} {st : Stmt} {f : Addr} {fd : FuncData} {N ps : List Str} {k : Nat} {sp : Sp}
    (F : Fun K x qual st f fd) (sc : FnScope N ps (defScope st)) (size : ∀ vs H Q E, sp vs H Q E → vs.length = ps.length)
    (body : ∀ (cdv : Value) (A : Around) (outer : List Env) (s : Shared) (H : Hp) (vs : List V) (Q : VK) (E : XK),
      A.guards = some [] → Room k (A.deeper (envOfC qual (defScope st) s.heap.objs.size f cdv)) → sp vs H Q E →
      ∃ t, PSs (cxOf CX0 P w K mg base N qual (defScope st) f cdv A outer s H E).nox (defBody st) t ∧
        t { nx := fun _ H' => Q .non H', rt := Q } (start N vs) H) : FnG P w K mg base (k + 1) f fd ps sp := by
  obtain ⟨oc, od, kV, doc, pm, an, cdv, ct, osl, rfl, look, code⟩ := F.ex
  constructor
  · exact size
  · intro A outer s H args us vs Q E hgd room env bound rel prom
    have many := size _ _ _ _ prom
    have inK : K.In s.heap := env.mod.kin.keeps fun b o q => (env.bs b o q).1
    have free : s.heap.NoLimit := env.mod.nolimit.keeps fun b o q => (env.bs b o q).1
    refine codeAny_call_function room.depth (inK _ _ look) rfl sc.co sc.gen rfl (PySem.W.codeRec_of inK code)
      (bound _ _ _ _ ?_)
    refine wpAny_newFunctionEnv_cells sc.kind ?kinds fun env' same s1 fresh => ?_
    case kinds =>
      rintro ⟨n, v⟩ here
      rcases sc.par n (List.of_mem_zip here).1 with q | q
      · exact Or.inl q
      · exact Or.inr ⟨q, PySem.W.cellsFrom_some _ _ _ (Or.inl q)⟩
    subst same
    refine ⟨free.keeps fresh.toInCall.keep, codeAny_func ?_⟩
    obtain ⟨t, der, reading⟩ := body cdv A outer s H vs Q E hgd (room.deeper _) prom
    have I := inv_start (CX := CX0) (E := E) sc room.hd env many rel fresh
    refine wpAny_mono (der.nox.run [] s1 (start N vs) H _ I reading) (fun fl s' e => ?_) fun _ _ e => e
    cases fl with
    | ret u => obtain ⟨v, σ', H', J, r', q⟩ := e; exact ⟨v, H', J.os, J.bare, J.base, J.hok, r', q⟩
    | next => obtain ⟨σ', H', J, q⟩ := e; exact ⟨.non, H', J.os, J.bare, J.base, J.hok, rfl, q⟩
    | brk => obtain ⟨_, _, _, q⟩ := e; exact False.elim q
    | cont => obtain ⟨_, _, _, q⟩ := e; exact False.elim q

theorem pe_callG {X : Cx} {k : Nat} {f : Addr} {fd : FuncData} {ps : List Str} {sp : Sp} {x : Str} {p pos : Pos} {e : Expr} {es : List Expr} {t : TA}
    (F : FnG X.prog X.w X.K X.mg X.base k f fd ps sp) (gd : X.A.guards = some []) (room : Room k X.A) (gl : Gl X x)
    (at_ : X.mg x = some (.ref f)) (keep : PySem.W.keepIn X.K (.ref f) = true) (bd : Binds X.K fd ps []) (args : PA X (e :: es) t)
    (h1 : (x == ("__debug__" : Str)) = false := by decide)
    (h2 : starEach (e :: es) X.env = (false, eval e X.env) :: starEach es X.env := by rfl)
    (h3 : (backTo pos (starEach es X.env)).any (·.1) = false := by rfl) :
    PE X (.Call (.Name x p) (e :: es) [] pos) (tCall sp [] E0 t) := by
  constructor
  intro pins s σ H Q I h
  refine wpAny_Call_Name_kw (ld_glob I gl at_ ?_ h1)
  refine PySem.W.callWith_K (h₀ := X.base) I.ok.mod.kin keep (thn (args.run pos pins s σ H _ I h) ?_) h2 h3
  rintro us s1 ⟨vs, H1, I1, rel, q⟩
  refine ⟨I1.kIn, ?_⟩
  have q' : sp vs H1 Q E0 := by have z := q; rw [List.append_nil] at z; exact z
  have long : us.length = ps.length := by rw [← rel.length]; exact F.size _ _ _ _ q'
  have bd' := bd s1 us I1.kIn (by rw [List.append_nil]; exact long)
  rw [List.append_nil] at bd'
  refine wpAny_call (codeAny_mono (F.go X.A X.stack s1 H1 ⟨us, []⟩ us vs Q E0 gd room I1.env0 bd' rel q') fun r s' here => ?_)
  cases r with
  | error _ => exact False.elim here
  | ok fl => cases fl with
    | ret _ => exact I1.after here
    | next => exact False.elim here
    | brk => exact False.elim here
    | cont => exact False.elim here
end
theorem lawG {P : Program} {w : World} {K : PySem.W.Frag} {mg mb : Str → Option Value} {k : Nat} {fa a : Addr} {fd : FuncData} {x : Str} {sp : Sp}
    {s₁ : Shared} {vs : List Value} {ns : List Int} (inK : K.In s₁.heap) (gl : s₁.heap.Ns mainGlobals mg) (bl : s₁.heap.Ns builtinsNs mb)
    (bb : ∀ x : Str, x ≠ "__name__" → mb x = bootBuiltins x) (lim : s₁.heap.NoLimit) (gens : s₁.gens = #[])
    (obj : s₁.heap.get? a = some { cls := .type "list", data := .seq vs.toArray }) (nums : IntsAre vs ns) (few : ns.length ≤ sizeLine) (room : Room k callerA)
    (F : ∀ base : Heap, K.In base → base.Ns mainGlobals mg → FnG P w K mg base k fa fd [x] sp)
    (bound : ∀ (s : Shared) (u : Value), BindsTo s fd ⟨[u], []⟩ [(x, u)])
    (prom : ∀ H : Hp, Only H → SqL K H a (ns.map V.int) → sp [.ref a] H (fun v _ => v = .bl true) E0) :
    codeAny (model P w) callerA (.call (.ref fa) ⟨[.ref a], []⟩)
      (fun r s' => r = .ok (.ret (.bool true)) ∧ OldK s₁.heap s'.heap ∧ s'.os = s₁.os ∧ AllBare s'.gens) s₁ := by
  have rel := vals_ints nums
  have inner : ∀ H : Hp, Only H → SqL K H a (ns.map V.int) → HOk P w H s₁.heap → (∀ b, H b ≠ none → b = a) →
      (H a ≠ none → K.lookup a = none) → codeAny (model P w) callerA (.call (.ref fa) ⟨[.ref a], []⟩)
        (fun r s' => r = .ok (.ret (.bool true)) ∧ OldK s₁.heap s'.heap ∧ s'.os = s₁.os ∧ AllBare s'.gens) s₁ := by
    intro H only seq hok alone outK
    have dictFree : ∀ {b : Addr} {o : Obj} {es : Array DictEntry} {ep : Nat}, s₁.heap.get? b = some o → o.data = .dict es ep → H b = none := by
      intro b o es ep e d
      cases q : H b with
      | none => rfl
      | some u =>
        obtain rfl : b = a := alone b (by rw [q]; intro z; cases z)
        rw [obj] at e
        cases e
        cases (show Data.seq vs.toArray _ = Data.dict es ep from d)
    have nsH : ∀ {b : Addr} {m : Str → Option Value}, s₁.heap.Ns b m → (hidT s₁.heap H).Ns b m := by
      rintro b m ⟨o, es, ep, e, d, r⟩
      exact ⟨o, es, ep, hidT_get e (dictFree e d), d, r⟩
    have kH : K.In (hidT s₁.heap H) := by
      intro b o e
      refine hidT_get (inK b o e) ?_
      cases q : H b with
      | none => rfl
      | some u =>
        obtain rfl : b = a := alone b (by rw [q]; intro z; cases z)
        rw [outK (by rw [q]; intro z; cases z)] at e
        cases e
    have limH : (hidT s₁.heap H).NoLimit := by
      obtain ⟨mc, h1, h2⟩ := lim
      exact ⟨mc, nsH h1, h2⟩
    have env : Env0 P w K mg (hidT s₁.heap H) callerA [] s₁ H := by
      refine ⟨rfl, ⟨kH, nsH gl, ⟨mb, nsH bl, bb⟩, limH⟩, fun b o e => of_hidT e, Nat.le_of_eq (hidT_size _ _), trivial, ?_, hok, .of_eq gens⟩
      intro b hb
      cases (show b ∈ ([] : List Addr) from hb)
    have G := F _ kH (nsH gl)
    refine codeAny_mono (G.go callerA [] s₁ H ⟨[.ref a], []⟩ [.ref a] [.ref a] _ _ rfl room env (bound s₁ (.ref a)) (.cons rfl .nil) (prom H only seq)) ?_
    intro r s' h
    cases r with
    | error e => exact False.elim h
    | ok fl => cases fl with
      | next => exact False.elim h
      | brk => exact False.elim h
      | cont => exact False.elim h
      | ret u =>
        obtain ⟨v, H', os, bare, un, hok', r', q⟩ := h
        obtain rfl : v = .bl true := q
        obtain rfl : u = Value.bool true := r'
        refine ⟨rfl, OldK.of_keep ?_, os, bare⟩
        intro b o e
        rcases only b with z | ⟨ob, xs, z⟩
        · exact un.keep b o e z (fun m => by cases (show b ∈ ([] : List Addr) from m)) (fun m => by cases m)
        · obtain ⟨e1, _⟩ := hok b _ z
          obtain ⟨e2, _⟩ := hok' b _ (un.frzs b ob _ z)
          rw [e] at e1
          cases e1
          exact e2
  cases written : K.lookup a with
  | some o =>
    have e := inK a o written
    rw [obj] at e
    cases e
    refine inner (fun _ => none) (fun _ => Or.inl rfl) (Or.inr ⟨_, vs.toArray, _, written, rfl, rfl, rfl, ?_, ?_⟩) (fun b u z => by cases z) (fun b z => absurd rfl z) (fun z => absurd rfl z)
    · rw [List.size_toArray, nums.length]; exact few
    · simpa using rel
  | none =>
    have yes : ∀ b : Addr, b = a → (fun b => if b = a then some (HO.frz { cls := .type "list", data := .seq vs.toArray } (.lst (ns.map V.int))) else none) b = some (HO.frz { cls := .type "list", data := .seq vs.toArray } (.lst (ns.map V.int))) := fun b e => if_pos e
    have no : ∀ b : Addr, b ≠ a → (fun b => if b = a then some (HO.frz { cls := .type "list", data := .seq vs.toArray } (.lst (ns.map V.int))) else none) b = none := fun b e => if_neg e
    refine inner (fun b => if b = a then some (HO.frz { cls := .type "list", data := .seq vs.toArray } (.lst (ns.map V.int))) else none) ?_ (Or.inl (Or.inr ⟨_, yes a rfl⟩)) ?_ ?_ (fun _ => written)
    · intro b
      by_cases same : b = a
      · exact Or.inr ⟨_, _, yes b same⟩
      · exact Or.inl (no b same)
    · intro b u z
      by_cases same : b = a
      · have z' := (yes b same).symm.trans z
        cases z'
        subst same
        exact ⟨obj, by rw [List.length_map]; exact few, vs, _, rel, obj⟩
      · have z' := (no b same).symm.trans z
        cases z'
    · intro b z
      by_cases same : b = a
      · exact same
      · exact absurd (no b same) z

theorem walkG {l : PySem.W.OpenLaw} {n k : Nat} {q : Program} {loose : List Str} {XP : (Str → Option Value) → Heap → Prop} {YP : World → Heap → Prop}
    {d : DefRec} {K : Params → PySem.W.Frag} {sp : PySem.W.Frag → Sp} {x : Str} (most : l.most = some n) (few : n ≤ sizeLine)
    (plain : d.params.defaults = []) (room : Room k callerA) (inK : ∀ (w : World) (h : Heap), YP w h → (K w.params).In h)
    (F : ∀ (w : World) (mg : Str → Option Value) (fa : Addr) (h : Heap), (K w.params).In h → h.Ns mainGlobals mg → mg d.name = some (.ref fa) →
      ∃ fd : FuncData, (∀ (s : Shared) (u : Value), BindsTo s fd ⟨[u], []⟩ [(x, u)]) ∧
        ∀ base : Heap, (K w.params).In base → base.Ns mainGlobals mg → FnG l.prog w (K w.params) mg base k fa fd [x] (sp (K w.params)))
    (prom : ∀ (K : PySem.W.Frag) (H : Hp) (a : Addr) (ns : List Int), ns.length ≤ n → Only H → SqL K H a (ns.map V.int) →
      sp K [.ref a] H (fun v _ => v = .bl true) E0) :
    PySem.W.WalkO q loose XP YP l.row.toRowW d [] (fun f vs => PySem.call f vs) := by
  refine Att.attach_call most plain ?_
  intro w s₀ s₁ mg mb fa o pm cd doc a vs ns G Y ho hd hcd named obj nums len gens
  obtain ⟨fd, bound, hF⟩ := F w mg fa _ (inK w _ Y) G.T.g named
  exact lawG (inK w _ Y) G.T.g G.T.b G.T.builtins G.T.nolimit gens obj nums (Nat.le_trans len few) room hF bound
    (fun H only seq => prom (K w.params) H a ns len only seq)
end SL
namespace SL
open PySem PySem.Spec PyProof.Rows L2
theorem op_powB {X : Cx} : OpR X (binaryOp .Pow) (rI (fun i j => 0 ≤ j ∧ (Builtin.Int.intBits i : Int) * j ≤ 2 ^ 27) fun i j => .int (i ^ j.toNat)) :=
  opI fun _ _ _ _ _ _ _ c q => pow_int c.1 c.2 q

end SL
namespace SL
open PySem PySem.Spec PyProof.Rows L2 PySem.W PySem.Calls
section
variable {P : Program} {w : World} {A : Around} {E : Value → Shared → Prop} {s : Shared} {a : Addr} {f : Value} {n : Nat} {vs : List Value} {kz : List PyData} {Q : PySem.Fin → Shared → Prop}
end
section
variable {P : Program} {w : World} {A : Around} {E : Value → Shared → Prop} {s : Shared} {r fa : Addr} {hi : Int} {t u v : Tok} {m : Nat} {Q : Value → Shared → Prop} {kz : List PyData}
end
end SL
namespace SL
open PySem PySem.Spec PyProof.Rows L2 LamX
section
variable {X : Cx} {pins : List (Addr × Obj)} {σ : L2.St} {H : Hp} {s : Shared}
end
end SL
namespace SL
open PySem PySem.Spec PyProof.Rows L2 LamX PySem.W
def KeyV (H : Hp) (z : V) (d : PyData) : Prop := (∃ i : Int, z = .int i ∧ d = .int i) ∨ ∃ (t : Addr) (i j : Int), z = .ref t ∧ H t = some (.tup [.int i, .int j]) ∧ d = .tuple [.int i, .int j]
theorem KeyV.same {H H' : Hp} {z : V} {d : PyData} (k : KeyV H z d) (s : Same H H') : KeyV H' z d := by
  rcases k with h | ⟨t, i, j, a, b, c⟩
  · exact Or.inl h
  · exact Or.inr ⟨t, i, j, a, s _ _ b, c⟩
theorem KeyV.reads {P : Program} {w : World} {H : Hp} {h : Heap} {z : V} {u : Value} {d : PyData} (k : KeyV H z d) (ok : HOk P w H h) (r : RelV z u) : ∃ as, Reads h u d as := by
  rcases k with ⟨i, rfl, rfl⟩ | ⟨t, i, j, rfl, ht, rfl⟩
  · obtain ⟨t, rfl⟩ := r
    exact ⟨_, .int i t⟩
  · obtain rfl : u = Value.ref t := r
    obtain ⟨_, its, rv, ob, e, cl, n, dat⟩ := ok t _ ht
    cases rv with
    | cons r1 t1 =>
      cases t1 with
      | cons r2 t2 =>
        cases t2
        obtain ⟨t1, rfl⟩ := r1
        obtain ⟨t2, rfl⟩ := r2
        exact ⟨_, .tuple e cl dat (.cons (.int i t1) (.cons (.int j t2) .nil))⟩
section
variable {X : Cx} {pins : List (Addr × Obj)} {σ : L2.St} {H H0 : Hp} {s s0 : Shared}
end
end SL
namespace SL
open PySem PySem.Spec PyProof.Rows L2 LamX PySem.W
end SL
namespace DL
open PySem PySem.Spec PyProof.Rows L2 LamX PySem.W SL
inductive D where
  | non | bl (b : Bool) | int (i : Int) | str (x : Str) | tup (ds : List D) | tuk (ds : List D) | lst (ds : List D) | scr (ds : List D) | ref (n : Nat)
inductive O where
  | lst (ds : List D)
  | dK (kvs : List (Key × D))
  | dT (kvs : List (List Int × D))
  | lk (ob : Obj) (ys : List (Key × V)) (kvs : List (Key × D))
  | lkT (ob : Obj) (ys : List (List Int × Addr × V)) (kvs : List (List Int × D))
  | ins (C : Addr) (fs : List (Str × D))
abbrev DSt := List O
abbrev DEnv := List (Option D)
abbrev DK := D → DSt → Prop
structure Pl where
  h : Nat
  m : List Addr
def Pl.at_ (M : Pl) (n : Nat) : Option Addr := M.m[M.h + n]?
def Pl.app (M : Pl) (l : List Addr) : Pl := ⟨M.h, M.m ++ l⟩
mutual
inductive RV (K : PySem.W.Frag) (M : Pl) (H : Hp) : D → V → Prop
  | non : RV K M H .non .non
  | bl (b : Bool) : RV K M H (.bl b) (.bl b)
  | int (i : Int) : RV K M H (.int i) (.int i)
  | str (x : Str) : RV K M H (.str x) (.str x)
  | tup {a : Addr} {ob : Obj} {xs : List V} {ds : List D} : a ∉ M.m → H a = some (.frz ob (.tup xs)) → ob.dict = none → RVs K M H ds xs → RV K M H (.tup ds) (.ref a)
  | tuk {a : Addr} {xs : List V} {ds : List D} : a ∉ M.m → H a = some (.tup xs) → RVs K M H ds xs → RV K M H (.tuk ds) (.ref a)
  | lst {a : Addr} {xs : List V} {ds : List D} : a ∉ M.m → H a = some (.lst xs) → RVs K M H ds xs → RV K M H (.lst ds) (.ref a)
  | scr {a : Addr} {xs : List V} {ds : List D} : a ∉ M.m → Rd H a (.lst xs) → RVs K M H ds xs → RV K M H (.scr ds) (.ref a)
  | lsk {a : Addr} {xs : List V} {ds : List D} : (∀ G : Hp, SqL K G a xs) → RVs K M H ds xs → RV K M H (.scr ds) (.ref a)
  | ref {n : Nat} {a : Addr} : M.at_ n = some a → RV K M H (.ref n) (.ref a)
inductive RVs (K : PySem.W.Frag) (M : Pl) (H : Hp) : List D → List V → Prop
  | nil : RVs K M H [] []
  | cons {d : D} {v : V} {ds : List D} {vs : List V} : RV K M H d v → RVs K M H ds vs → RVs K M H (d :: ds) (v :: vs)
end
def NT (H : Hp) (a : Addr) : Prop := ∃ o, H a = some o ∧ ∀ ps, o ≠ .tbl ps
theorem NT.no {H : Hp} {a : Addr} (h : H a = none) : ¬ NT H a := fun ⟨o, e, _⟩ => by rw [h] at e; cases e
theorem NT.upd {H : Hp} {a p : Addr} {o : HO} (h : NT H a) (ne : a ≠ p) : NT (upd H p o) a := by
  obtain ⟨u, e, n⟩ := h
  exact ⟨u, by rw [upd_ne ne]; exact e, n⟩
theorem NT.ne {H : Hp} {a p : Addr} (h : NT H a) (np : H p = none) : a ≠ p := fun z => NT.no np (by rw [← z]; exact h)
structure Grow (M : Pl) (H : Hp) (M' : Pl) (H' : Hp) : Prop where
  more : ∃ m, M' = M.app m ∧ ∀ a ∈ m, ¬ NT H a
  keep : ∀ a o, a ∉ M.m → H a = some o → (∀ ps, o ≠ .tbl ps) → H' a = some o
  there : ∀ a, NT H a → NT H' a
  hid : ∀ a ∈ M.m.take M.h, H' a = H a
theorem Pl.app_nil (M : Pl) : M.app [] = M := by unfold Pl.app; rw [List.append_nil]
theorem Grow.refl (M : Pl) (H : Hp) : Grow M H M H := ⟨⟨[], (Pl.app_nil M).symm, fun _ h => nomatch h⟩, fun _ _ _ h _ => h, fun _ h => h, fun _ _ => rfl⟩
theorem Grow.notin {M M' : Pl} {H H' : Hp} (g : Grow M H M' H') {a : Addr} (h : a ∉ M.m) (t : NT H a) : a ∉ M'.m := by
  obtain ⟨m, rfl, fr⟩ := g.more
  intro z
  rcases List.mem_append.mp z with z | z
  · exact h z
  · exact fr a z t
theorem take_app {M : Pl} {m : List Addr} {a : Addr} (h : a ∈ M.m.take M.h) : a ∈ (M.app m).m.take (M.app m).h := by
  show a ∈ (M.m ++ m).take M.h
  rw [List.take_append]
  exact List.mem_append_left _ h
theorem Grow.trans {M M1 M2 : Pl} {H H1 H2 : Hp} (a : Grow M H M1 H1) (b : Grow M1 H1 M2 H2) : Grow M H M2 H2 := by
  refine ⟨?_, fun c o n h t => ?_, fun c h => b.there c (a.there c h), fun c hc => ?_⟩
  · obtain ⟨m1, rfl, f1⟩ := a.more
    obtain ⟨m2, rfl, f2⟩ := b.more
    refine ⟨m1 ++ m2, by unfold Pl.app; simp, fun c hc => ?_⟩
    rcases List.mem_append.mp hc with z | z
    · exact f1 c z
    · exact fun q => f2 c z (a.there c q)
  · exact b.keep c o (a.notin n ⟨o, h, t⟩) (a.keep c o n h t) t
  · obtain ⟨m1, rfl, f1⟩ := id a.more
    exact (b.hid c (take_app hc)).trans (a.hid c hc)
theorem Grow.get {M M' : Pl} {H H' : Hp} (g : Grow M H M' H') {n : Nat} {a : Addr} (h : M.at_ n = some a) : M'.at_ n = some a := by
  obtain ⟨m, rfl, _⟩ := g.more
  unfold Pl.at_ at h ⊢
  show (M.m ++ m)[M.h + n]? = some a
  rw [List.getElem?_append_left (List.getElem?_eq_some_iff.mp h).1]
  exact h
theorem Pl.at_mem {M : Pl} {n : Nat} {a : Addr} (h : M.at_ n = some a) : a ∈ M.m := List.mem_of_getElem? h

def HidOk (M : Pl) (H : Hp) : Prop := ∀ a ∈ M.m.take M.h, ∃ xs, H a = some (.lst xs)
theorem Grow.new {M : Pl} {H : Hp} {p : Addr} {o : HO} (ho : HidOk M H) (h : H p = none) : Grow M H M (upd H p o) :=
  ⟨⟨[], (Pl.app_nil M).symm, fun _ h => nomatch h⟩, fun a u _ e _ => by rw [upd_ne (ne_of_none e h)]; exact e, fun a e => e.upd (e.ne h), fun a ha => by
    obtain ⟨xs, e⟩ := ho a ha
    exact upd_ne (ne_of_none e h)⟩
theorem Grow.place {M : Pl} {H : Hp} {p : Addr} {o : HO} (ho : HidOk M H) (h : H p = none) : Grow M H (M.app [p]) (upd H p o) :=
  ⟨⟨[p], rfl, fun a ha => by rw [List.mem_singleton.mp ha]; exact NT.no h⟩, (Grow.new ho h).keep, (Grow.new ho h).there, (Grow.new ho h).hid⟩
theorem Grow.write {M : Pl} {H : Hp} {n : Nat} {p : Addr} {o : HO} (nd : M.m.Nodup) (hp : M.at_ n = some p) (no : ∀ ps, o ≠ .tbl ps := by intro ps z; cases z) : Grow M H M (upd H p o) :=
  ⟨⟨[], (Pl.app_nil M).symm, fun _ h => nomatch h⟩, fun a u n e _ => by rw [upd_ne (fun z : a = p => n (by rw [z]; exact Pl.at_mem hp))]; exact e, fun a e => by
    by_cases z : a = p
    · rw [z]; exact ⟨o, upd_same, no⟩
    · exact e.upd z, fun a ha => by
    refine upd_ne fun z => ?_
    subst z
    obtain ⟨i, hi⟩ := List.mem_iff_getElem?.mp ha
    rw [List.getElem?_take] at hi
    split at hi
    · obtain ⟨l1, q1⟩ := List.getElem?_eq_some_iff.mp hi
      obtain ⟨l2, q2⟩ := List.getElem?_eq_some_iff.mp hp
      have := (List.getElem_inj nd).mp (q1.trans q2.symm)
      omega
    · cases hi⟩
theorem Rd.grow {M M' : Pl} {H H' : Hp} (g : Grow M H M' H') {a : Addr} {xs : List V} (n : a ∉ M.m) (r : Rd H a (.lst xs)) : Rd H' a (.lst xs) := by
  rcases r with r | ⟨o, r⟩
  · exact .inl (g.keep a _ n r (fun ps z => by cases z))
  · exact .inr ⟨o, g.keep a _ n r (fun ps z => by cases z)⟩
theorem Rd.there {H : Hp} {a : Addr} {xs : List V} (r : Rd H a (.lst xs)) : NT H a := by
  rcases r with r | ⟨o, r⟩ <;> exact ⟨_, r, fun ps z => by cases z⟩
mutual
theorem RV.grow {K : PySem.W.Frag} {M M' : Pl} {H H' : Hp} (g : Grow M H M' H') : ∀ {d : D} {v : V}, RV K M H d v → RV K M' H' d v
  | _, _, .non => .non
  | _, _, .bl b => .bl b
  | _, _, .int i => .int i
  | _, _, .str x => .str x
  | _, _, .tup n h e r => .tup (g.notin n ⟨_, h, fun ps z => by cases z⟩) (g.keep _ _ n h (fun ps z => by cases z)) e (r.grow g)
  | _, _, .tuk n h r => .tuk (g.notin n ⟨_, h, fun ps z => by cases z⟩) (g.keep _ _ n h (fun ps z => by cases z)) (r.grow g)
  | _, _, .lst n h r => .lst (g.notin n ⟨_, h, fun ps z => by cases z⟩) (g.keep _ _ n h (fun ps z => by cases z)) (r.grow g)
  | _, _, .scr n h r => .scr (g.notin n (Rd.there h)) (Rd.grow g n h) (r.grow g)
  | _, _, .lsk h r => .lsk h (r.grow g)
  | _, _, .ref h => .ref (g.get h)
theorem RVs.grow {K : PySem.W.Frag} {M M' : Pl} {H H' : Hp} (g : Grow M H M' H') : ∀ {d : List D} {v : List V}, RVs K M H d v → RVs K M' H' d v
  | _, _, .nil => .nil
  | _, _, .cons h t => .cons (h.grow g) (t.grow g)
end
def TdO (a : Addr) (o : Obj) : HO := .ext fun h => h.get? a = some o
def hT (k : List Int) : Int := reduceHash (Builtin.Tuple.tupleHashOf (k.map hashInt))
def Td (H : Hp) (a : Addr) (kvs : List (List Int × Addr × V)) : Prop :=
  ∃ (o : Obj) (es : Array DictEntry) (ep : Nat) (xs : List (List Int × Addr × Value)), H a = some (TdO a o) ∧ (a == sysModules) = false ∧ o.ExactDict ∧ o.data = .dict es ep ∧
    es.toList = xs.map (fun x => (⟨hT x.1, .ref x.2.1, x.2.2⟩ : DictEntry)) ∧ (xs.map (·.1)).Nodup ∧ xs.length ≤ sizeLine ∧
    Paired (fun (p : List Int × Addr × V) (q : List Int × Addr × Value) => p.1 = q.1 ∧ p.2.1 = q.2.1 ∧ RelV p.2.2 q.2.2) kvs xs
theorem Td.stay {H H' : Hp} {a : Addr} {kvs : List (List Int × Addr × V)} (h : Td H a kvs) (e : H' a = H a) : Td H' a kvs := by
  obtain ⟨o, es, ep, xs, h1, h2⟩ := h
  exact ⟨o, es, ep, xs, e.trans h1, h2⟩
def TdA (H : Hp) (a : Addr) (o : Obj) (kvs : List (List Int × Addr × V)) : Prop :=
  ∃ (es : Array DictEntry) (ep : Nat) (xs : List (List Int × Addr × Value)), H a = some (TdO a o) ∧ (a == sysModules) = false ∧ o.ExactDict ∧ o.data = .dict es ep ∧
    es.toList = xs.map (fun x => (⟨hT x.1, .ref x.2.1, x.2.2⟩ : DictEntry)) ∧ (xs.map (·.1)).Nodup ∧ xs.length ≤ sizeLine ∧
    Paired (fun (p : List Int × Addr × V) (q : List Int × Addr × Value) => p.1 = q.1 ∧ p.2.1 = q.2.1 ∧ RelV p.2.2 q.2.2) kvs xs
theorem TdA.td {H : Hp} {a : Addr} {o : Obj} {kvs : List (List Int × Addr × V)} (h : TdA H a o kvs) : Td H a kvs := by
  obtain ⟨es, ep, xs, h⟩ := h
  exact ⟨o, es, ep, xs, h⟩
theorem Td.ob {H : Hp} {a : Addr} {kvs : List (List Int × Addr × V)} (h : Td H a kvs) : ∃ o, TdA H a o kvs := by
  obtain ⟨o, es, ep, xs, h⟩ := h
  exact ⟨o, es, ep, xs, h⟩
theorem TdA.stay {H H' : Hp} {a : Addr} {o : Obj} {kvs : List (List Int × Addr × V)} (h : TdA H a o kvs) (e : H' a = H a) : TdA H' a o kvs := by
  obtain ⟨es, ep, xs, h1, h2⟩ := h
  exact ⟨es, ep, xs, e.trans h1, h2⟩
theorem TdO_ne {a : Addr} {o : Obj} {q : Str} {es : Array DictEntry} {ep : Nat} (d : o.data = .dict es ep) : TdO a o ≠ CodeO a q := fun e => by
  unfold TdO CodeO at e
  injection e with e
  have e0 := congrFun e { objs := Array.replicate (a + 1) o }
  have g : Heap.get? { objs := Array.replicate (a + 1) o } a = some o := by
    unfold Heap.get?
    have : (Array.replicate (a + 1) o)[a]? = some o := by rw [Array.getElem?_replicate, if_pos (Nat.lt_succ_self a)]
    simp only [this]
    obtain ⟨_, _, dd, _⟩ := o
    cases d
    rfl
  obtain ⟨oc, vs, t, h1, h2, _⟩ := e0.mp g
  rw [g] at h1
  cases h1
  rw [d] at h2
  cases h2
def Rdt (H : Hp) (a : Addr) (xs : List V) : Prop := H a = some (.tup xs) ∨ ∃ o, H a = some (.frz o (.tup xs)) ∧ o.dict = none
theorem Rdt.rd {H : Hp} {a : Addr} {xs : List V} (r : Rdt H a xs) : Rd H a (.tup xs) := r.elim .inl fun ⟨o, h, _⟩ => .inr ⟨o, h⟩
theorem Rdt.grow {M M' : Pl} {H H' : Hp} (g : Grow M H M' H') {a : Addr} {xs : List V} (n : a ∉ M.m) (r : Rdt H a xs) : Rdt H' a xs := by
  rcases r with r | ⟨o, r, d⟩
  · exact .inl (g.keep a _ n r (fun ps z => by cases z))
  · exact .inr ⟨o, g.keep a _ n r (fun ps z => by cases z), d⟩
theorem Rdt.there {H : Hp} {a : Addr} {xs : List V} (r : Rdt H a xs) : NT H a := by
  rcases r with r | ⟨o, r, _⟩ <;> exact ⟨_, r, fun ps z => by cases z⟩
def TKs (M : Pl) (H : Hp) (ys : List (List Int × Addr × V)) : Prop := ∀ y ∈ ys, y.2.1 ∉ M.m ∧ Rdt H y.2.1 (y.1.map V.int)
theorem TKs.grow {M M' : Pl} {H H' : Hp} (g : Grow M H M' H') {ys : List (List Int × Addr × V)} (h : TKs M H ys) : TKs M' H' ys := fun y hy =>
  ⟨g.notin (h y hy).1 (h y hy).2.there, (h y hy).2.grow g (h y hy).1⟩
def RO (K : PySem.W.Frag) (M : Pl) (H : Hp) : O → Addr → Prop
  | .lst ds, a => ∃ xs, H a = some (.lst xs) ∧ RVs K M H ds xs
  | .dK kvs, a => ∃ ys : List (Key × V), H a = some (.dK ys) ∧ kvs.map (·.1) = ys.map (·.1) ∧ RVs K M H (kvs.map (·.2)) (ys.map (·.2))
  | .dT kvs, a => ∃ ys : List (List Int × Addr × V), Td H a ys ∧ kvs.map (·.1) = ys.map (·.1) ∧ RVs K M H (kvs.map (·.2)) (ys.map (·.2.2)) ∧ TKs M H ys
  | .lk ob ys kvs, a => H a = some (.frz ob (.dK ys)) ∧ kvs.map (·.1) = ys.map (·.1) ∧ RVs K M H (kvs.map (·.2)) (ys.map (·.2))
  | .lkT ob ys kvs, a => TdA H a ob ys ∧ kvs.map (·.1) = ys.map (·.1) ∧ RVs K M H (kvs.map (·.2)) (ys.map (·.2.2)) ∧ TKs M H ys
  | .ins C fs, a => ∃ (dx : Addr) (ys : List (Str × V)), H a = some (.ins C dx ys) ∧ fs.map (·.1) = ys.map (·.1) ∧ RVs K M H (fs.map (·.2)) (ys.map (·.2))
structure RS (T : List (Addr × Str)) (K : PySem.W.Frag) (M : Pl) (st : DSt) (H : Hp) : Prop where
  len : M.m.length = M.h + st.length
  nd : M.m.Nodup
  obj : ∀ (n : Nat) (a : Addr) (o : O), M.at_ n = some a → st[n]? = some o → RO K M H o a
  tabs : Tabs T H
  hid : HidOk M H
structure RE (K : PySem.W.Frag) (M : Pl) (H : Hp) (r : DEnv) (σ : L2.St) : Prop where
  len : r.length = σ.length
  at_ : ∀ (i : Nat) (d : D), r[i]? = some (some d) → ∃ v, σ[i]? = some (some v) ∧ RV K M H d v
theorem RE.grow {K : PySem.W.Frag} {M M' : Pl} {H H' : Hp} {r : DEnv} {σ : L2.St} (h : RE K M H r σ) (g : Grow M H M' H') : RE K M' H' r σ :=
  ⟨h.len, fun i d e => by obtain ⟨v, e1, e2⟩ := h.at_ i d e; exact ⟨v, e1, e2.grow g⟩⟩
theorem RO.stay {K : PySem.W.Frag} {M M' : Pl} {H H' : Hp} (g : Grow M H M' H') {o : O} {a : Addr} (h : RO K M H o a) (e : H' a = H a) : RO K M' H' o a := by
  cases o with
  | lst ds => obtain ⟨xs, h1, h2⟩ := h; exact ⟨xs, e.trans h1, h2.grow g⟩
  | dK kvs => obtain ⟨ys, h1, h2, h3⟩ := h; exact ⟨ys, e.trans h1, h2, h3.grow g⟩
  | dT kvs => obtain ⟨ys, h1, h2, h3, h4⟩ := h; exact ⟨ys, h1.stay e, h2, h3.grow g, h4.grow g⟩
  | lk ob ys kvs => obtain ⟨h1, h2, h3⟩ := h; exact ⟨e.trans h1, h2, h3.grow g⟩
  | lkT ob ys kvs => obtain ⟨h1, h2, h3, h4⟩ := h; exact ⟨h1.stay e, h2, h3.grow g, h4.grow g⟩
  | ins C fs => obtain ⟨dx, ys, h1, h2, h3⟩ := h; exact ⟨dx, ys, e.trans h1, h2, h3.grow g⟩
theorem RO.mut {K : PySem.W.Frag} {M : Pl} {H : Hp} {o : O} {a : Addr} (h : RO K M H o a) : (∃ xs, H a = some (.lst xs)) ∨ (∃ xs, H a = some (.dK xs)) ∨ (∃ ob, H a = some (TdO a ob) ∧ ∃ es ep, ob.data = .dict es ep) ∨ (∃ ob xs, H a = some (.frz ob (.dK xs))) ∨ ∃ C dx xs, H a = some (.ins C dx xs) := by
  cases o with
  | lst ds => obtain ⟨xs, h1, h2⟩ := h; exact .inl ⟨_, h1⟩
  | dK kvs => obtain ⟨ys, h1, h2, h3⟩ := h; exact .inr (.inl ⟨_, h1⟩)
  | dT kvs => obtain ⟨ys, ⟨o, es, ep, xs, h1, _, _, h2, _⟩, _⟩ := h; exact .inr (.inr (.inl ⟨_, h1, _, _, h2⟩))
  | lk ob ys kvs => obtain ⟨h1, h2, h3⟩ := h; exact .inr (.inr (.inr (.inl ⟨_, _, h1⟩)))
  | lkT ob ys kvs => obtain ⟨⟨es, ep, xs, h1, _, _, h2, _⟩, _⟩ := h; exact .inr (.inr (.inl ⟨_, h1, _, _, h2⟩))
  | ins C fs => obtain ⟨dx, ys, h1, h2, h3⟩ := h; exact .inr (.inr (.inr (.inr ⟨_, _, _, h1⟩)))
theorem RS.atM {T : List (Addr × Str)} {K : PySem.W.Frag} {M : Pl} {st : DSt} {H : Hp} (h : RS T K M st H) {n : Nat} {a : Addr} (e : M.at_ n = some a) : ∃ o, st[n]? = some o ∧ RO K M H o a := by
  have lt : n < st.length := by
    have := (List.getElem?_eq_some_iff.mp e).1
    have := h.len
    omega
  exact ⟨st[n], List.getElem?_eq_getElem lt, h.obj n a _ e (List.getElem?_eq_getElem lt)⟩
theorem RS.addr {T : List (Addr × Str)} {K : PySem.W.Frag} {M : Pl} {st : DSt} {H : Hp} (h : RS T K M st H) {n : Nat} {o : O} (e : st[n]? = some o) : ∃ a, M.at_ n = some a ∧ RO K M H o a := by
  have lt : M.h + n < M.m.length := by
    rw [h.len]
    have := (List.getElem?_eq_some_iff.mp e).1
    omega
  exact ⟨M.m[M.h + n], List.getElem?_eq_getElem lt, h.obj n _ o (List.getElem?_eq_getElem lt) e⟩
theorem RS.mutAt {T : List (Addr × Str)} {K : PySem.W.Frag} {M : Pl} {st : DSt} {H : Hp} (h : RS T K M st H) {a : Addr} (ha : a ∈ M.m) : (∃ xs, H a = some (.lst xs)) ∨ (∃ xs, H a = some (.dK xs)) ∨ (∃ ob, H a = some (TdO a ob) ∧ ∃ es ep, ob.data = .dict es ep) ∨ (∃ ob xs, H a = some (.frz ob (.dK xs))) ∨ ∃ C dx xs, H a = some (.ins C dx xs) := by
  obtain ⟨n, hn⟩ := List.mem_iff_getElem?.mp ha
  by_cases lt : n < M.h
  · refine .inl (h.hid a ?_)
    refine List.mem_of_getElem? (i := n) ?_
    rw [List.getElem?_take, if_pos lt]
    exact hn
  · obtain ⟨o, _, ro⟩ := h.atM (n := n - M.h) (a := a) (by
      unfold Pl.at_
      rw [show M.h + (n - M.h) = n by omega]
      exact hn)
    exact ro.mut
theorem RS.tabNe {T : List (Addr × Str)} {K : PySem.W.Frag} {M : Pl} {st : DSt} {H : Hp} (h : RS T K M st H) {a b : Addr} (ha : a ∈ M.m) {u : HO} (hb : H b = some u) (hu : (∃ ps, u = .tbl ps) ∨ ∃ φ, u = CodeO b φ) : a ≠ b := by
  intro z
  subst z
  rcases h.mutAt ha with ⟨xs, q⟩ | ⟨xs, q⟩ | ⟨xs, q, es, ep, d⟩ | ⟨_, xs, q⟩ | ⟨_, _, xs, q⟩ <;> rw [hb] at q <;> rcases hu with ⟨ps, rfl⟩ | ⟨φ, rfl⟩ <;> first | (cases q; done) | exact (TdO_ne d (Option.some.inj q).symm).elim
theorem tabs_upd {T : List (Addr × Str)} {H : Hp} {p : Addr} {o : HO} (t : Tabs T H) (h : ∀ b u, H b = some u → ((∃ ps, u = .tbl ps) ∨ ∃ φ, u = CodeO b φ) → b ≠ p) : Tabs T (upd H p o) := by
  intro q hq
  obtain ⟨ps, h1, h2, h3⟩ := t q hq
  refine ⟨ps, ?_, h2, fun pos cv hc => ?_⟩
  · rw [upd_ne (h _ _ h1 (.inl ⟨ps, rfl⟩))]
    exact h1
  · obtain ⟨c, e1, e2⟩ := h3 pos cv hc
    refine ⟨c, e1, ?_⟩
    rw [upd_ne (h _ _ e2 (.inr ⟨_, rfl⟩))]
    exact e2
theorem RS.notin {T : List (Addr × Str)} {K : PySem.W.Frag} {M : Pl} {st : DSt} {H : Hp} (h : RS T K M st H) {p : Addr} (np : H p = none) : p ∉ M.m := by
  intro z
  rcases h.mutAt z with ⟨xs, q⟩ | ⟨xs, q⟩ | ⟨xs, q, _⟩ | ⟨_, xs, q⟩ | ⟨_, _, xs, q⟩ <;> rw [np] at q <;> cases q
theorem HidOk.upd {M : Pl} {H : Hp} {p : Addr} {o : HO} (h : HidOk M H) (np : H p = none) : HidOk M (upd H p o) := fun a ha => by
  obtain ⟨xs, e⟩ := h a ha
  exact ⟨xs, by rw [upd_ne (ne_of_none e np)]; exact e⟩
theorem HidOk.keep {M M' : Pl} {H H' : Hp} (h : HidOk M H) (g : Grow M H M' H') : HidOk M H' := fun a ha => by
  rw [g.hid a ha]
  exact h a ha
theorem RS.new {T : List (Addr × Str)} {K : PySem.W.Frag} {M : Pl} {st : DSt} {H : Hp} (h : RS T K M st H) {p : Addr} {o : HO} (np : H p = none) : RS T K M st (upd H p o) := by
  refine ⟨h.len, h.nd, fun n a u e1 e2 => ?_, tabs_upd h.tabs fun b u hb _ => ne_of_none hb np, h.hid.upd np⟩
  exact (h.obj n a u e1 e2).stay (Grow.new h.hid np) (upd_ne fun z => h.notin np (by rw [← z]; exact Pl.at_mem e1))
theorem RS.place {T : List (Addr × Str)} {K : PySem.W.Frag} {M : Pl} {st : DSt} {H : Hp} (h : RS T K M st H) {p : Addr} {o : HO} {u : O} (np : H p = none) (ro : RO K (M.app [p]) (upd H p o) u p) : RS T K (M.app [p]) (st ++ [u]) (upd H p o) := by
  refine ⟨?_, ?_, fun n a q e1 e2 => ?_, tabs_upd h.tabs fun b u hb _ => ne_of_none hb np, ?_⟩
  · show (M.m ++ [p]).length = M.h + (st ++ [u]).length
    rw [List.length_append, List.length_append, h.len, Nat.add_assoc]
    rfl
  · show (M.m ++ [p]).Nodup
    rw [List.nodup_append]
    refine ⟨h.nd, by simp, fun a ha b hb => ?_⟩
    rw [List.mem_singleton.mp hb]
    exact fun z => h.notin np (z ▸ ha)
  · have e1' : (M.m ++ [p])[M.h + n]? = some a := e1
    by_cases lt : n < st.length
    · rw [List.getElem?_append_left (by rw [h.len]; omega)] at e1'
      rw [List.getElem?_append_left lt] at e2
      exact (h.obj n a q e1' e2).stay (Grow.place h.hid np) (upd_ne fun z => h.notin np (by rw [← z]; exact List.mem_of_getElem? e1'))
    · rw [List.getElem?_append_right (by rw [h.len]; omega)] at e1'
      rw [List.getElem?_append_right (by omega)] at e2
      have n0 : M.h + n - M.m.length = 0 := by
        have := (List.getElem?_eq_some_iff.mp e1').1
        simp at this
        omega
      have n1 : n - st.length = 0 := by rw [h.len] at n0; omega
      rw [n0] at e1'
      rw [n1] at e2
      cases e1'
      cases e2
      exact ro
  · intro a ha
    have ha' : a ∈ (M.m ++ [p]).take M.h := ha
    rw [List.take_append_of_le_length (by rw [h.len]; omega)] at ha'
    exact h.hid.upd np a ha'
theorem RS.write {T : List (Addr × Str)} {K : PySem.W.Frag} {M : Pl} {st : DSt} {H : Hp} (h : RS T K M st H) {n : Nat} {p : Addr} {o : HO} {u : O} (hp : M.at_ n = some p) (ro : RO K M (upd H p o) u p) (no : ∀ ps, o ≠ .tbl ps := by intro ps z; cases z) : RS T K M (st.set n u) (upd H p o) := by
  have pm : p ∈ M.m := Pl.at_mem hp
  refine ⟨by rw [List.length_set]; exact h.len, h.nd, fun m a q e1 e2 => ?_, tabs_upd h.tabs fun b u hb z => (h.tabNe pm hb z).symm, h.hid.keep (Grow.write h.nd hp no)⟩
  by_cases e : m = n
  · subst e
    rw [hp] at e1
    cases e1
    rw [List.getElem?_set_self (by
      have := (List.getElem?_eq_some_iff.mp hp).1
      have := h.len
      omega)] at e2
    cases e2
    exact ro
  · rw [List.getElem?_set_ne (fun z => e z.symm)] at e2
    refine (h.obj m a q e1 e2).stay (Grow.write h.nd hp no) (upd_ne fun z => e ?_)
    subst z
    obtain ⟨l1, q1⟩ := List.getElem?_eq_some_iff.mp e1
    obtain ⟨l2, q2⟩ := List.getElem?_eq_some_iff.mp hp
    have := (List.getElem_inj h.nd).mp (q1.trans q2.symm)
    omega
end DL
namespace DL
open PySem PySem.Spec PyProof.Rows L2 LamX PySem.W SL
abbrev DTE := DEnv → DSt → DK → Prop
abbrev DTA := DEnv → DSt → (List D → DSt → Prop) → Prop
abbrev DTT := DEnv → DSt → (Bool → DSt → Prop) → Prop
abbrev DR2 := D → D → DSt → DK → Prop
abbrev DRs := List D → DSt → DK → Prop
def Kn (T : List (Addr × Str)) (K : Frag) (M : Pl) (H : Hp) (Q' : DK) (Q : VK) : Prop :=
  ∀ M' H' st' d v, Grow M H M' H' → RS T K M' st' H' → RV K M' H' d v → Q' d st' → Q v H'
theorem Kn.grow {T : List (Addr × Str)} {K : Frag} {M M1 : Pl} {H H1 : Hp} {Q' : DK} {Q : VK} (k : Kn T K M H Q' Q) (g : Grow M H M1 H1) : Kn T K M1 H1 Q' Q :=
  fun M' H' st' d v g1 s r q => k M' H' st' d v (g.trans g1) s r q
theorem Kn.here {T : List (Addr × Str)} {K : Frag} {M : Pl} {H : Hp} {Q' : DK} {Q : VK} {st : DSt} {d : D} {v : V} (k : Kn T K M H Q' Q) (s : RS T K M st H) (r : RV K M H d v) (q : Q' d st) : Q v H :=
  k M H st d v (Grow.refl M H) s r q
def lift (T : List (Addr × Str)) (K : Frag) (f : DTE) : TE := fun σ H Q => ∃ M r st Q', RS T K M st H ∧ RE K M H r σ ∧ f r st Q' ∧ Kn T K M H Q' Q
def liftA (T : List (Addr × Str)) (K : Frag) (f : DTA) : TA := fun σ H Q => ∃ M r st Q', RS T K M st H ∧ RE K M H r σ ∧ f r st Q' ∧
  ∀ M' H' st' ds vs, Grow M H M' H' → RS T K M' st' H' → RVs K M' H' ds vs → Q' ds st' → Q vs H'
def liftT (T : List (Addr × Str)) (K : Frag) (f : DTT) : TT := fun σ H Q => ∃ M r st Q', RS T K M st H ∧ RE K M H r σ ∧ f r st Q' ∧
  ∀ M' H' st' b, Grow M H M' H' → RS T K M' st' H' → Q' b st' → Q b H'
theorem PE.imp {X : Cx} {e : Expr} {t t' : TE} (h : PE X e t) (i : ∀ σ H Q, t' σ H Q → t σ H Q) : PE X e t' := ⟨fun pins s σ H Q I z => h.run pins s σ H Q I (i σ H Q z)⟩
theorem PA.imp {X : Cx} {e : List Expr} {t t' : TA} (h : PA X e t) (i : ∀ σ H Q, t' σ H Q → t σ H Q) : PA X e t' := ⟨fun pos pins s σ H Q I z => h.run pos pins s σ H Q I (i σ H Q z)⟩
theorem PT.imp {X : Cx} {e : Expr} {t t' : TT} (h : PT X e t) (i : ∀ σ H Q, t' σ H Q → t σ H Q) : PT X e t' := ⟨fun pins s σ H Q I z => h.run pins s σ H Q I (i σ H Q z)⟩
theorem PW.imp {X : Cx} {e : Expr} {t t' : TT} (h : PW X e t) (i : ∀ σ H Q, t' σ H Q → t σ H Q) : PW X e t' := ⟨fun wh pins s σ H Q I z => h.run wh pins s σ H Q I (i σ H Q z)⟩
theorem PS.imp {X : Cx} {e : Stmt} {t t' : TS} (h : PS X e t) (i : ∀ D σ H, t' D σ H → t D σ H) : PS X e t' := ⟨fun pins s σ H D I z => h.run pins s σ H D I (i D σ H z)⟩
theorem PSs.imp {X : Cx} {e : List Stmt} {t t' : TS} (h : PSs X e t) (i : ∀ D σ H, t' D σ H → t D σ H) : PSs X e t' := ⟨fun pins s σ H D I z => h.run pins s σ H D I (i D σ H z)⟩
abbrev DE (T : List (Addr × Str)) (X : Cx) (e : Expr) (f : DTE) : Prop := PE X e (lift T X.K f)
abbrev DA (T : List (Addr × Str)) (X : Cx) (e : List Expr) (f : DTA) : Prop := PA X e (liftA T X.K f)
abbrev DT (T : List (Addr × Str)) (X : Cx) (e : Expr) (f : DTT) : Prop := PT X e (liftT T X.K f)
abbrev DW (T : List (Addr × Str)) (X : Cx) (e : Expr) (f : DTT) : Prop := PW X e (liftT T X.K f)

def onI (d : D) (k : Int → Prop) : Prop := match d with | .int i => k i | _ => False
def onB (d : D) (k : Bool → Prop) : Prop := match d with | .bl i => k i | _ => False
def onO {α : Type} (o : Option α) (k : α → Prop) : Prop := match o with | some d => k d | none => False
def onOO (o : Option (Option D)) (k : D → Prop) : Prop := match o with | some (some d) => k d | _ => False
theorem onI.of {d : D} {k : Int → Prop} (h : onI d k) : ∃ i, d = .int i ∧ k i := by
  cases d with
  | int i => exact ⟨i, rfl, h⟩
  | _ => exact h.elim
theorem onB.of {d : D} {k : Bool → Prop} (h : onB d k) : ∃ i, d = .bl i ∧ k i := by
  cases d with
  | bl i => exact ⟨i, rfl, h⟩
  | _ => exact h.elim
theorem onO.of {α : Type} {d : Option α} {k : α → Prop} (h : onO d k) : ∃ i, d = some i ∧ k i := by
  cases d with
  | some i => exact ⟨i, rfl, h⟩
  | none => exact h.elim
theorem onOO.of {d : Option (Option D)} {k : D → Prop} (h : onOO d k) : ∃ i, d = some (some i) ∧ k i := by
  cases d with
  | none => exact h.elim
  | some o => cases o with
    | none => exact h.elim
    | some i => exact ⟨i, rfl, h⟩
def seqS (st : DSt) : D → Option (List D)
  | .tup ds => some ds
  | .tuk ds => some ds
  | .lst ds => some ds
  | .scr ds => some ds
  | .ref n => match st[n]? with | some (.lst ds) => some ds | _ => none
  | _ => none
section
variable {T : List (Addr × Str)} {K : Frag} {M : Pl} {H : Hp} {st : DSt}
theorem RVs.length : ∀ {ds : List D} {vs : List V}, RVs K M H ds vs → ds.length = vs.length
  | _, _, .nil => rfl
  | _, _, .cons _ t => by rw [List.length_cons, List.length_cons, RVs.length t]
theorem RVs.get : ∀ {ds : List D} {vs : List V}, RVs K M H ds vs → ∀ {i : Nat} {d : D}, ds[i]? = some d → ∃ v, vs[i]? = some v ∧ RV K M H d v
  | _, _, .nil, i, d, e => by simp at e
  | _, _, .cons h t, 0, d, e => by
    simp at e
    subst e
    exact ⟨_, rfl, h⟩
  | _, _, .cons h t, i + 1, d, e => by
    obtain ⟨v, e1, e2⟩ := RVs.get t (i := i) (d := d) (by simpa using e)
    exact ⟨v, by simpa using e1, e2⟩
theorem RVs.append : ∀ {ds es : List D} {vs ws : List V}, RVs K M H ds vs → RVs K M H es ws → RVs K M H (ds ++ es) (vs ++ ws)
  | _, _, _, _, .nil, s => s
  | _, _, _, _, .cons h t, s => .cons h (RVs.append t s)
theorem RVs.take : ∀ {ds : List D} {vs : List V} (n : Nat), RVs K M H ds vs → RVs K M H (ds.take n) (vs.take n)
  | _, _, 0, _ => .nil
  | _, _, _ + 1, .nil => .nil
  | _, _, n + 1, .cons h t => .cons h (RVs.take n t)
theorem RVs.drop : ∀ {ds : List D} {vs : List V} (n : Nat), RVs K M H ds vs → RVs K M H (ds.drop n) (vs.drop n)
  | _, _, 0, h => h
  | _, _, _ + 1, .nil => .nil
  | _, _, n + 1, .cons _ t => RVs.drop n t
theorem RVs.set {d : D} {v : V} (h : RV K M H d v) : ∀ {ds : List D} {vs : List V} (n : Nat), RVs K M H ds vs → RVs K M H (ds.set n d) (vs.set n v)
  | _, _, _, .nil => .nil
  | _, _, 0, .cons _ t => .cons h t
  | _, _, n + 1, .cons q t => .cons q (RVs.set h n t)
theorem RVs.eraseIdx : ∀ {ds : List D} {vs : List V} (n : Nat), RVs K M H ds vs → RVs K M H (ds.eraseIdx n) (vs.eraseIdx n)
  | _, _, _, .nil => .nil
  | _, _, 0, .cons _ t => t
  | _, _, n + 1, .cons q t => .cons q (RVs.eraseIdx n t)
theorem RVs.ints : ∀ {ns : List Int} {vs : List V}, RVs K M H (ns.map D.int) vs → vs = ns.map V.int
  | [], _, .nil => rfl
  | n :: ns, _, .cons (.int _) t => by rw [RVs.ints t]; rfl
theorem RVs.of_ints : ∀ ns : List Int, RVs K M H (ns.map D.int) (ns.map V.int)
  | [] => .nil
  | n :: ns => .cons (.int n) (RVs.of_ints ns)
theorem RVs.bls : ∀ {ns : List Bool} {vs : List V}, RVs K M H (ns.map D.bl) vs → vs = ns.map V.bl
  | [], _, .nil => rfl
  | n :: ns, _, .cons (.bl _) t => by rw [RVs.bls t]; rfl
theorem RVs.nil_iff {ds : List D} {vs : List V} (r : RVs K M H ds vs) : ds = [] ↔ vs = [] := by
  cases r with
  | nil => simp
  | cons _ _ => simp
theorem seqS.rd {d : D} {v : V} {ds : List D} (s : RS T K M st H) (r : RV K M H d v) (e : seqS st d = some ds) : ∃ a xs, v = .ref a ∧ (SqL K H a xs ∨ SqT K H a xs) ∧ RVs K M H ds xs := by
  cases r with
  | tup n h q rs => cases e; exact ⟨_, _, rfl, .inr (.inl (.inr ⟨_, h⟩)), rs⟩
  | tuk n h rs => cases e; exact ⟨_, _, rfl, .inr (.inl (.inl h)), rs⟩
  | lst n h rs => cases e; exact ⟨_, _, rfl, .inl (.inl (.inl h)), rs⟩
  | scr n h rs => cases e; exact ⟨_, _, rfl, .inl (.inl h), rs⟩
  | lsk h rs => cases e; exact ⟨_, _, rfl, .inl (h H), rs⟩
  | ref h =>
    obtain ⟨o, e1, ro⟩ := s.atM h
    unfold seqS at e
    simp only [e1] at e
    cases o with
    | lst xs => cases e; obtain ⟨ys, q, rs⟩ := ro; exact ⟨_, ys, rfl, .inl (.inl (.inl q)), rs⟩
    | dK _ => cases e
    | dT _ => cases e
    | lk _ _ _ => cases e
    | lkT _ _ _ => cases e
    | ins _ _ => cases e
  | _ => cases e
end
def dVar (i : Nat) : DTE := fun r st Q => onOO r[i]? fun d => Q d st
def dC (d : D) : DTE := fun _ st Q => Q d st
section
variable {T : List (Addr × Str)} {X : Cx}
theorem de_var {i : Nat} {e : Expr} (h : PE X e (tVar i)) : DE T X e (dVar i) := PE.imp h fun σ H Q ⟨M, r, st, Q', s, re, hf, k⟩ => by
  obtain ⟨d, e, q⟩ := onOO.of hf
  obtain ⟨v, e1, rv⟩ := re.at_ i d e
  exact ⟨v, e1, k.here s rv q⟩
theorem de_const {e : Expr} {d : D} {v : V} (h : PE X e (tC v)) (r : ∀ M H, RV X.K M H d v) : DE T X e (dC d) := PE.imp h fun σ H Q ⟨M, rr, st, Q', s, re, hf, k⟩ => k.here s (r M H) hf
theorem de_int {i j pos} : DE T X (.Constant (.int i) j pos) (dC (.int i)) := de_const pe_int fun _ _ => .int i
theorem de_bl {i j pos} : DE T X (.Constant (.bool i) j pos) (dC (.bl i)) := de_const pe_bl fun _ _ => .bl i
theorem de_str {i j pos} : DE T X (.Constant (.str i) j pos) (dC (.str i)) := de_const pe_str fun _ _ => .str i
theorem de_globI {x : Str} {i : Int} {u : Value} {pos : Pos} (hg : Gl X x) (hm : X.mg x = some u) (r : RelV (.int i) u) (hd : (x == ("__debug__" : Str)) = false := by decide) : DE T X (.Name x pos) (dC (.int i)) :=
  de_const (pe_glob hg hm r hd) fun _ _ => .int i
end
def OpD (T : List (Addr × Str)) (K : Frag) (r : R2) (r' : DR2) : Prop := ∀ (M : Pl) (H : Hp) (st : DSt) (x y : D) (vx vy : V) (Q' : DK) (Q : VK), RS T K M st H → RV K M H x vx → RV K M H y vy → r' x y st Q' → Kn T K M H Q' Q → r vx vy H Q
def dOp (r : DR2) (fa fb : DTE) : DTE := fun ρ st Q => fa ρ st fun x st1 => fb ρ st1 fun y st2 => r x y st2 Q
theorem lift2 {T : List (Addr × Str)} {K : Frag} {r : R2} {r' : DR2} {fa fb : DTE} (o : OpD T K r r') {σ : L2.St} {H : Hp} {Q : VK} (h : lift T K (dOp r' fa fb) σ H Q) : tOp r (lift T K fa) (lift T K fb) σ H Q := by
  obtain ⟨M, ρ, st, Q', s, re, hf, k⟩ := h
  refine ⟨M, ρ, st, _, s, re, hf, fun M1 H1 st1 x vx g1 s1 r1 h1 => ⟨M1, ρ, st1, _, s1, re.grow g1, h1, fun M2 H2 st2 y vy g2 s2 r2 h2 => ?_⟩⟩
  exact o M2 H2 st2 x y vx vy Q' Q s2 (r1.grow g2) r2 h2 (k.grow (g1.trans g2))
section
variable {T : List (Addr × Str)} {X : Cx} {a b c : Expr} {fa fb fc : DTE} {pos : Pos}
theorem de_op {op : Operator} {r : R2} {r' : DR2} (ho : OpR X (binaryOp op) r) (hd : OpD T X.K r r') (ha : DE T X a fa) (hb : DE T X b fb) : DE T X (.BinOp a op b pos) (dOp r' fa fb) :=
  PE.imp (pe_op ho ha hb) fun _ _ _ h => lift2 hd h
theorem de_cmp {op : CmpOp} {r : R2} {r' : DR2} (ho : OpR X (compareOp op) r) (hd : OpD T X.K r r') (ha : DE T X a fa) (hb : DE T X b fb) (hm : behindInMarks op b = false) : DE T X (.Compare a [op] [b] pos) (dOp r' fa fb) :=
  PE.imp (pe_cmpR ho ha hb hm) fun _ _ _ h => lift2 hd h
def dI (C : Int → Int → Prop) (g : Int → Int → D) : DR2 := fun x y st Q => onI x fun i => onI y fun j => C i j ∧ Q (g i j) st
def dI0 (g : Int → Int → D) : DR2 := fun x y st Q => onI x fun i => onI y fun j => Q (g i j) st
theorem opD_I {T : List (Addr × Str)} {K : Frag} {C : Int → Int → Prop} {g : Int → Int → D} {gv : Int → Int → V} (hg : ∀ i j M H, RV K M H (g i j) (gv i j)) : OpD T K (rI C gv) (dI C g) := by
  intro M H st x y vx vy Q' Q s rx ry h k
  obtain ⟨i, rfl, h1⟩ := onI.of h
  obtain ⟨j, rfl, c, h2⟩ := onI.of h1
  cases rx
  cases ry
  exact ⟨i, j, rfl, rfl, c, k.here s (hg i j M H) h2⟩
theorem opD_I0 {T : List (Addr × Str)} {K : Frag} {g : Int → Int → D} {gv : Int → Int → V} (hg : ∀ i j M H, RV K M H (g i j) (gv i j)) : OpD T K (rI0 gv) (dI0 g) := by
  intro M H st x y vx vy Q' Q s rx ry h k
  obtain ⟨i, rfl, h1⟩ := onI.of h
  obtain ⟨j, rfl, h2⟩ := onI.of h1
  cases rx
  cases ry
  exact ⟨i, j, rfl, rfl, k.here s (hg i j M H) h2⟩
abbrev dSub : DR2 := dI0 fun i j => .int (i - j)
abbrev dMod : DR2 := dI (fun _ j => 0 < j) fun i j => .int (i % j)
abbrev dDiv : DR2 := dI CDiv fun i j => .int (i / j)
abbrev dPow : DR2 := dI (fun i j => 0 ≤ j ∧ (Builtin.Int.intBits i : Int) * j ≤ 2 ^ 27) fun i j => .int (i ^ j.toNat)
abbrev dAnd2 : DR2 := dI0 fun i j => .int (Builtin.bitAnd i j)
theorem de_sub (ha : DE T X a fa) (hb : DE T X b fb) : DE T X (.BinOp a .Sub b pos) (dOp dSub fa fb) := de_op op_sub (opD_I0 fun _ _ _ _ => .int _) ha hb
theorem de_mod (ha : DE T X a fa) (hb : DE T X b fb) : DE T X (.BinOp a .Mod b pos) (dOp dMod fa fb) := de_op op_mod (opD_I fun _ _ _ _ => .int _) ha hb
theorem de_div (ha : DE T X a fa) (hb : DE T X b fb) : DE T X (.BinOp a .FloorDiv b pos) (dOp dDiv fa fb) := de_op op_fdiv (opD_I fun _ _ _ _ => .int _) ha hb
theorem de_pow (ha : DE T X a fa) (hb : DE T X b fb) : DE T X (.BinOp a .Pow b pos) (dOp dPow fa fb) := de_op op_powB (opD_I fun _ _ _ _ => .int _) ha hb
theorem de_band (ha : DE T X a fa) (hb : DE T X b fb) : DE T X (.BinOp a .BitAnd b pos) (dOp dAnd2 fa fb) := de_op op_and (opD_I0 fun _ _ _ _ => .int _) ha hb
abbrev dLe : DR2 := dI0 fun i j => .bl (decide (i ≤ j))
abbrev dGt : DR2 := dI0 fun i j => .bl (decide (j < i))
abbrev dGe : DR2 := dI0 fun i j => .bl (decide (j ≤ i))
def dNeg (fa : DTE) : DTE := fun r st Q => fa r st fun x st1 => onI x fun i => Q (.int (-i)) st1
def isNon : D → Bool
  | .non => true
  | _ => false
theorem RV.isNon {K : Frag} {M : Pl} {H : Hp} {d : D} {v : V} (r : RV K M H d v) : decide (v = V.non) = isNon d := by cases r <;> first | rfl | simp [DL.isNon]
def dIsN (fa : DTE) : DTE := fun r st Q => fa r st fun x st1 => Q (.bl (isNon x)) st1
def dNotN (fa : DTE) : DTE := fun r st Q => fa r st fun x st1 => Q (.bl (!isNon x)) st1
def dAndV (fa fb : DTE) : DTE := fun r st Q => fa r st fun x st1 => onB x fun c => if c = true then fb r st1 Q else Q (.bl false) st1
def dOrV (fa fb : DTE) : DTE := fun r st Q => fa r st fun x st1 => onB x fun c => if c = true then Q (.bl true) st1 else fb r st1 Q
def dNotV (fa : DTE) : DTE := fun r st Q => fa r st fun x st1 => onB x fun c => Q (.bl (!c)) st1
theorem de_one {op} (h : DE T X a fa) : DE T X (.BoolOp op [a] pos) fa := pe_one h
theorem de_and {rest : List Expr} (ha : DE T X a fa) (hb : DE T X (.BoolOp .And (b :: rest) pos) fb) : DE T X (.BoolOp .And (a :: b :: rest) pos) (dAndV fa fb) := PE.imp (pe_and ha hb) fun σ H Q ⟨M, ρ, st, Q', s, re, hf, k⟩ =>
  ⟨M, ρ, st, _, s, re, hf, fun M1 H1 st1 x vx g1 s1 r1 h1 => by
    obtain ⟨c, rfl, h⟩ := onB.of h1
    cases r1
    refine ⟨c, rfl, ?_⟩
    cases c with
    | true => rw [if_pos rfl] at h ⊢; exact ⟨M1, ρ, st1, _, s1, re.grow g1, h, k.grow g1⟩
    | false => rw [if_neg (by decide)] at h ⊢; exact (k.grow g1).here s1 (.bl _) h⟩
theorem de_not (ha : DE T X a fa) : DE T X (.UnaryOp .Not a pos) (dNotV fa) := PE.imp (pe_not ha) fun σ H Q ⟨M, ρ, st, Q', s, re, hf, k⟩ =>
  ⟨M, ρ, st, _, s, re, hf, fun M1 H1 st1 x vx g1 s1 r1 h1 => by
    obtain ⟨c, rfl, h⟩ := onB.of h1
    cases r1
    exact ⟨c, rfl, (k.grow g1).here s1 (.bl _) h⟩⟩
def dTest (fa : DTE) : DTT := fun r st Q => fa r st fun x st1 => onB x fun c => Q c st1
theorem liftT_test {T : List (Addr × Str)} {K : Frag} {fa : DTE} {σ : L2.St} {H : Hp} {Q : Bool → Hp → Prop} (h : liftT T K (dTest fa) σ H Q) : tB (lift T K fa) σ H Q := by
  obtain ⟨M, ρ, st, Q', s, re, hf, k⟩ := h
  refine ⟨M, ρ, st, _, s, re, hf, fun M1 H1 st1 x vx g1 s1 r1 h1 => ?_⟩
  obtain ⟨c, rfl, h⟩ := onB.of h1
  cases r1
  exact ⟨c, rfl, k M1 H1 st1 c g1 s1 h⟩
theorem dt_val (h : DE T X a fa) (he : ∀ whole, isTrue a X.env whole = (do let v ← whole; standAt a.pos; holding [v] (truthy v)) := by intro _; rfl) : DT T X a (dTest fa) := PT.imp (pt_val h he) fun _ _ _ z => liftT_test z
theorem dt_cmpR {op : CmpOp} {r : R2} {r' : DR2} (ho : OpR X (compareOp op) r) (hd : OpD T X.K r r') (ha : DE T X a fa) (hb : DE T X b fb) (hm : behindInMarks op b = false) : DT T X (.Compare a [op] [b] pos) (dTest (dOp r' fa fb)) :=
  PT.imp (pt_cmpR ho ha hb hm) fun σ H Q z => by
    obtain ⟨M, ρ, st, Q', s, re, hf, k⟩ := z
    have z2 : lift T X.K (dOp r' fa fb) σ H (fun x H' => ∃ c, x = .bl c ∧ Q c H') := ⟨M, ρ, st, _, s, re, hf, fun M1 H1 st1 x vx g1 s1 r1 h1 => by
      obtain ⟨c, rfl, h⟩ := onB.of h1
      cases r1
      exact ⟨c, rfl, k M1 H1 st1 c g1 s1 h⟩⟩
    exact lift2 hd z2
theorem dt_cmp {op : CmpOp} {t : TE} {f : DTE} (h : PC X op a b t) (i : ∀ σ H Q, lift T X.K f σ H Q → t σ H Q) (h1 : behindInMarks op b = false := by first | exact nobehind _ (by decide) (by decide) | rfl) : DT T X (.Compare a [op] [b] pos) (dTest f) :=
  PT.imp (pt_cmp h h1) fun σ H Q z => by
    obtain ⟨M, ρ, st, Q', s, re, hf, k⟩ := z
    exact i σ H (fun x H' => ∃ c, x = .bl c ∧ Q c H') ⟨M, ρ, st, _, s, re, hf, fun M1 H1 st1 x vx g1 s1 r1 h1 => by
      obtain ⟨c, rfl, h⟩ := onB.of h1
      cases r1
      exact ⟨c, rfl, k M1 H1 st1 c g1 s1 h⟩⟩
def dtAnd (t u : DTT) : DTT := fun r st Q => t r st fun c st1 => if c = true then u r st1 Q else Q false st1
def dtOr (t u : DTT) : DTT := fun r st Q => t r st fun c st1 => if c = true then Q true st1 else u r st1 Q
def dtNot (t : DTT) : DTT := fun r st Q => t r st fun c st1 => Q (!c) st1
variable {tA tB' : DTT}
theorem dw_and1 (ha : DT T X a tA) : DW T X (.BoolOp .And [a] pos) tA := pw_and1 ha
theorem dw_or1 (ha : DT T X a tA) : DW T X (.BoolOp .Or [a] pos) tA := pw_or1 ha
theorem dw_and {rest : List Expr} (ha : DT T X a tA) (hb : DW T X (.BoolOp .And (b :: rest) pos) tB') : DW T X (.BoolOp .And (a :: b :: rest) pos) (dtAnd tA tB') := PW.imp (pw_and ha hb) fun σ H Q ⟨M, ρ, st, Q', s, re, hf, k⟩ =>
  ⟨M, ρ, st, _, s, re, hf, fun M1 H1 st1 c g1 s1 h => by
    cases c with
    | true => rw [if_pos rfl] at h ⊢; exact ⟨M1, ρ, st1, _, s1, re.grow g1, h, fun M2 H2 st2 b g2 s2 q => k M2 H2 st2 b (g1.trans g2) s2 q⟩
    | false => rw [if_neg (by decide)] at h ⊢; exact k M1 H1 st1 false g1 s1 h⟩
theorem dw_or {rest : List Expr} (ha : DT T X a tA) (hb : DW T X (.BoolOp .Or (b :: rest) pos) tB') : DW T X (.BoolOp .Or (a :: b :: rest) pos) (dtOr tA tB') := PW.imp (pw_or ha hb) fun σ H Q ⟨M, ρ, st, Q', s, re, hf, k⟩ =>
  ⟨M, ρ, st, _, s, re, hf, fun M1 H1 st1 c g1 s1 h => by
    cases c with
    | true => rw [if_pos rfl] at h ⊢; exact k M1 H1 st1 true g1 s1 h
    | false => rw [if_neg (by decide)] at h ⊢; exact ⟨M1, ρ, st1, _, s1, re.grow g1, h, fun M2 H2 st2 b g2 s2 q => k M2 H2 st2 b (g1.trans g2) s2 q⟩⟩
theorem dt_not (ha : DT T X a tA) : DT T X (.UnaryOp .Not a pos) (dtNot tA) := PT.imp (pt_not ha) fun σ H Q ⟨M, ρ, st, Q', s, re, hf, k⟩ =>
  ⟨M, ρ, st, _, s, re, hf, fun M1 H1 st1 c g1 s1 h => k M1 H1 st1 _ g1 s1 h⟩
def dIf (t : DTT) (fa fb : DTE) : DTE := fun r st Q => t r st fun c st1 => if c = true then fa r st1 Q else fb r st1 Q
theorem de_if (hc : DT T X c tA) (ha : DE T X a fa) (hb : DE T X b fb) : DE T X (.IfExp c a b pos) (dIf tA fa fb) := PE.imp (pe_ifExp hc ha hb) fun σ H Q ⟨M, ρ, st, Q', s, re, hf, k⟩ =>
  ⟨M, ρ, st, _, s, re, hf, fun M1 H1 st1 c g1 s1 h => by
    cases c with
    | true => rw [if_pos rfl] at h ⊢; exact ⟨M1, ρ, st1, _, s1, re.grow g1, h, k.grow g1⟩
    | false => rw [if_neg (by decide)] at h ⊢; exact ⟨M1, ρ, st1, _, s1, re.grow g1, h, k.grow g1⟩⟩
def daNil : DTA := fun _ st Q => Q [] st
def daCons (f : DTE) (g : DTA) : DTA := fun r st Q => f r st fun d st1 => g r st1 fun ds st2 => Q (d :: ds) st2
theorem da_nil : DA T X [] daNil := PA.imp pa_nil fun σ H Q ⟨M, ρ, st, Q', s, re, hf, k⟩ => k M H st [] [] (Grow.refl M H) s .nil hf
theorem da_cons {e : Expr} {es : List Expr} {f : DTE} {g : DTA} (ha : DE T X e f) (hr : DA T X es g) (hs : starEach (e :: es) X.env = (false, eval e X.env) :: starEach es X.env := by rfl) : DA T X (e :: es) (daCons f g) :=
  PA.imp (pa_cons ha hr hs) fun σ H Q ⟨M, ρ, st, Q', s, re, hf, k⟩ =>
    ⟨M, ρ, st, _, s, re, hf, fun M1 H1 st1 x vx g1 s1 r1 h1 => ⟨M1, ρ, st1, _, s1, re.grow g1, h1, fun M2 H2 st2 ds vs g2 s2 r2 h2 => k M2 H2 st2 _ _ (g1.trans g2) s2 (.cons (r1.grow g2) r2) h2⟩⟩
end
end DL
namespace DL
open PySem PySem.Spec PyProof.Rows L2 LamX PySem.W SL
theorem vals1 {x : V} {us : List Value} (r : Vals [x] us) : ∃ u, us = [u] ∧ RelV x u := Vals.one r
theorem flat_ints : ∀ ns : List Int, (ns.map V.int).all flatV = true
  | [] => rfl
  | n :: ns => by rw [List.map_cons, List.all_cons, flat_ints ns]; rfl
def FzT (H : Hp) (a : Addr) (xs : List V) : Prop := ∃ o : Obj, H a = some (.frz o (.tup xs)) ∧ o.dict = none
theorem FzT.sq {K : PySem.W.Frag} {H : Hp} {a : Addr} {xs : List V} (h : FzT H a xs) : SqT K H a xs := by
  obtain ⟨o, e, _⟩ := h
  exact Or.inl (Or.inr ⟨o, e⟩)
theorem FzT.same {H H' : Hp} {a : Addr} {xs : List V} (h : FzT H a xs) (s : Same H H') : FzT H' a xs := by
  obtain ⟨o, e, d⟩ := h
  exact ⟨o, s _ _ e, d⟩
def rTupF (K : PySem.W.Frag) : List V → Hp → VK → Prop := fun xs H Q => ∃ p ys, xs = [.ref p] ∧ SqL K H p ys ∧ ∀ (l : Addr) (o : Obj), H l = none → o.dict = none → Q (.ref l) (upd H l (.frz o (.tup ys)))
theorem call_tupF {X : Cx} : CallR X (.type "tuple") (rTupF X.K) := by
  intro pins s σ H xs us Q I r h
  obtain ⟨p, ys, rfl, sq, q⟩ := h
  obtain ⟨u, rfl, rx⟩ := vals1 r
  cases rx
  obtain ⟨its, rv, pl, few⟩ := I.list sq
  have len := rv.length
  refine call_tuple_list pl.isList (fun g kp => ?_) (by rw [List.size_toArray]; omega)
  have I1 : Inv X pins σ H { s with heap := g } := I.kept (t' := s.toks) kp
  have new : (g.push { cls := .type "tuple", data := .seq its.toArray }).get? g.objs.size = some { cls := .type "tuple", data := .seq its.toArray } := Heap.get?_push_size _ rfl
  exact ⟨.ref g.objs.size, _, I1.laid (t' := s.toks) (o := .frz { cls := .type "tuple", data := .seq its.toArray } (.tup ys)) (fun b o e => Heap.get?_push_of_some _ e) (Nat.le_refl _) ⟨new, few, its, rv, _, new, rfl, _, rfl⟩, rfl, q _ _ (I1.hok.fresh (Nat.le_refl _)) rfl⟩
def rIndexT (K : PySem.W.Frag) : V → List V → Hp → VK → Prop := fun x xs H Q => ∃ (p : Addr) (ns : List Int) (z : Int) (j : Nat), x = .ref p ∧ xs = [.int z] ∧ SqT K H p (ns.map V.int) ∧ ns[j]? = some z ∧ (∀ m, m < j → ns[m]? ≠ some z) ∧ Q (.int (j : Nat)) H
theorem mt_tup_indexI {X : Cx} : MtR X "tuple.index" (rIndexT X.K) := by
  intro pins s σ H x xs v us Q I rx rs h
  obtain ⟨p, ns, z, j, rfl, rfl, sq, hj, no, q⟩ := h
  cases rx
  obtain ⟨u, rfl, t, rfl⟩ := vals1 rs
  obtain ⟨its, r, ⟨⟨cls, dd, dt, sl⟩, ho, hc, n, hd⟩, hz⟩ := I.tuple sq
  simp only at hc hd
  subst hc
  subst hd
  have len : its.toArray.size = ns.length := by rw [List.size_toArray, ← r.length, List.length_map]
  have lj : j < its.toArray.size := by rw [len]; exact (List.getElem?_eq_some_iff.mp hj).1
  have item : ∀ (m : Nat) (lm : m < its.toArray.size), ∃ i t', ns[m]? = some i ∧ its.toArray[m] = Value.int i t' := by
    intro m lm
    have lm' : m < ns.length := by omega
    obtain ⟨u, hu, t', e⟩ := r.get (i := m) (x := .int ns[m]) (by simp [lm'])
    refine ⟨ns[m], t', List.getElem?_eq_getElem lm', ?_⟩
    rw [← e, ← (List.getElem?_eq_some_iff.mp hu).2]
    simp
  refine call_meets PySem.F.slot_tuple_index ⟨_, ho, rfl⟩ PySem.F.entry_tuple_index (PySem.F.args_tuple_index_2 _ _) (TI.tuple_indexAt p its.toArray n dd sl (.int z t) (eqU (.int z)) j lj ?_ ?_)
    ⟨ho, fun y hy => mem_eqAt (x := .int z) ⟨t, rfl⟩ rfl r (flat_ints ns) y (by simpa using hy), ⟨.int (j : Nat), H, I.tok _, ⟨_, rfl⟩, q⟩⟩
  · obtain ⟨i, t', h1, h2⟩ := item j lj
    rw [hj] at h1
    cases h1
    rw [h2]
    show (z == z) = true
    exact beq_self_eq_true z
  · intro m lm lt
    obtain ⟨i, t', h1, h2⟩ := item m lm
    rw [h2]
    show (i == z) = false
    refine beq_eq_false_iff_ne.mpr fun e => ?_
    rw [e] at h1
    exact no m lt h1

def rCatF (K : Frag) : R2 := fun x y H Q => ∃ a b xs ys, x = .ref a ∧ y = .ref b ∧ SqT K H a xs ∧ SqT K H b ys ∧ xs.length + ys.length ≤ sizeLine ∧
  (xs = [] → Q (.ref b) H) ∧ (xs ≠ [] → ys = [] → Q (.ref a) H) ∧ (xs ≠ [] → ys ≠ [] → ∀ (p : Addr) (ob : Obj), H p = none → ob.dict = none → Q (.ref p) (upd H p (.frz ob (.tup (xs ++ ys)))))
theorem op_catF {X : Cx} : OpR X (binaryOp .Add) (rCatF X.K) := by
  intro pins s σ H x y v u Q I rx ry h
  obtain ⟨a, b, xs, ys, rfl, rfl, ha, hb, hz, q0, q1, q2⟩ := h
  cases rx
  cases ry
  obtain ⟨its, r1, p1, _⟩ := I.tuple ha
  obtain ⟨its2, r2, p2, _⟩ := I.tuple hb
  by_cases e : xs = []
  · have e' := r1.nil_iff.mpr e
    subst e'
    exact cat_tup0 p1 p2 ⟨.ref b, H, I, rfl, q0 e⟩
  · refine HT.cat_tup p1 p2 (fun z => e (r1.nil_iff.mp z)) (fun z => ⟨.ref a, H, I, rfl, q1 e (r2.nil_iff.mp z)⟩) (fun z => ?_) (by rw [← r1.length, ← r2.length]; exact hz)
    refine ⟨.ref s.heap.objs.size, _, I.laid (t' := s.toks) (o := .frz { cls := .type "tuple", data := .seq (its ++ its2).toArray } (.tup (xs ++ ys))) (fun b ob q => Heap.get?_push_of_some _ q) (Nat.le_refl _) ?_, rfl, q2 e (fun w => z (r2.nil_iff.mpr w)) _ _ (I.hok.fresh (Nat.le_refl _)) rfl⟩
    exact ⟨Heap.get?_push_size _ rfl, by rw [List.length_append]; exact hz, _, r1.append r2, IsTup.new _ _⟩
def rSlF (K : Frag) : V → Option Int → Option Int → Hp → VK → Prop := fun x lo hi H Q => ∃ a xs, x = .ref a ∧ SqT K H a xs ∧
  (HT.sIx xs.length 0 lo = 0 ∧ HT.sIx xs.length xs.length hi = xs.length → Q (.ref a) H) ∧ (¬ (HT.sIx xs.length 0 lo = 0 ∧ HT.sIx xs.length xs.length hi = xs.length) → ∀ (p : Addr) (ob : Obj), H p = none → ob.dict = none → Q (.ref p) (upd H p (.frz ob (.tup (cutV xs lo hi)))))
theorem sl_F {X : Cx} : SlR X (rSlF X.K) := by
  intro pins s σ H x v vl vu lo hi sl Q I rx hs pl pu h
  obtain ⟨a, xs, rfl, hx, qw, q⟩ := h
  cases rx
  obtain ⟨its, r, ht, hz⟩ := I.tuple hx
  have hlen : its.toArray.size = xs.length := by rw [List.size_toArray]; exact r.length.symm
  refine ⟨"tuple", _, PyProof.Rows.slot_tuple_getitem.lookup, ht.typeIs, ?_⟩
  by_cases hw : HT.sIx xs.length 0 lo = 0 ∧ HT.sIx xs.length xs.length hi = xs.length
  · exact getItem_tuple_whole ht hs pl pu (by rw [hlen]; exact hw) ⟨.ref a, H, I, rfl, qw hw⟩
  · refine HT.getItem_tuple_cut ht hs pl pu (by rw [hlen]; exact hw) ?_ (by rw [hlen]; exact hz)
    rw [hlen]
    refine ⟨.ref s.heap.objs.size, _, I.laid (t' := s.toks) (o := .frz { cls := .type "tuple", data := .seq ((its.drop (HT.sIx xs.length 0 lo)).take (HT.sIx xs.length xs.length hi - HT.sIx xs.length 0 lo)).toArray } (.tup (cutV xs lo hi))) (fun b ob q => Heap.get?_push_of_some _ q) (Nat.le_refl _) ?_, rfl, q hw _ _ (I.hok.fresh (Nat.le_refl _)) rfl⟩
    exact ⟨Heap.get?_push_size _ rfl, Nat.le_trans (cutV_length xs lo hi) hz, _, (r.drop (HT.sIx xs.length 0 lo)).take (HT.sIx xs.length xs.length hi - HT.sIx xs.length 0 lo), IsTup.new _ _⟩
end DL
namespace DL
open PySem PySem.Spec PyProof.Rows L2 LamX PySem.W SL
def okLen (ds : List D) (P : Prop) : Prop := match ds with
  | [] => P
  | [_] => P
  | [_, _] => P
  | [_, _, _] => P
  | [_, _, _, _] => P
  | [_, _, _, _, _] => P
  | _ => ds.length ≤ sizeLine ∧ P
theorem okLen.of {ds : List D} {P : Prop} (h : okLen ds P) : ds.length ≤ sizeLine ∧ P := by
  unfold okLen at h
  split at h <;> first | exact h | exact ⟨Nat.le_of_lt (small1000 (by simp)), h⟩
section
variable {T : List (Addr × Str)} {K : Frag} {M : Pl} {H : Hp} {st : DSt} {ds : List D} {xs : List V} {Q' : DK} {Q : VK} {p : Addr}
theorem Kn.tup {ob : Obj} (k : Kn T K M H Q' Q) (s : RS T K M st H) (r : RVs K M H ds xs) (np : H p = none) (hd : ob.dict = none) (q : Q' (.tup ds) st) : Q (.ref p) (upd H p (.frz ob (.tup xs))) :=
  k M _ st _ _ (Grow.new s.hid np) (s.new np) (.tup (s.notin np) upd_same hd (r.grow (Grow.new s.hid np))) q
theorem Kn.tuk (k : Kn T K M H Q' Q) (s : RS T K M st H) (r : RVs K M H ds xs) (np : H p = none) (q : Q' (.tuk ds) st) : Q (.ref p) (upd H p (.tup xs)) :=
  k M _ st _ _ (Grow.new s.hid np) (s.new np) (.tuk (s.notin np) upd_same (r.grow (Grow.new s.hid np))) q
theorem Kn.lst (k : Kn T K M H Q' Q) (s : RS T K M st H) (r : RVs K M H ds xs) (np : H p = none) (q : Q' (.lst ds) st) : Q (.ref p) (upd H p (.lst xs)) :=
  k M _ st _ _ (Grow.new s.hid np) (s.new np) (.lst (s.notin np) upd_same (r.grow (Grow.new s.hid np))) q
theorem Kn.own (k : Kn T K M H Q' Q) (s : RS T K M st H) (r : RVs K M H ds xs) (np : H p = none) (q : Q' (.ref st.length) (st ++ [.lst ds])) : Q (.ref p) (upd H p (.lst xs)) :=
  k (M.app [p]) _ (st ++ [.lst ds]) _ _ (Grow.place s.hid np) (s.place (u := .lst ds) np ⟨xs, upd_same, r.grow (Grow.place s.hid np)⟩) (.ref (by unfold Pl.at_; show (M.m ++ [p])[M.h + st.length]? = some p; rw [← s.len]; simp)) q
end
section
variable {T : List (Addr × Str)} {X : Cx} {a b c : Expr} {es : List Expr} {fa fb fc : DTE} {fs : DTA} {pos : Pos}
def tTupF (t : TA) : TE := fun σ H Q => t σ H fun xs H1 => xs.length ≤ sizeLine ∧ ∀ (p : Addr) (ob : Obj), H1 p = none → ob.dict = none → Q (.ref p) (upd H1 p (.frz ob (.tup xs)))
theorem pe_tupF {t : TA} {x1} (h : PA X es t) : PE X (.Tuple es x1 pos) (tTupF t) := by
  refine ⟨fun pins s σ H Q I hq => ?_⟩
  refine wpAny_Tuple_spliced (thn (h.run pos pins s σ H _ I hq) fun us s1 ⟨xs, H1, I1, r, z, q⟩ => ⟨by rw [← r.length]; exact z, ?_⟩)
  have hf : H1 s1.heap.objs.size = none := I1.hok.fresh (Nat.le_refl _)
  refine ⟨.ref s1.heap.objs.size, _, I1.laid (t' := s1.toks) (o := .frz { cls := .type "tuple", data := .seq us.toArray } (.tup xs)) (fun b u e => Heap.get?_push_of_some _ e) (Nat.le_refl _) ?_, rfl, q _ _ hf rfl⟩
  exact ⟨Heap.get?_push_size _ rfl, z, us, r, ⟨_, Heap.get?_push_size _ rfl, rfl, _, rfl⟩⟩
def dTup (f : DTA) : DTE := fun r st Q => f r st fun ds st1 => okLen ds (Q (.tup ds) st1)
def dLst (f : DTA) : DTE := fun r st Q => f r st fun ds st1 => okLen ds (Q (.lst ds) st1)
def dLstN (f : DTA) : DTE := fun r st Q => f r st fun ds st1 => okLen ds (Q (.ref st1.length) (st1 ++ [.lst ds]))
theorem de_tup {x1} (h : DA T X es fs) : DE T X (.Tuple es x1 pos) (dTup fs) := PE.imp (pe_tupF h) fun σ H Q ⟨M, ρ, st, Q', s, re, hf, k⟩ =>
  ⟨M, ρ, st, _, s, re, hf, fun M1 H1 st1 ds vs g1 s1 r1 h1 => by
    obtain ⟨z, q⟩ := okLen.of h1
    exact ⟨by rw [← r1.length]; exact z, fun p ob np hd => (k.grow g1).tup s1 r1 np hd q⟩⟩
theorem de_lst (h : DA T X es fs) : DE T X (.List es pos) (dLst fs) := PE.imp (pe_lst h) fun σ H Q ⟨M, ρ, st, Q', s, re, hf, k⟩ =>
  ⟨M, ρ, st, _, s, re, hf, fun M1 H1 st1 ds vs g1 s1 r1 h1 => by
    obtain ⟨z, q⟩ := okLen.of h1
    exact ⟨by rw [← r1.length]; exact z, fun p np => (k.grow g1).lst s1 r1 np q⟩⟩
theorem de_lstN (h : DA T X es fs) : DE T X (.List es pos) (dLstN fs) := PE.imp (pe_lst h) fun σ H Q ⟨M, ρ, st, Q', s, re, hf, k⟩ =>
  ⟨M, ρ, st, _, s, re, hf, fun M1 H1 st1 ds vs g1 s1 r1 h1 => by
    obtain ⟨z, q⟩ := okLen.of h1
    exact ⟨by rw [← r1.length]; exact z, fun p np => (k.grow g1).own s1 r1 np q⟩⟩
def CallD (T : List (Addr × Str)) (K : Frag) (r : List V → Hp → VK → Prop) (r' : DRs) : Prop := ∀ (M : Pl) (H : Hp) (st : DSt) (ds : List D) (vs : List V) (Q' : DK) (Q : VK), RS T K M st H → RVs K M H ds vs → r' ds st Q' → Kn T K M H Q' Q → r vs H Q
def dCB (r' : DRs) (fs : DTA) : DTE := fun ρ st Q => fs ρ st fun ds st1 => r' ds st1 Q
theorem lift_cb {K : Frag} {r : List V → Hp → VK → Prop} {r' : DRs} (hd : CallD T K r r') {σ : L2.St} {H : Hp} {Q : VK} (h : lift T K (dCB r' fs) σ H Q) : tCB r (liftA T K fs) σ H Q := by
  obtain ⟨M, ρ, st, Q', s, re, hf, k⟩ := h
  exact ⟨M, ρ, st, _, s, re, hf, fun M1 H1 st1 ds vs g1 s1 r1 h1 => hd M1 H1 st1 ds vs Q' Q s1 r1 h1 (k.grow g1)⟩
theorem de_callB {id : String} {x : Str} {p : Pos} {e : Expr} {r : List V → Hp → VK → Prop} {r' : DRs} (hc : CallR X (.builtin id) r) (hd : CallD T X.K r r') (hg : Gl X x) (hm : X.mg x = none) (hv : bootBuiltins x = some (.builtin id)) (ha : DA T X (e :: es) fs)
    (hn : x ≠ "__name__" := by decide) (hdb : (x == ("__debug__" : Str)) = false := by decide)
    (he : starEach (e :: es) X.env = (false, eval e X.env) :: starEach es X.env := by rfl) (hpl : (backTo pos (starEach es X.env)).any (·.1) = false := by rfl) : DE T X (.Call (.Name x p) (e :: es) [] pos) (dCB r' fs) :=
  PE.imp (pe_callB hc hg hm hv ha hn hdb he hpl) fun _ _ _ h => lift_cb hd h
theorem de_callTy {id : String} {x : Str} {p : Pos} {e : Expr} {r : List V → Hp → VK → Prop} {r' : DRs} (hc : CallR X (.type id) r) (hd : CallD T X.K r r') (hg : Gl X x) (hm : X.mg x = none) (hv : bootBuiltins x = some (.type id)) (ha : DA T X (e :: es) fs)
    (hn : x ≠ "__name__" := by decide) (hdb : (x == ("__debug__" : Str)) = false := by decide)
    (he : starEach (e :: es) X.env = (false, eval e X.env) :: starEach es X.env := by rfl) (hpl : (backTo pos (starEach es X.env)).any (·.1) = false := by rfl) : DE T X (.Call (.Name x p) (e :: es) [] pos) (dCB r' fs) :=
  PE.imp (pe_callTy hc hg hm hv ha hn hdb he hpl) fun _ _ _ h => lift_cb hd h
def on1 (ds : List D) (k : D → Prop) : Prop := match ds with | [x] => k x | _ => False
def on2 (ds : List D) (k : D → D → Prop) : Prop := match ds with | [x, y] => k x y | _ => False
theorem on1.of {ds : List D} {k : D → Prop} (h : on1 ds k) : ∃ x, ds = [x] ∧ k x := by
  match ds, h with
  | [x], h => exact ⟨x, rfl, h⟩
  | [], h => exact h.elim
  | _ :: _ :: _, h => exact h.elim
theorem on2.of {ds : List D} {k : D → D → Prop} (h : on2 ds k) : ∃ x y, ds = [x, y] ∧ k x y := by
  match ds, h with
  | [x, y], h => exact ⟨x, y, rfl, h⟩
  | [], h => exact h.elim
  | [_], h => exact h.elim
  | _ :: _ :: _ :: _, h => exact h.elim
theorem RVs.one {K : Frag} {M : Pl} {H : Hp} {x : D} {vs : List V} (r : RVs K M H [x] vs) : ∃ v, vs = [v] ∧ RV K M H x v := by
  cases r with
  | cons h t => cases t; exact ⟨_, rfl, h⟩
theorem RVs.two {K : Frag} {M : Pl} {H : Hp} {x y : D} {vs : List V} (r : RVs K M H [x, y] vs) : ∃ v w, vs = [v, w] ∧ RV K M H x v ∧ RV K M H y w := by
  cases r with
  | cons h t => obtain ⟨w, rfl, q⟩ := t.one; exact ⟨_, _, rfl, h, q⟩
def dLen : DRs := fun ds st Q => on1 ds fun x => onO (seqS st x) fun xs => Q (.int xs.length) st
theorem callD_len {K : Frag} : CallD T K (fun xs H Q => ∃ p ys, xs = [.ref p] ∧ (SqL K H p ys ∨ SqT K H p ys) ∧ Q (.int ys.length) H) dLen := by
  intro M H st ds vs Q' Q s r h k
  obtain ⟨x, rfl, h⟩ := on1.of h
  obtain ⟨xs, e, h⟩ := onO.of h
  obtain ⟨v, rfl, rv⟩ := r.one
  obtain ⟨p, ys, rfl, sq, rs⟩ := seqS.rd s rv e
  refine ⟨p, ys, rfl, sq, ?_⟩
  rw [← rs.length]
  exact k.here s (.int _) h
def dAbs : DRs := fun ds st Q => on1 ds fun x => onI x fun i => Q (.int (if i < 0 then -i else i)) st
theorem callD_abs {K : Frag} : CallD T K (fun xs H Q => ∃ i, xs = [V.int i] ∧ Q (.int (if i < 0 then -i else i)) H) dAbs := by
  intro M H st ds vs Q' Q s r h k
  obtain ⟨x, rfl, h⟩ := on1.of h
  obtain ⟨i, rfl, h⟩ := onI.of h
  obtain ⟨v, rfl, rv⟩ := r.one
  cases rv
  exact ⟨i, rfl, k.here s (.int _) h⟩
def d2I (g : Int → Int → Int) : DRs := fun ds st Q => on2 ds fun x y => onI x fun i => onI y fun j => Q (.int (g i j)) st
theorem callD_2I {K : Frag} {g : Int → Int → Int} : CallD T K (fun xs H Q => ∃ i j, xs = [V.int i, V.int j] ∧ Q (.int (g i j)) H) (d2I g) := by
  intro M H st ds vs Q' Q s r h k
  obtain ⟨x, y, rfl, h⟩ := on2.of h
  obtain ⟨i, rfl, h⟩ := onI.of h
  obtain ⟨j, rfl, h⟩ := onI.of h
  obtain ⟨v, w, rfl, rv, rw'⟩ := r.two
  cases rv
  cases rw'
  exact ⟨i, j, rfl, k.here s (.int _) h⟩
abbrev dMax2 : DRs := d2I fun i j => if j > i then j else i
abbrev dMin2 : DRs := d2I fun i j => if j < i then j else i
def dTuple : DRs := fun ds st Q => on1 ds fun x => match x with
  | .tup xs => Q (.tup xs) st
  | .tuk xs => Q (.tuk xs) st
  | .lst xs => Q (.tup xs) st
  | .ref n => onO (seqS st (.ref n)) fun xs => Q (.tup xs) st
  | _ => False
def rTup2 (K : Frag) : List V → Hp → VK → Prop := fun xs H Q => rTupF K xs H Q ∨ ∃ a ys, xs = [.ref a] ∧ SqT K H a ys ∧ Q (.ref a) H
theorem call_tup2 : CallR X (.type "tuple") (rTup2 X.K) := CallR.or call_tupF call_tupleT
theorem callD_tup {K : Frag} : CallD T K (rTup2 K) dTuple := by
  intro M H st ds vs Q' Q s r h k
  obtain ⟨x, rfl, h⟩ := on1.of h
  obtain ⟨v, rfl, rv⟩ := r.one
  cases x with
  | tup xs => cases rv with | tup n e q rs => exact .inr ⟨_, _, rfl, .inl (.inr ⟨_, e⟩), k.here s (.tup n e q rs) h⟩
  | tuk xs => cases rv with | tuk n e rs => exact .inr ⟨_, _, rfl, .inl (.inl e), k.here s (.tuk n e rs) h⟩
  | lst xs => cases rv with
    | lst n e rs => exact .inl ⟨_, _, rfl, .inl (.inl e), fun l o nl hd => k.tup s rs nl hd h⟩
  | ref n =>
    obtain ⟨xs, e, h⟩ := onO.of h
    have rr := rv
    cases rv with
    | ref hm =>
      obtain ⟨o, e1, ro⟩ := s.atM hm
      unfold seqS at e
      simp only [e1] at e
      cases o with
      | lst zs => cases e; obtain ⟨ys, q, rs⟩ := ro; exact .inl ⟨_, ys, rfl, .inl (.inl q), fun l o nl hd => k.tup s rs nl hd h⟩
      | dK _ => cases e
      | dT _ => cases e
      | lk _ _ _ => cases e
      | lkT _ _ _ => cases e
      | ins _ _ => cases e
  | _ => exact h.elim
def dListT : DRs := fun ds st Q => on1 ds fun x => onO (seqS st x) fun xs => Q (.lst xs) st
def dListN : DRs := fun ds st Q => on1 ds fun x => onO (seqS st x) fun xs => Q (.ref st.length) (st ++ [.lst xs])
theorem callD_listN {K : Frag} : CallD T K (fun xs H Q => ∃ p ys, xs = [.ref p] ∧ (SqL K H p ys ∨ SqT K H p ys) ∧ ∀ l, H l = none → Q (.ref l) (upd H l (.lst ys))) dListN := by
  intro M H st ds vs Q' Q s r h k
  obtain ⟨x, rfl, h⟩ := on1.of h
  obtain ⟨xs, e, h⟩ := onO.of h
  obtain ⟨v, rfl, rv⟩ := r.one
  obtain ⟨p, ys, rfl, sq, rs⟩ := seqS.rd s rv e
  exact ⟨p, ys, rfl, sq, fun l nl => k.own s rs nl h⟩
def boolsD : List D → Option (List Bool)
  | [] => some []
  | .bl b :: r => (boolsD r).map (b :: ·)
  | _ => none
theorem boolsD_of : ∀ {ds : List D} {bs : List Bool}, boolsD ds = some bs → ds = bs.map D.bl
  | [], bs, h => by cases h; rfl
  | .bl b :: r, bs, h => by
    unfold boolsD at h
    cases q : boolsD r with
    | none => rw [q] at h; cases h
    | some cs => rw [q] at h; cases h; rw [boolsD_of q]; rfl
  | .non :: r, bs, h => by cases h
  | .int _ :: r, bs, h => by cases h
  | .str _ :: r, bs, h => by cases h
  | .tup _ :: r, bs, h => by cases h
  | .tuk _ :: r, bs, h => by cases h
  | .lst _ :: r, bs, h => by cases h
  | .scr _ :: r, bs, h => by cases h
  | .ref _ :: r, bs, h => by cases h
theorem boolsD_map {α : Type} (g : α → Bool) : ∀ xs : List α, boolsD (xs.map fun x => D.bl (g x)) = some (xs.map g)
  | [] => rfl
  | x :: r => by rw [List.map_cons, List.map_cons]; unfold boolsD; rw [boolsD_map g r]; rfl
def dAllR (g : List Bool → Bool) : DRs := fun ds st Q => on1 ds fun x => match x with
  | .lst xs => onO (boolsD xs) fun bs => Q (.bl (g bs)) st
  | _ => False
theorem callD_all {K : Frag} (g : List Bool → Bool) : CallD T K (fun vs H Q => ∃ (a : Addr) (bs : List Bool), vs = [V.ref a] ∧ SqL K H a (bs.map V.bl) ∧ Q (.bl (g bs)) H) (dAllR g) := by
  intro M H st ds vs Q' Q s r h k
  obtain ⟨x, rfl, h⟩ := on1.of h
  obtain ⟨v, rfl, rv⟩ := r.one
  cases x with
  | lst xs =>
    obtain ⟨bs, e, h2⟩ := onO.of h
    have z := boolsD_of e
    subst z
    cases rv with
    | lst n e1 rs => have z := rs.bls; subst z; exact ⟨_, bs, rfl, .inl (.inl e1), k.here s (.bl _) h2⟩
  | _ => exact h.elim
abbrev dAll : DRs := dAllR fun bs => bs.all id
def dIx : DR2 := fun x y st Q => onO (seqS st x) fun ds => onI y fun i => onO (atI ds i) fun d => Q d st
theorem RVs.atI {K : Frag} {M : Pl} {H : Hp} {ds : List D} {xs : List V} (r : RVs K M H ds xs) {i : Int} {d : D} (h : L2.atI ds i = some d) : ∃ v, L2.atI xs i = some v ∧ RV K M H d v := by
  unfold L2.atI at h ⊢
  rw [← r.length]
  cases q : ixN ds.length i with
  | none => rw [q] at h; cases h
  | some j =>
    rw [q] at h
    obtain ⟨v, e, rv⟩ := r.get (i := j) (d := d) h
    exact ⟨v, e, rv⟩
theorem opD_ix {K : Frag} : OpD T K (rIx K) dIx := by
  intro M H st x y vx vy Q' Q s rx ry h k
  obtain ⟨ds, e, h⟩ := onO.of h
  obtain ⟨i, rfl, h⟩ := onI.of h
  obtain ⟨d, e2, h⟩ := onO.of h
  obtain ⟨p, xs, rfl, sq, rs⟩ := seqS.rd s rx e
  cases ry
  obtain ⟨v, e3, rv⟩ := rs.atI e2
  rcases sq with sq | sq
  · exact .inl ⟨p, xs, i, v, rfl, rfl, sq, e3, k.here s rv h⟩
  · exact .inr (.inl ⟨p, xs, i, v, rfl, rfl, sq, e3, k.here s rv h⟩)
theorem de_ix (ha : DE T X a fa) (hb : DE T X b fb) (hs : PlainIx b) : DE T X (.Subscript a b pos) (dOp dIx fa fb) := PE.imp (pe_ix ix_seq ha hb hs) fun _ _ _ h => lift2 opD_ix h
end
end DL
namespace DL
open PySem PySem.Spec PyProof.Rows L2 LamX PySem.W SL
mutual
def pdT : D → Option PyData
  | .non => some .none
  | .bl b => some (.bool b)
  | .int i => some (.int i)
  | .str x => some (.str x)
  | .tup ds => (pdTs ds).map .tuple
  | .tuk ds => (pdTs ds).map .tuple
  | .lst ds => (pdTs ds).map .list
  | .scr ds => (pdTs ds).map .list
  | .ref _ => none
def pdTs : List D → Option (List PyData)
  | [] => some []
  | d :: ds => match pdT d with
    | none => none
    | some p => (pdTs ds).map (p :: ·)
end
def pdS (st : DSt) : D → Option PyData
  | .ref n => match st[n]? with
    | some (.lst ds) => (pdTs ds).map .list
    | _ => none
  | d => pdT d
mutual
theorem pdT_dp {K : Frag} {M : Pl} {H : Hp} : ∀ {d : D} {v : V} {p : PyData}, RV K M H d v → pdT d = some p → Dp K H v p
  | _, _, _, .non, e => by simp only [pdT, Option.some.injEq] at e; subst e; exact .non
  | _, _, _, .bl b, e => by simp only [pdT, Option.some.injEq] at e; subst e; exact .bl b
  | _, _, _, .int b, e => by simp only [pdT, Option.some.injEq] at e; subst e; exact .int b
  | _, _, _, .str b, e => by simp only [pdT, Option.some.injEq] at e; subst e; exact .str b
  | _, _, _, .tup (ds := ds) n h q r, e => by
    simp only [pdT, Option.map_eq_some_iff] at e
    obtain ⟨ps, e, rfl⟩ := e
    exact .tup (.inl (.inr ⟨_, h⟩)) (pdTs_dp r e)
  | _, _, _, .tuk n h r, e => by
    simp only [pdT, Option.map_eq_some_iff] at e
    obtain ⟨ps, e, rfl⟩ := e
    exact .tup (.inl (.inl h)) (pdTs_dp r e)
  | _, _, _, .lst n h r, e => by
    simp only [pdT, Option.map_eq_some_iff] at e
    obtain ⟨ps, e, rfl⟩ := e
    exact .lst (.inl (.inl h)) (pdTs_dp r e)
  | _, _, _, .scr n h r, e => by
    simp only [pdT, Option.map_eq_some_iff] at e
    obtain ⟨ps, e, rfl⟩ := e
    exact .lst (.inl h) (pdTs_dp r e)
  | _, _, _, .lsk h r, e => by
    simp only [pdT, Option.map_eq_some_iff] at e
    obtain ⟨ps, e, rfl⟩ := e
    exact .lst (h H) (pdTs_dp r e)
  | _, _, _, .ref h, e => by simp [pdT] at e
theorem pdTs_dp {K : Frag} {M : Pl} {H : Hp} : ∀ {d : List D} {v : List V} {p : List PyData}, RVs K M H d v → pdTs d = some p → DpAll K H v p
  | _, _, _, .nil, e => by simp only [pdTs, Option.some.injEq] at e; subst e; exact .nil
  | _, _, _, .cons (d := d) h t, e => by
    unfold pdTs at e
    cases q : pdT d with
    | none => rw [q] at e; cases e
    | some y =>
      rw [q] at e
      simp only [Option.map_eq_some_iff] at e
      obtain ⟨ps, e, rfl⟩ := e
      exact .cons (pdT_dp h q) (pdTs_dp t e)
end
theorem pdS_dp {T : List (Addr × Str)} {K : Frag} {M : Pl} {H : Hp} {st : DSt} {d : D} {v : V} {p : PyData} (s : RS T K M st H) (r : RV K M H d v) (e : pdS st d = some p) : Dp K H v p := by
  cases d with
  | ref n =>
    cases r with
    | ref h =>
      obtain ⟨o, e1, ro⟩ := s.atM h
      unfold pdS at e
      simp only [e1] at e
      cases o with
      | lst zs =>
        simp only [Option.map_eq_some_iff] at e
        obtain ⟨ps, e, rfl⟩ := e
        obtain ⟨ys, q, rs⟩ := ro
        exact .lst (.inl (.inl q)) (pdTs_dp rs e)
      | dK _ => cases e
      | dT _ => cases e
      | lk _ _ _ => cases e
      | lkT _ _ _ => cases e
      | ins _ _ => cases e
  | _ => exact pdT_dp r e
structure El (k c : Nat) (d : PyData) : Prop where
  sh : d.showable = true
  dp : d.depth ≤ k
  ln : d.shown.length ≤ c
  cl : d.canLay0 = true
theorem El.mono {k c k' c' : Nat} {d : PyData} (h : El k c d) (hk : k ≤ k') (hc : c ≤ c') : El k' c' d := ⟨h.sh, Nat.le_trans h.dp hk, Nat.le_trans h.ln hc, h.cl⟩
theorem el_all {k c : Nat} : ∀ {ds : List PyData}, (∀ x ∈ ds, El k c x) → PyData.showableAll ds = true ∧ PyData.depthAll ds ≤ k ∧ ((PyData.shownAll ds).map (·.length)).sum ≤ ds.length * c ∧ (PyData.shownAll ds).length = ds.length ∧ PyData.canLayAll0 ds = true
  | [], _ => by simp [PyData.showableAll, PyData.depthAll, PyData.shownAll, PyData.canLayAll0]
  | d :: ds, h => by
    obtain ⟨a, b, e, f, g⟩ := el_all (ds := ds) fun x hx => h x (List.mem_cons_of_mem _ hx)
    have h1 := h d List.mem_cons_self
    refine ⟨?_, ?_, ?_, ?_, ?_⟩
    · simp only [PyData.showableAll, h1.sh, a, Bool.and_self]
    · simp only [PyData.depthAll]
      have := h1.dp
      omega
    · simp only [PyData.shownAll, List.map_cons, List.sum_cons, List.length_cons]
      have := h1.ln
      rw [Nat.succ_mul]
      omega
    · simp only [PyData.shownAll, List.length_cons, f]
    · simp only [PyData.canLayAll0, h1.cl, g, Bool.and_self]
theorem el_tuple {k c m : Nat} {ds : List PyData} (h : ∀ x ∈ ds, El k c x) (l : ds.length ≤ m) : El (k + 1) (m * (c + 2) + 3) (.tuple ds) := by
  obtain ⟨a, b, e, f, g⟩ := el_all h
  have z := tupleText_len_le (PyData.shownAll ds)
  have z1 : ds.length * c ≤ m * c := Nat.mul_le_mul_right c l
  refine ⟨by simp only [PyData.showable]; exact a, by simp only [PyData.depth]; omega, ?_, by simp only [PyData.canLay0]; exact g⟩
  simp only [PyData.shown]
  rw [f] at z
  rw [Nat.mul_add]
  omega
theorem el_list {k c m : Nat} {ds : List PyData} (h : ∀ x ∈ ds, El k c x) (l : ds.length ≤ m) : El (k + 1) (m * (c + 2) + 3) (.list ds) := by
  obtain ⟨a, b, e, f, g⟩ := el_all h
  have z := listText_len_le (PyData.shownAll ds)
  have z1 : ds.length * c ≤ m * c := Nat.mul_le_mul_right c l
  refine ⟨by simp only [PyData.showable]; exact a, by simp only [PyData.depth]; omega, ?_, by simp only [PyData.canLay0]; exact g⟩
  simp only [PyData.shown]
  rw [f] at z
  rw [Nat.mul_add]
  omega
theorem el_int {i : Int} (h0 : -100 ≤ i) (h1 : i ≤ 1000) : El 0 20 (.int i) := by
  refine ⟨?_, by simp [PyData.depth], ?_, by simp [PyData.canLay0]⟩
  · simp only [PyData.showable]
    refine decide_eq_true ?_
    have z : i.natAbs ≤ 1000 := by omega
    have y : i.natAbs.log2 ≤ i.natAbs := Nat.log2_le_self _
    omega
  · have all : ((List.range 1101).all fun n => decide ((PyData.shown (.int ((n : Int) - 100))).length ≤ 20)) = true := by decide +kernel
    have z := List.all_eq_true.mp all (i + 100).toNat (List.mem_range.mpr (by omega))
    have e : (((i + 100).toNat : Nat) : Int) - 100 = i := by omega
    rw [e] at z
    exact of_decide_eq_true z
def Sm (k c : Nat) (d : D) : Prop := ∃ p, pdT d = some p ∧ El k c p
theorem Sm.mono {k c k' c' : Nat} {d : D} (h : Sm k c d) (hk : k ≤ k') (hc : c ≤ c') : Sm k' c' d := by
  obtain ⟨p, e, h⟩ := h
  exact ⟨p, e, h.mono hk hc⟩
theorem sm_all {k c : Nat} : ∀ {ds : List D}, (∀ x ∈ ds, Sm k c x) → ∃ ps, pdTs ds = some ps ∧ (∀ x ∈ ps, El k c x) ∧ ps.length = ds.length
  | [], _ => ⟨[], by simp [pdTs], by simp, rfl⟩
  | d :: ds, h => by
    obtain ⟨ps, e, a, l⟩ := sm_all (ds := ds) fun x hx => h x (List.mem_cons_of_mem _ hx)
    obtain ⟨p, e1, a1⟩ := h d List.mem_cons_self
    refine ⟨p :: ps, by simp [pdTs, e1, e], fun x hx => ?_, by simp [l]⟩
    rcases List.mem_cons.mp hx with z | z
    · rw [z]; exact a1
    · exact a x z
theorem sm_tup {k c m : Nat} {ds : List D} (h : ∀ x ∈ ds, Sm k c x) (l : ds.length ≤ m) : Sm (k + 1) (m * (c + 2) + 3) (.tup ds) := by
  obtain ⟨ps, e, a, l2⟩ := sm_all h
  exact ⟨.tuple ps, by simp [pdT, e], el_tuple a (by omega)⟩
theorem sm_int {i : Int} (h0 : -100 ≤ i) (h1 : i ≤ 1000) : Sm 0 20 (.int i) := ⟨_, by simp [pdT], el_int h0 h1⟩
theorem Sm.shaped {k c : Nat} {p : PyData} (h : El k c p) (hk : k ≤ 50) : SeqAt.shaped p = true := by
  unfold SeqAt.shaped
  rw [h.cl, Bool.true_and]
  exact decide_eq_true (by have := h.dp; omega)
def dRepr : DRs := fun ds st Q => on1 ds fun x => onO (pdS st x) fun p => (p.showable = true ∧ p.depth ≤ 50 ∧ p.shown.length ≤ sizeLine) ∧ Q (.str p.shown) st
section
variable {T : List (Addr × Str)} {X : Cx} {a b c : Expr} {es : List Expr} {fa fb fc : DTE} {fs : DTA} {pos : Pos} {K : Frag}
def dEqD (neg : Bool) : DR2 := fun x y st Q => onO (pdS st x) fun p => onO (pdS st y) fun q => (SeqAt.shaped p = true ∧ SeqAt.shaped q = true) ∧ Q (.bl (if neg then !PyData.eqv p q else PyData.eqv p q)) st
def dEqG (neg : Bool) : DR2 := fun x y st Q => match x, y with
  | .int i, .int j => Q (.bl (if neg then !decide (i = j) else decide (i = j))) st
  | .bl i, .bl j => Q (.bl (if neg then !decide (i = j) else decide (i = j))) st
  | .str i, .str j => Q (.bl (if neg then !decide (i = j) else decide (i = j))) st
  | x, y => dEqD neg x y st Q
def rEq2 (K : Frag) : R2 := fun x y H Q => rEq x y H Q ∨ rEqD K x y H Q
def rNe2 (K : Frag) : R2 := fun x y H Q => rNe x y H Q ∨ rNeD K x y H Q
theorem opD_eq : OpD T K (rEq2 K) (dEqG false) := by
  intro M H st x y vx vy Q' Q s rx ry h k
  have gen : dEqD false x y st Q' → rEq2 K vx vy H Q := fun h => by
    obtain ⟨p, e1, h⟩ := onO.of h
    obtain ⟨q, e2, ⟨h1, h2⟩, h⟩ := onO.of h
    exact .inr ⟨p, q, pdS_dp s rx e1, pdS_dp s ry e2, h1, h2, k.here s (.bl _) h⟩
  unfold dEqG at h
  split at h
  · cases rx
    cases ry
    exact .inl ⟨rfl, by rw [dec_int]; exact k.here s (.bl _) (by simpa [BEq.beq] using h)⟩
  · cases rx
    cases ry
    exact .inl ⟨rfl, by rw [dec_bl]; exact k.here s (.bl _) (by simpa [BEq.beq] using h)⟩
  · cases rx
    cases ry
    refine .inl ⟨rfl, ?_⟩
    rename_i i j
    have e : decide (V.str i = V.str j) = decide (i = j) := by
      by_cases z : i = j
      · rw [z]; simp
      · rw [decide_eq_false z]; exact decide_eq_false fun q => z (by cases q; rfl)
    rw [e]
    exact k.here s (.bl _) h
  · exact gen h
theorem opD_ne : OpD T K (rNe2 K) (dEqG true) := by
  intro M H st x y vx vy Q' Q s rx ry h k
  have gen : dEqD true x y st Q' → rNe2 K vx vy H Q := fun h => by
    obtain ⟨p, e1, h⟩ := onO.of h
    obtain ⟨q, e2, ⟨h1, h2⟩, h⟩ := onO.of h
    exact .inr ⟨p, q, pdS_dp s rx e1, pdS_dp s ry e2, h1, h2, k.here s (.bl _) h⟩
  unfold dEqG at h
  split at h
  · cases rx
    cases ry
    exact .inl ⟨rfl, by rw [dec_int]; exact k.here s (.bl _) (by simpa [BEq.beq] using h)⟩
  · cases rx
    cases ry
    exact .inl ⟨rfl, by rw [dec_bl]; exact k.here s (.bl _) (by simpa [BEq.beq] using h)⟩
  · cases rx
    cases ry
    refine .inl ⟨rfl, ?_⟩
    rename_i i j
    have e : decide (V.str i = V.str j) = decide (i = j) := by
      by_cases z : i = j
      · rw [z]; simp
      · rw [decide_eq_false z]; exact decide_eq_false fun q => z (by cases q; rfl)
    rw [e]
    exact k.here s (.bl _) h
  · exact gen h
abbrev dEq : DR2 := dEqG false
abbrev dNe : DR2 := dEqG true
theorem op_eq2 (hu : X.A.units + 64 < cLine) : OpR X (compareOp .Eq) (rEq2 X.K) := OpR.or op_eq (op_eqD hu)
theorem op_ne2 (hu : X.A.units + 64 < cLine) : OpR X (compareOp .NotEq) (rNe2 X.K) := OpR.or op_ne (op_neD hu)
def flatD : D → Bool
  | .non => true
  | .bl _ => true
  | .int _ => true
  | .str _ => true
  | _ => false
def eqF : D → D → Bool
  | .non, .non => true
  | .bl a, .bl b => a == b
  | .bl a, .int b => (if a then 1 else 0) == b
  | .int a, .bl b => a == (if b then 1 else 0)
  | .int a, .int b => a == b
  | .str a, .str b => a == b
  | _, _ => false
theorem RV.flat {M : Pl} {H : Hp} {d : D} {v : V} (r : RV K M H d v) (h : flatD d = true) : flatV v = true := by cases r <;> first | rfl | cases h
theorem RV.eqF {M : Pl} {H : Hp} {d e : D} {v w : V} (r : RV K M H d v) (q : RV K M H e w) (h1 : flatD d = true) (h2 : flatD e = true) : eqV v w = DL.eqF d e := by
  cases r <;> cases q <;> first | rfl | cases h1 | cases h2
theorem RVs.flat {M : Pl} {H : Hp} : ∀ {ds : List D} {vs : List V}, RVs K M H ds vs → ds.all flatD = true → vs.all flatV = true
  | _, _, .nil, _ => rfl
  | _, _, .cons h t, e => by
    rw [List.all_cons, Bool.and_eq_true] at e ⊢
    exact ⟨h.flat e.1, RVs.flat t e.2⟩
theorem RVs.inF {M : Pl} {H : Hp} {x : D} {v : V} (r : RV K M H x v) (hx : flatD x = true) : ∀ {ds : List D} {vs : List V}, RVs K M H ds vs → ds.all flatD = true → inV v vs = ds.any fun y => DL.eqF y x
  | _, _, .nil, _ => rfl
  | _, _, .cons h t, e => by
    rw [List.all_cons, Bool.and_eq_true] at e
    have z := RVs.inF r hx t e.2
    unfold inV at z ⊢
    rw [List.any_cons, List.any_cons, z, h.eqF r e.1 hx]
def dInG (neg : Bool) : DR2 := fun x y st Q => onO (seqS st y) fun ds => (flatD x = true ∧ ds.all flatD = true) ∧ Q (.bl (if neg then !(ds.any fun y => eqF y x) else ds.any fun y => eqF y x)) st
theorem opD_in (neg : Bool) : OpD T K (rIn K neg) (dInG neg) := by
  intro M H st x y vx vy Q' Q s rx ry h k
  obtain ⟨ds, e, ⟨h1, h2⟩, h⟩ := onO.of h
  obtain ⟨p, xs, rfl, sq, rs⟩ := seqS.rd s ry e
  refine ⟨p, xs, rfl, sq, rx.flat h1, rs.flat h2, ?_⟩
  rw [rs.inF rx h1 h2]
  exact k.here s (.bl _) h
abbrev dNotIn : DR2 := dInG true
def dChain (r r' : DR2) (fa fb fc : DTE) : DTE := fun ρ st Q => fa ρ st fun x st1 => fb ρ st1 fun y st2 => r x y st2 fun z st3 => onB z fun k => if k = true then fc ρ st3 fun w st4 => r' y w st4 Q else Q (.bl false) st3
theorem de_chain {op op' : CmpOp} {r r' : R2} {d d' : DR2} (ho : OpR X (compareOp op) r) (ho' : OpR X (compareOp op') r') (hd : OpD T X.K r d) (hd' : OpD T X.K r' d') (ha : DE T X a fa) (hb : DE T X b fb) (hc : DE T X c fc)
    (hm : lastMarks [op, op'] [b, c] = false := by with_unfolding_all rfl) : DE T X (.Compare a [op, op'] [b, c] pos) (dChain d d' fa fb fc) :=
  PE.imp (pe_chain ho ho' ha hb hc hm) fun σ H Q ⟨M, ρ, st, Q', s, re, hf, k⟩ =>
    ⟨M, ρ, st, _, s, re, hf, fun M1 H1 st1 x vx g1 s1 r1 h1 => ⟨M1, ρ, st1, _, s1, re.grow g1, h1, fun M2 H2 st2 y vy g2 s2 r2 h2 =>
      hd M2 H2 st2 x y vx vy _ _ s2 (r1.grow g2) r2 h2 fun M3 H3 st3 z vz g3 s3 r3 h3 => by
        obtain ⟨kk, rfl, h4⟩ := onB.of h3
        cases r3
        refine ⟨kk, rfl, ?_⟩
        have k3 := ((k.grow g1).grow g2).grow g3
        cases kk with
        | true =>
          rw [if_pos rfl] at h4 ⊢
          exact ⟨M3, ρ, st3, _, s3, ((re.grow g1).grow g2).grow g3, h4, fun M4 H4 st4 w vw g4 s4 r4 h5 => hd' M4 H4 st4 y w vy vw Q' Q s4 ((r2.grow g3).grow g4) r4 h5 (k3.grow g4)⟩
        | false => rw [if_neg (by decide)] at h4 ⊢; exact k3.here s3 (.bl _) h4⟩⟩
end
end DL
namespace DL
open PySem PySem.Spec PyProof.Rows L2 LamX PySem.W SL
structure DEnds where
  nx : DEnv → DSt → Prop
  rt : DK
  bk : DEnv → DSt → Prop := fun _ _ => False
  ct : DEnv → DSt → Prop := fun _ _ => False
abbrev DTS := DEnds → DEnv → DSt → Prop
def KnE (T : List (Addr × Str)) (K : Frag) (M : Pl) (H : Hp) (N : DEnv → DSt → Prop) (N' : L2.St → Hp → Prop) : Prop :=
  ∀ M' H' σ' r' st', Grow M H M' H' → RS T K M' st' H' → RE K M' H' r' σ' → N r' st' → N' σ' H'
structure KnS (T : List (Addr × Str)) (K : Frag) (M : Pl) (H : Hp) (E : DEnds) (E' : Ends) : Prop where
  nx : KnE T K M H E.nx E'.nx
  rt : Kn T K M H E.rt E'.rt
  bk : KnE T K M H E.bk E'.bk
  ct : KnE T K M H E.ct E'.ct
theorem KnE.grow {T : List (Addr × Str)} {K : Frag} {M M1 : Pl} {H H1 : Hp} {N : DEnv → DSt → Prop} {N' : L2.St → Hp → Prop} (k : KnE T K M H N N') (g : Grow M H M1 H1) : KnE T K M1 H1 N N' :=
  fun M' H' σ' r' st' g1 s re q => k M' H' σ' r' st' (g.trans g1) s re q
theorem KnE.here {T : List (Addr × Str)} {K : Frag} {M : Pl} {H : Hp} {N : DEnv → DSt → Prop} {N' : L2.St → Hp → Prop} {σ : L2.St} {r : DEnv} {st : DSt} (k : KnE T K M H N N') (s : RS T K M st H) (re : RE K M H r σ) (q : N r st) : N' σ H :=
  k M H σ r st (Grow.refl M H) s re q
theorem KnS.grow {T : List (Addr × Str)} {K : Frag} {M M1 : Pl} {H H1 : Hp} {E : DEnds} {E' : Ends} (k : KnS T K M H E E') (g : Grow M H M1 H1) : KnS T K M1 H1 E E' := ⟨k.nx.grow g, k.rt.grow g, k.bk.grow g, k.ct.grow g⟩
def liftS (T : List (Addr × Str)) (K : Frag) (F : DTS) : TS := fun E σ H => ∃ M r st E', RS T K M st H ∧ RE K M H r σ ∧ F E' r st ∧ KnS T K M H E' E
abbrev DSt1 (T : List (Addr × Str)) (X : Cx) (s : Stmt) (F : DTS) : Prop := PS X s (liftS T X.K F)
abbrev DSs (T : List (Addr × Str)) (X : Cx) (s : List Stmt) (F : DTS) : Prop := PSs X s (liftS T X.K F)
def sNext : DTS := fun E r st => E.nx r st
def sSeq (F G : DTS) : DTS := fun E r st => F { E with nx := G E } r st
def sNever : DTS := fun _ _ _ => False
def sDrop (f : DTE) : DTS := fun E r st => f r st fun _ st1 => E.nx r st1
def sRet (f : DTE) : DTS := fun E r st => f r st E.rt
def sRetN : DTS := fun E _ st => E.rt .non st
def sIf (t : DTT) (F G : DTS) : DTS := fun E r st => t r st fun b st1 => if b = true then F E r st1 else G E r st1
section
variable {T : List (Addr × Str)} {X : Cx} {st : Stmt} {rest : List Stmt} {F G : DTS} {e : Expr} {f : DTE} {pos : Pos}
theorem ds_nil : DSs T X [] sNext := PSs.imp pss_nil fun E σ H ⟨M, r, st, E', s, re, h, k⟩ => k.nx.here s re h
theorem ds_cons (h1 : DSt1 T X st F) (h2 : DSs T X rest G) : DSs T X (st :: rest) (sSeq F G) := PSs.imp (pss_cons h1 h2) fun E σ H ⟨M, r, st, E', s, re, h, k⟩ =>
  ⟨M, r, st, _, s, re, h, fun M1 H1 σ1 r1 st1 g1 s1 re1 q => ⟨M1, r1, st1, E', s1, re1, q, k.grow g1⟩, k.rt, k.bk, k.ct⟩
theorem ds_one (h1 : DSt1 T X st F) : DSs T X [st] F := pss_one h1
theorem ds_never : DSt1 T X st sNever := PS.imp ps_never fun E σ H ⟨M, r, st, E', s, re, h, k⟩ => h.elim
theorem ds_expr (he : DE T X e f) (hs : swapsWith e none pos.line X.env = pure false := by rfl) : DSt1 T X (.Expr e pos) (sDrop f) := PS.imp (ps_expr he hs) fun E σ H ⟨M, r, st, E', s, re, h, k⟩ =>
  ⟨M, r, st, _, s, re, h, fun M1 H1 st1 d v g1 s1 r1 q => k.nx M1 H1 σ r st1 g1 s1 (re.grow g1) q⟩
theorem ds_ret (he : DE T X e f) : DSt1 T X (.Return (some e) pos) (sRet f) := PS.imp (ps_ret he) fun E σ H ⟨M, r, st, E', s, re, h, k⟩ => ⟨M, r, st, _, s, re, h, k.rt⟩
theorem ds_if {c : Expr} {a b : List Stmt} {t : DTT} (hc : DT T X c t) (ha : DSs T X a F) (hb : DSs T X b G) : DSt1 T X (.If c a b pos) (sIf t F G) := PS.imp (ps_if hc ha hb) fun E σ H ⟨M, r, st, E', s, re, h, k⟩ =>
  ⟨M, r, st, _, s, re, h, fun M1 H1 st1 c g1 s1 q => by
    cases c with
    | true => rw [if_pos rfl] at q ⊢; exact ⟨M1, r, st1, E', s1, re.grow g1, q, k.grow g1⟩
    | false => rw [if_neg (by decide)] at q ⊢; exact ⟨M1, r, st1, E', s1, re.grow g1, q, k.grow g1⟩⟩
end
abbrev DTG := D → DEnv → DSt → (DEnv → DSt → Prop) → Prop
abbrev DTGs := List D → DEnv → DSt → (DEnv → DSt → Prop) → Prop
def liftG (T : List (Addr × Str)) (K : Frag) (vs : List Nat) (g : DTG) : TG := fun v σ H Q => ∃ M r st d Q', RS T K M st H ∧ RE K M H r σ ∧ RV K M H d v ∧ g d r st Q' ∧
  ∀ M' H' σ' r' st', Grow M H M' H' → RS T K M' st' H' → RE K M' H' r' σ' → wipe σ' vs = wipe σ vs → Q' r' st' → Q σ' H'
def liftGs (T : List (Addr × Str)) (K : Frag) (vs : List Nat) (g : DTGs) : TGs := fun v σ H Q => ∃ M r st d Q', RS T K M st H ∧ RE K M H r σ ∧ RVs K M H d v ∧ g d r st Q' ∧
  ∀ M' H' σ' r' st', Grow M H M' H' → RS T K M' st' H' → RE K M' H' r' σ' → wipe σ' vs = wipe σ vs → Q' r' st' → Q σ' H'
theorem PG.imp {X : Cx} {e : Expr} {t t' : TG} (h : PG X e t) (i : ∀ v σ H Q, t' v σ H Q → t v σ H Q) : PG X e t' := ⟨fun pins s σ H v u Q I r z => h.run pins s σ H v u Q I r (i v σ H Q z)⟩
theorem PGs.imp {X : Cx} {e : List Expr} {t t' : TGs} (h : PGs X e t) (i : ∀ v σ H Q, t' v σ H Q → t v σ H Q) : PGs X e t' := ⟨fun pins s σ H v u Q I r z => h.run pins s σ H v u Q I r (i v σ H Q z)⟩
abbrev DG (T : List (Addr × Str)) (X : Cx) (vs : List Nat) (e : Expr) (g : DTG) : Prop := PG X e (liftG T X.K vs g)
abbrev DGs (T : List (Addr × Str)) (X : Cx) (vs : List Nat) (e : List Expr) (g : DTGs) : Prop := PGs X e (liftGs T X.K vs g)
theorem RE.set {K : Frag} {M : Pl} {H : Hp} {r : DEnv} {σ : L2.St} (h : RE K M H r σ) (i : Nat) {d : D} {v : V} (rv : RV K M H d v) : RE K M H (r.set i (some d)) (σ.set i (some v)) := by
  refine ⟨by rw [List.length_set, List.length_set]; exact h.len, fun j c e => ?_⟩
  by_cases q : j = i
  · subst q
    have lt : j < r.length := by
      have := (List.getElem?_eq_some_iff.mp e).1
      rw [List.length_set] at this
      exact this
    rw [List.getElem?_set_self lt] at e
    cases e
    exact ⟨v, List.getElem?_set_self (by rw [← h.len]; exact lt), rv⟩
  · rw [List.getElem?_set_ne (fun z => q z.symm)] at e ⊢
    exact h.at_ j c e
theorem wipe_set {σ : L2.St} {i : Nat} {x : Option V} : ∀ {vs : List Nat}, i ∈ vs → wipe (σ.set i x) vs = wipe σ vs
  | [], h => by cases h
  | v :: vs, h => by
    show (wipe (σ.set i x) vs).set v none = (wipe σ vs).set v none
    by_cases m : i ∈ vs
    · rw [wipe_set m]
    · rcases List.mem_cons.mp h with z | z
      · subst z
        have gen : ∀ (ws : List Nat) (τ : L2.St), i ∉ ws → wipe (τ.set i x) ws = (wipe τ ws).set i x := by
          intro ws
          induction ws with
          | nil => intro τ _; rfl
          | cons w ws ih =>
            intro τ hn
            rw [List.mem_cons, not_or] at hn
            show (wipe (τ.set i x) ws).set w none = ((wipe τ ws).set w none).set i x
            rw [ih τ hn.2, List.set_comm _ _ hn.1]
        rw [gen vs σ m, List.set_set]
      · exact absurd z m
def gNm (i : Nat) : DTG := fun d r st Q => Q (r.set i (some d)) st
def gsNil : DTGs := fun ds r st Q => match ds with | [] => Q r st | _ => False
def gsCons (g : DTG) (h : DTGs) : DTGs := fun ds r st Q => match ds with | d :: e => g d r st fun r1 st1 => h e r1 st1 Q | [] => False
def gTp (n : Nat) (g : DTGs) : DTG := fun d r st Q => match d with
  | .tup ds => ds.length = n ∧ g ds r st Q
  | .tuk ds => ds.length = n ∧ g ds r st Q
  | .lst ds => ds.length = n ∧ g ds r st Q
  | _ => False
theorem PG.or {X : Cx} {e : Expr} {t t' : TG} (h : PG X e t) (h' : PG X e t') : PG X e fun v σ H Q => t v σ H Q ∨ t' v σ H Q := ⟨fun pins s σ H v u Q I r z => by
  rcases z with z | z
  · exact h.run pins s σ H v u Q I r z
  · exact h'.run pins s σ H v u Q I r z⟩
section
variable {T : List (Addr × Str)} {X : Cx} {vs : List Nat} {pos : Pos}
theorem dg_name {i : Nat} {x : Str} (hN : X.N.Nodup) (hi : X.N[i]? = some x) (hx : Loc X.env.scope x) (m : i ∈ vs) (hf : X.fn x = true ∨ X.env.scope.names.lookup x = some .local := by first | exact .inl rfl | exact .inr rfl | assumption) : DG T X vs (.Name x pos) (gNm i) :=
  PG.imp (pg_name hN hi hx hf) fun v σ H Q ⟨M, r, st, d, Q', s, re, rv, h, k⟩ => k M H _ _ st (Grow.refl M H) s (re.set i rv) (wipe_set m) h
theorem dgs_nil : DGs T X vs [] gsNil := PGs.imp pgs_nil fun v σ H Q ⟨M, r, st, d, Q', s, re, rv, h, k⟩ => by
  cases d with
  | nil => cases rv; exact ⟨rfl, k M H σ r st (Grow.refl M H) s re rfl h⟩
  | cons _ _ => exact h.elim
theorem dgs_cons {e : Expr} {es : List Expr} {g : DTG} {h : DTGs} (h1 : DG T X vs e g) (h2 : DGs T X vs es h) (hs : (assignEach (e :: es) X.env).map (·.2) = assign e X.env :: (assignEach es X.env).map (·.2) := by rfl) : DGs T X vs (e :: es) (gsCons g h) :=
  PGs.imp (pgs_cons h1 h2 hs) fun v σ H Q ⟨M, r, st, d, Q', s, re, rv, h, k⟩ => by
    cases d with
    | nil => exact h.elim
    | cons d ds =>
      cases rv with
      | cons r1 rs => exact ⟨_, _, rfl, M, r, st, d, _, s, re, r1, h, fun M1 H1 σ1 r1' st1 g1 s1 re1 w1 q => ⟨M1, r1', st1, ds, Q', s1, re1, rs.grow g1, q, fun M2 H2 σ2 r2 st2 g2 s2 re2 w2 q2 => k M2 H2 σ2 r2 st2 (g1.trans g2) s2 re2 (w2.trans w1) q2⟩⟩
theorem dg_tup {es : List Expr} {k : Nat} {g : DTGs} {n : Nat} (hc : X.calm = true) (h : DGs T X vs es g) (hn : (assignEach es X.env).length = n := by rfl) (hst : (assignEach es X.env).findIdx? (·.1) = none := by rfl) : DG T X vs (.Tuple es k pos) (gTp n g) :=
  PG.imp (PG.or (pg_tup hc h hn hst) (pg_lst hc h hn hst)) fun v σ H Q ⟨M, r, st, d, Q', s, re, rv, hh, kk⟩ => by
    cases d with
    | tup ds => cases rv with | tup nn e q rs => exact .inl ⟨_, _, rfl, .inl (.inr ⟨_, e⟩), by rw [← rs.length]; exact hh.1, M, r, st, ds, Q', s, re, rs, hh.2, kk⟩
    | tuk ds => cases rv with | tuk nn e rs => exact .inl ⟨_, _, rfl, .inl (.inl e), by rw [← rs.length]; exact hh.1, M, r, st, ds, Q', s, re, rs, hh.2, kk⟩
    | lst ds => cases rv with | lst nn e rs => exact .inr ⟨_, _, rfl, .inl (.inl e), by rw [← rs.length]; exact hh.1, M, r, st, ds, Q', s, re, rs, hh.2, kk⟩
    | _ => exact hh.elim
def sSet (i : Nat) (f : DTE) : DTS := fun E r st => f r st fun d st1 => E.nx (r.set i (some d)) st1
theorem ds_set {i : Nat} {x : Str} {e : Expr} {f : DTE} {pos' : Pos} (hN : X.N.Nodup) (hi : X.N[i]? = some x) (hx : Loc X.env.scope x) (he : DE T X e f) (hs : swapsWith e (some (.Name x pos')) pos.line X.env = pure false := by rfl)
    (hf : X.fn x = true ∨ X.env.scope.names.lookup x = some .local := by first | exact .inl rfl | exact .inr rfl | assumption) : DSt1 T X (.Assign [.Name x pos'] e pos) (sSet i f) :=
  PS.imp (ps_set hN hi hx he hs hf) fun E σ H ⟨M, r, st, E', s, re, h, k⟩ => ⟨M, r, st, _, s, re, h, fun M1 H1 st1 d v g1 s1 r1 q => k.nx M1 H1 _ _ st1 g1 s1 ((re.grow g1).set i r1) q⟩
def sAsg (f : DTE) (g : DTG) : DTS := fun E r st => f r st fun d st1 => g d r st1 E.nx
theorem ds_asg {tg e : Expr} {f : DTE} {g : DTG} (he : DE T X e f) (hg : DG T X vs tg g) (hs : swapsWithSole [tg] e pos.line X.env = pure false := by rfl) (hw : swappedStores [tg] e X.env = pure none := by rfl) (h1 : (assignEach [tg] X.env).map (·.2) = [assign tg X.env] := by rfl) : DSt1 T X (.Assign [tg] e pos) (sAsg f g) :=
  PS.imp (ps_asg he hg hs hw h1) fun E σ H ⟨M, r, st, E', s, re, h, k⟩ => ⟨M, r, st, _, s, re, h, fun M1 H1 st1 d v g1 s1 r1 q =>
    ⟨M1, r, st1, d, _, s1, re.grow g1, r1, q, fun M2 H2 σ2 r2 st2 g2 s2 re2 _ q2 => k.nx M2 H2 σ2 r2 st2 (g1.trans g2) s2 re2 q2⟩⟩
def sPar (i j : Nat) (f : DTA) : DTS := fun E r st => f r st fun ds st1 => on2 ds fun d e => E.nx ((r.set i (some d)).set j (some e)) st1
theorem ds_par {i j : Nat} {x y : Str} {a b : Expr} {f : DTA} {px py pt : Pos} {kt k2 pt2} (hc : X.calm = true) (hN : X.N.Nodup) (hi : X.N[i]? = some x) (hj : X.N[j]? = some y) (hij : i ≠ j) (hx : X.env.scope.names.lookup x = some .local) (hy : X.env.scope.names.lookup y = some .local) (ha : DA T X [a, b] f)
    (hw : swappedStores [.Tuple [.Name x px, .Name y py] kt pt] (.Tuple [a, b] k2 pt2) X.env = pure (some [x, y])) (hs : swapsWithSole [.Tuple [.Name x px, .Name y py] kt pt] (.Tuple [a, b] k2 pt2) pos.line X.env = pure false := by rfl) :
    DSt1 T X (.Assign [.Tuple [.Name x px, .Name y py] kt pt] (.Tuple [a, b] k2 pt2) pos) (sPar i j f) :=
  PS.imp (ps_par hc hN hi hj hij hx hy ha hw hs) fun E σ H ⟨M, r, st, E', s, re, h, k⟩ => ⟨M, r, st, _, s, re, h, fun M1 H1 st1 ds vs g1 s1 r1 q => by
    obtain ⟨d, e, rfl, q⟩ := on2.of q
    obtain ⟨v, w, rfl, rv, rw'⟩ := r1.two
    exact ⟨v, w, rfl, k.nx M1 H1 _ _ st1 g1 s1 (((re.grow g1).set i rv).set j rw') q⟩⟩
def gSb (fo fi : DTE) : DTG := fun d r st Q => fo r st fun o st1 => fi r st1 fun i st2 => match o with
  | .ref n => onI i fun k => match st2[n]? with
    | some (.lst xs) => onO (ixN xs.length k) fun j => Q r (st2.set n (.lst (xs.set j d)))
    | _ => False
  | _ => False
theorem dg_sub {o i : Expr} {fo fi : DTE} (ho : DE T X o fo) (hi : DE T X i fi)
    (ha : ∀ v, assign (.Subscript o i pos) X.env v = (do let ov ← holding [v] (eval o X.env); let iv ← holding [v, ov] (eval i X.env); standAt pos; holding [v, ov, iv] (setItem ov iv v); release [v, ov, iv] []) := by intro _; rfl) : DG T X vs (.Subscript o i pos) (gSb fo fi) :=
  PG.imp (pg_sub ho hi set_list ha) fun v σ H Q ⟨M, r, st, d, Q', s, re, rv, h, k⟩ =>
    ⟨M, r, st, _, s, re, h, fun M1 H1 st1 o vo g1 s1 r1 q => ⟨M1, r, st1, _, s1, re.grow g1, q, fun M2 H2 st2 i vi g2 s2 r2 q2 => by
      cases o with
      | ref n =>
        obtain ⟨kk, rfl, q3⟩ := onI.of q2
        cases r2
        have r1' := r1.grow g2
        cases r1' with
        | ref hm =>
          split at q3
          · rename_i xs e1
            obtain ⟨j, e2, q4⟩ := onO.of q3
            obtain ⟨ys, hy, rs⟩ := s2.obj n _ _ hm e1
            refine ⟨_, ys, kk, j, rfl, rfl, hy, by rw [← rs.length]; exact e2, ?_⟩
            have gw : Grow M2 H2 M2 (upd H2 _ (.lst (ys.set j v))) := Grow.write s2.nd hm
            refine k M2 _ σ r _ ((g1.trans g2).trans gw) (s2.write (u := .lst (xs.set j d)) hm ⟨ys.set j v, upd_same, ?_⟩) ((re.grow (g1.trans g2)).grow gw) rfl q4
            exact ((rs.grow gw).set (((rv.grow g1).grow g2).grow gw) j)
          · exact q3.elim
      | _ => exact q2.elim⟩⟩
end
end DL
namespace DL
open PySem PySem.Spec PyProof.Rows L2 LamX PySem.W SL
structure Later (M : Pl) (H : Hp) (M' : Pl) (H' : Hp) : Prop where
  keep : ∀ a o, a ∉ M.m → H a = some o → (∀ ps, o ≠ .tbl ps) → H' a = some o
  get : ∀ n a, M.at_ n = some a → M'.at_ n = some a
  notin : ∀ a, a ∉ M.m → NT H a → a ∉ M'.m
theorem Grow.later {M M' : Pl} {H H' : Hp} (g : Grow M H M' H') : Later M H M' H' := ⟨g.keep, fun _ _ h => g.get h, fun _ h t => g.notin h t⟩
theorem Later.trans {M M1 M2 : Pl} {H H1 H2 : Hp} (a : Later M H M1 H1) (b : Later M1 H1 M2 H2) (th : ∀ a, NT H a → NT H1 a) : Later M H M2 H2 :=
  ⟨fun c o n h t => b.keep c o (a.notin c n ⟨o, h, t⟩) (a.keep c o n h t) t, fun n c h => b.get n c (a.get n c h), fun c n h => b.notin c (a.notin c n h) (th c h)⟩
theorem Rd.later {M M' : Pl} {H H' : Hp} (g : Later M H M' H') {a : Addr} {xs : List V} (n : a ∉ M.m) (r : Rd H a (.lst xs)) : Rd H' a (.lst xs) := by
  rcases r with r | ⟨o, r⟩
  · exact .inl (g.keep a _ n r (fun ps z => by cases z))
  · exact .inr ⟨o, g.keep a _ n r (fun ps z => by cases z)⟩
mutual
theorem RV.later {K : PySem.W.Frag} {M M' : Pl} {H H' : Hp} (g : Later M H M' H') : ∀ {d : D} {v : V}, RV K M H d v → RV K M' H' d v
  | _, _, .non => .non
  | _, _, .bl b => .bl b
  | _, _, .int i => .int i
  | _, _, .str x => .str x
  | _, _, .tup n h e r => .tup (g.notin _ n ⟨_, h, fun ps z => by cases z⟩) (g.keep _ _ n h (fun ps z => by cases z)) e (r.later g)
  | _, _, .tuk n h r => .tuk (g.notin _ n ⟨_, h, fun ps z => by cases z⟩) (g.keep _ _ n h (fun ps z => by cases z)) (r.later g)
  | _, _, .lst n h r => .lst (g.notin _ n ⟨_, h, fun ps z => by cases z⟩) (g.keep _ _ n h (fun ps z => by cases z)) (r.later g)
  | _, _, .scr n h r => .scr (g.notin _ n (Rd.there h)) (Rd.later g n h) (r.later g)
  | _, _, .lsk h r => .lsk h (r.later g)
  | _, _, .ref h => .ref (g.get _ _ h)
theorem RVs.later {K : PySem.W.Frag} {M M' : Pl} {H H' : Hp} (g : Later M H M' H') : ∀ {d : List D} {v : List V}, RVs K M H d v → RVs K M' H' d v
  | _, _, .nil => .nil
  | _, _, .cons h t => .cons (h.later g) (t.later g)
end
theorem RO.later {K : PySem.W.Frag} {M M' : Pl} {H H' : Hp} (g : Later M H M' H') {o : O} {a : Addr} (h : RO K M H o a) (e : H' a = H a) : RO K M' H' o a := by
  cases o with
  | lst ds => obtain ⟨xs, h1, h2⟩ := h; exact ⟨xs, e.trans h1, h2.later g⟩
  | dK kvs => obtain ⟨ys, h1, h2, h3⟩ := h; exact ⟨ys, e.trans h1, h2, h3.later g⟩
  | dT kvs => obtain ⟨ys, h1, h2, h3, h4⟩ := h; exact ⟨ys, h1.stay e, h2, h3.later g, fun y hy => ⟨g.notin _ (h4 y hy).1 (h4 y hy).2.there, (h4 y hy).2.elim (fun z => .inl (g.keep _ _ (h4 y hy).1 z (fun ps w => by cases w))) fun ⟨ob, z, d⟩ => .inr ⟨ob, g.keep _ _ (h4 y hy).1 z (fun ps w => by cases w), d⟩⟩⟩
  | lk ob ys kvs => obtain ⟨h1, h2, h3⟩ := h; exact ⟨e.trans h1, h2, h3.later g⟩
  | lkT ob ys kvs => obtain ⟨h1, h2, h3, h4⟩ := h; exact ⟨h1.stay e, h2, h3.later g, fun y hy => ⟨g.notin _ (h4 y hy).1 (h4 y hy).2.there, (h4 y hy).2.elim (fun z => .inl (g.keep _ _ (h4 y hy).1 z (fun ps w => by cases w))) fun ⟨ob, z, d⟩ => .inr ⟨ob, g.keep _ _ (h4 y hy).1 z (fun ps w => by cases w), d⟩⟩⟩
  | ins C fs => obtain ⟨dx, ys, h1, h2, h3⟩ := h; exact ⟨dx, ys, e.trans h1, h2, h3.later g⟩
def Pl.hide (M : Pl) (p : Addr) : Pl := ⟨M.h + 1, p :: M.m⟩
theorem Pl.hide_at (M : Pl) (p : Addr) (n : Nat) : (M.hide p).at_ n = M.at_ n := by
  unfold Pl.at_ Pl.hide
  show (p :: M.m)[M.h + 1 + n]? = M.m[M.h + n]?
  rw [show M.h + 1 + n = (M.h + n) + 1 by omega, List.getElem?_cons_succ]
theorem Pl.hide_app (M : Pl) (p : Addr) (m : List Addr) : (M.hide p).app m = (M.app m).hide p := rfl
theorem Pl.hide_inj {M N : Pl} {p : Addr} (h : M.hide p = N.hide p) : M = N := by
  cases M
  cases N
  unfold Pl.hide at h
  simp only [Pl.mk.injEq, List.cons.injEq, Nat.add_right_cancel_iff, true_and] at h
  rw [h.1, h.2]
theorem later_hide {M : Pl} {H : Hp} {p : Addr} {o : HO} (np : H p = none) : Later M H (M.hide p) (upd H p o) :=
  ⟨fun a u _ e _ => by rw [upd_ne (ne_of_none e np)]; exact e, fun n a h => by rw [Pl.hide_at]; exact h, fun a h t z => by
    rcases List.mem_cons.mp z with z | z
    · exact t.ne np z
    · exact h z⟩
theorem later_unhide {M : Pl} {H : Hp} {p : Addr} : Later (M.hide p) H M H :=
  ⟨fun _ _ _ e _ => e, fun n a h => by rw [← Pl.hide_at M p n]; exact h, fun a h _ z => h (List.mem_cons_of_mem _ z)⟩
theorem later_own {M : Pl} {H : Hp} {p : Addr} : Later (M.hide p) H (M.app [p]) H :=
  ⟨fun _ _ _ e _ => e, fun n a h => by
    rw [Pl.hide_at] at h
    unfold Pl.at_ at h ⊢
    show (M.m ++ [p])[M.h + n]? = some a
    rw [List.getElem?_append_left (List.getElem?_eq_some_iff.mp h).1]
    exact h, fun a h _ z => h (by
    rcases List.mem_append.mp z with z | z
    · exact List.mem_cons_of_mem _ z
    · rw [List.mem_singleton.mp z]; exact List.mem_cons_self)⟩
section
variable {T : List (Addr × Str)} {K : Frag} {M M' : Pl} {H H' : Hp} {st : DSt} {p : Addr}
theorem RS.hide (s : RS T K M st H) (np : H p = none) {xs : List V} : RS T K (M.hide p) st (upd H p (.lst xs)) := by
  refine ⟨by show (p :: M.m).length = M.h + 1 + st.length; rw [List.length_cons, s.len]; omega, List.nodup_cons.mpr ⟨s.notin np, s.nd⟩, fun n a o e1 e2 => ?_, tabs_upd s.tabs fun b u hb _ => ne_of_none hb np, fun a ha => ?_⟩
  · rw [Pl.hide_at] at e1
    exact (s.obj n a o e1 e2).later (later_hide np) (upd_ne fun z => s.notin np (by rw [← z]; exact Pl.at_mem e1))
  · have ha' : a ∈ (p :: M.m).take (M.h + 1) := ha
    rw [List.take_succ_cons] at ha'
    rcases List.mem_cons.mp ha' with z | z
    · rw [z]; exact ⟨xs, upd_same⟩
    · exact s.hid.upd np a z
theorem RS.unhide (s : RS T K (M.hide p) st H) : RS T K M st H := by
  have len : (p :: M.m).length = M.h + 1 + st.length := s.len
  rw [List.length_cons] at len
  refine ⟨by omega, (List.nodup_cons.mp s.nd).2, fun n a o e1 e2 => ?_, s.tabs, fun a ha => s.hid a ?_⟩
  · exact (s.obj n a o (by rw [Pl.hide_at]; exact e1) e2).later later_unhide rfl
  · show a ∈ (p :: M.m).take (M.h + 1)
    rw [List.take_succ_cons]
    exact List.mem_cons_of_mem _ ha
theorem RS.own {ds : List D} {xs : List V} (s : RS T K (M.hide p) st H) (hp : H p = some (.lst xs)) (r : RVs K (M.hide p) H ds xs) : RS T K (M.app [p]) (st ++ [.lst ds]) H := by
  have u := s.unhide
  refine ⟨?_, ?_, fun n a o e1 e2 => ?_, s.tabs, fun a ha => ?_⟩
  · show (M.m ++ [p]).length = M.h + (st ++ [O.lst ds]).length
    rw [List.length_append, List.length_append, u.len, Nat.add_assoc]
    rfl
  · show (M.m ++ [p]).Nodup
    rw [List.nodup_append]
    refine ⟨u.nd, by simp, fun a ha b hb => ?_⟩
    rw [List.mem_singleton.mp hb]
    exact fun z => (List.nodup_cons.mp s.nd).1 (z ▸ ha)
  · have e1' : (M.m ++ [p])[M.h + n]? = some a := e1
    by_cases lt : n < st.length
    · rw [List.getElem?_append_left (by rw [u.len]; omega)] at e1'
      rw [List.getElem?_append_left lt] at e2
      exact (s.obj n a o (by rw [Pl.hide_at]; exact e1') e2).later later_own rfl
    · rw [List.getElem?_append_right (by rw [u.len]; omega)] at e1'
      rw [List.getElem?_append_right (by omega)] at e2
      have n0 : M.h + n - M.m.length = 0 := by
        have := (List.getElem?_eq_some_iff.mp e1').1
        simp at this
        omega
      have n1 : n - st.length = 0 := by rw [u.len] at n0; omega
      rw [n0] at e1'
      rw [n1] at e2
      cases e1'
      cases e2
      exact ⟨xs, hp, r.later later_own⟩
  · have ha' : a ∈ (M.m ++ [p]).take M.h := ha
    rw [List.take_append_of_le_length (by rw [u.len]; omega)] at ha'
    exact u.hid a ha'
end
structure DIt where
  items : List D
  src : Option (Nat × O)
def okI (I : DIt) (st : DSt) (P : Prop) : Prop := match I.src with | none => P | some (n, xs) => st[n]? = some xs ∧ P
def okS (I : DIt) (st : DSt) : Prop := I.src = none ∨ ∃ n xs, I.src = some (n, xs) ∧ st[n]? = some xs
theorem okI.of {I : DIt} {st : DSt} {P : Prop} (h : okI I st P) : okS I st ∧ P := by
  unfold okI at h
  cases q : I.src with
  | none => rw [q] at h; exact ⟨.inl q, h⟩
  | some n => rw [q] at h; exact ⟨.inr ⟨n.1, n.2, q, h.1⟩, h.2⟩
structure ItOk (T : List (Addr × Str)) (K : Frag) (M : Pl) (H : Hp) (J : It) (I : DIt) : Prop where
  go : ∀ M' H' st', Later M H M' H' → RS T K M' st' H' → okS I st' → ∀ (i : Nat) (d : D), I.items[i]? = some d → J.go i H' ∧ ∀ x H'', J.yld i H' x H'' → Grow M' H' M' H'' ∧ RS T K M' st' H'' ∧ RV K M' H'' d x
  stop : ∀ M' H' st', Later M H M' H' → RS T K M' st' H' → okS I st' → J.stop I.items.length H'
abbrev DTI := DEnv → DSt → (DIt → DSt → Prop) → Prop
def liftI (T : List (Addr × Str)) (K : Frag) (f : DTI) : TI := fun σ H R => ∃ M r st R', RS T K M st H ∧ RE K M H r σ ∧ f r st R' ∧ ∀ M' H' st' J I, Grow M H M' H' → RS T K M' st' H' → R' I st' → ItOk T K M' H' J I → R J H'
theorem PI.imp {X : Cx} {tg e : Expr} {t t' : TI} (h : PI X tg e t) (i : ∀ σ H Q, t' σ H Q → t σ H Q) : PI X tg e t' := ⟨fun pins s σ H Q I z => h.run pins s σ H Q I (i σ H Q z)⟩
abbrev DI (T : List (Addr × Str)) (X : Cx) (tg e : Expr) (f : DTI) : Prop := PI X tg e (liftI T X.K f)
def iSeq (K : Frag) (tl : TE) : TI := fun σ H R => tl σ H fun x H1 => ∃ a, x = .ref a ∧ (((∃ xs, SqL K H1 a xs) ∧ R (Itl K a) H1) ∨ ((∃ xs, SqT K H1 a xs) ∧ R (Itt K a) H1))
section
variable {T : List (Addr × Str)} {X : Cx} {tg : Expr}
theorem pi_seq {l : Expr} {tl : TE} (hl : PE X l tl) : PI X tg l (iSeq X.K tl) := by
  refine ⟨fun pins s σ H R I h => ?_⟩
  refine thn (hl.run pins s σ H _ I h) fun v s1 ⟨x, H1, I1, r1, q1⟩ => ?_
  obtain ⟨a, e, q1⟩ := q1
  subst e
  cases r1
  rcases q1 with ⟨⟨xs, hq⟩, q⟩ | ⟨⟨xs, hq⟩, q⟩
  · obtain ⟨its, rv, p, hz⟩ := I1.list hq
    refine wpAny_pyIter_list p.isList ?_
    refine ⟨s1.heap.objs.size, [s1.heap.objs.size], _, _, H1, rfl, I1.kept (t' := s1.toks) fun b o e => Heap.get?_push_of_some _ e, turn_list a _, ⟨_, Heap.get?_push_size _ rfl, rfl, rfl⟩, fun b hb => ?_, q⟩
    have e : b = s1.heap.objs.size := by simpa using hb
    subst e
    exact I1.fpOk (Nat.le_refl _) (I1.hok.fresh (Nat.le_refl _))
  · obtain ⟨its, rv, p, hz⟩ := I1.tuple hq
    refine wpAny_pyIter_tuple (show s1.heap.IsTuple a its.toArray from p) ?_
    refine ⟨s1.heap.objs.size, [s1.heap.objs.size], _, _, H1, rfl, I1.kept (t' := s1.toks) fun b o e => Heap.get?_push_of_some _ e, turn_tuple a _, ⟨_, Heap.get?_push_size _ rfl, rfl, rfl⟩, fun b hb => ?_, q⟩
    have e : b = s1.heap.objs.size := by simpa using hb
    subst e
    exact I1.fpOk (Nat.le_refl _) (I1.hok.fresh (Nat.le_refl _))
end
def itOf (st : DSt) : D → Option DIt
  | .tup ds => some ⟨ds, none⟩
  | .tuk ds => some ⟨ds, none⟩
  | .lst ds => some ⟨ds, none⟩
  | .scr ds => some ⟨ds, none⟩
  | .ref n => match st[n]? with | some (.lst ds) => some ⟨ds, some (n, .lst ds)⟩ | _ => none
  | _ => none
def wSeq (f : DTE) : DTI := fun r st R => f r st fun d st1 => onO (itOf st1 d) fun I => R I st1
inductive SrcAt (K : Frag) (M : Pl) (H : Hp) (I : DIt) (a : Addr) : Prop
  | lst {xs : List V} : (∀ M' H', Later M H M' H' → SqL K H' a xs) → RVs K M H I.items xs → I.src = none → SrcAt K M H I a
  | tup {xs : List V} : (∀ M' H', Later M H M' H' → SqT K H' a xs) → RVs K M H I.items xs → I.src = none → SrcAt K M H I a
  | ref {n : Nat} : M.at_ n = some a → I.src = some (n, .lst I.items) → SrcAt K M H I a
section
variable {T : List (Addr × Str)} {K : Frag} {M : Pl} {H : Hp} {st : DSt}
theorem itOf.src {d : D} {v : V} {I : DIt} (s : RS T K M st H) (r : RV K M H d v) (e : itOf st d = some I) : ∃ a, v = .ref a ∧ SrcAt K M H I a ∧ okS I st := by
  cases r with
  | tup n h q rs => cases e; exact ⟨_, rfl, .tup (fun M' H' l => .inl (.inr ⟨_, l.keep _ _ n h (fun ps z => by cases z)⟩)) rs rfl, .inl rfl⟩
  | tuk n h rs => cases e; exact ⟨_, rfl, .tup (fun M' H' l => .inl (.inl (l.keep _ _ n h (fun ps z => by cases z)))) rs rfl, .inl rfl⟩
  | lst n h rs => cases e; exact ⟨_, rfl, .lst (fun M' H' l => .inl (Rd.later l n (.inl h))) rs rfl, .inl rfl⟩
  | scr n h rs => cases e; exact ⟨_, rfl, .lst (fun M' H' l => .inl (Rd.later l n h)) rs rfl, .inl rfl⟩
  | lsk h rs => cases e; exact ⟨_, rfl, .lst (fun M' H' l => h H') rs rfl, .inl rfl⟩
  | ref h =>
    obtain ⟨o, e1, ro⟩ := s.atM h
    unfold itOf at e
    simp only [e1] at e
    cases o with
    | lst xs => cases e; exact ⟨_, rfl, .ref h rfl, .inr ⟨_, _, rfl, e1⟩⟩
    | dK _ => cases e
    | dT _ => cases e
    | lk _ _ _ => cases e
    | lkT _ _ _ => cases e
    | ins _ _ => cases e
  | _ => cases e
theorem SrcAt.rd {I : DIt} {a : Addr} (h : SrcAt K M H I a) {M' : Pl} {H' : Hp} {st' : DSt} (l : Later M H M' H') (s : RS T K M' st' H') (ok : okS I st') :
    ∃ xs, RVs K M' H' I.items xs ∧ (SqL K H' a xs ∨ SqT K H' a xs) := by
  cases h with
  | lst h r e => exact ⟨_, r.later l, .inl (h M' H' l)⟩
  | tup h r e => exact ⟨_, r.later l, .inr (h M' H' l)⟩
  | ref h e =>
    rcases ok with z | ⟨n', ys, z, q⟩
    · rw [e] at z; cases z
    · rw [e] at z
      cases z
      obtain ⟨xs, e1, e2⟩ := s.obj _ a _ (l.get _ _ h) q
      exact ⟨xs, e2, .inl (.inl (.inl e1))⟩
end
end DL
namespace DL
open PySem PySem.Spec PyProof.Rows L2 LamX PySem.W SL
section
variable {T : List (Addr × Str)} {K : Frag} {M : Pl} {H : Hp} {st : DSt} {I : DIt} {a : Addr}
def IsL (T : List (Addr × Str)) (K : Frag) (M : Pl) (H : Hp) (I : DIt) (a : Addr) : Prop := ∀ M' H' st', Later M H M' H' → RS T K M' st' H' → okS I st' → ∃ xs, RVs K M' H' I.items xs ∧ SqL K H' a xs
def IsT (T : List (Addr × Str)) (K : Frag) (M : Pl) (H : Hp) (I : DIt) (a : Addr) : Prop := ∀ M' H' st', Later M H M' H' → RS T K M' st' H' → okS I st' → ∃ xs, RVs K M' H' I.items xs ∧ SqT K H' a xs
theorem SrcAt.lt (h : SrcAt K M H I a) : IsL T K M H I a ∨ IsT T K M H I a := by
  cases h with
  | lst h r e => exact .inl fun M' H' st' l s ok => ⟨_, r.later l, h M' H' l⟩
  | tup h r e => exact .inr fun M' H' st' l s ok => ⟨_, r.later l, h M' H' l⟩
  | ref h e =>
    refine .inl fun M' H' st' l s ok => ?_
    rcases ok with z | ⟨n', ys, z, q⟩
    · rw [e] at z; cases z
    · rw [e] at z
      cases z
      obtain ⟨xs, e1, e2⟩ := s.obj _ a _ (l.get _ _ h) q
      exact ⟨xs, e2, .inl (.inl e1)⟩
theorem IsL.it (h : IsL T K M H I a) : ItOk T K M H (Itl K a) I := by
  refine ⟨fun M' H' st' l s ok i d e => ?_, fun M' H' st' l s ok => ?_⟩
  · obtain ⟨xs, r, q⟩ := h M' H' st' l s ok
    obtain ⟨v, e1, rv⟩ := r.get e
    refine ⟨⟨xs, v, q, e1⟩, fun x H'' y => ?_⟩
    obtain ⟨rfl, y⟩ := y
    have z := y xs q
    rw [e1] at z
    cases z
    exact ⟨Grow.refl _ _, s, rv⟩
  · obtain ⟨xs, r, q⟩ := h M' H' st' l s ok
    exact ⟨xs, q, by rw [r.length]; exact Nat.le_refl _⟩
theorem IsT.it (h : IsT T K M H I a) : ItOk T K M H (Itt K a) I := by
  refine ⟨fun M' H' st' l s ok i d e => ?_, fun M' H' st' l s ok => ?_⟩
  · obtain ⟨xs, r, q⟩ := h M' H' st' l s ok
    obtain ⟨v, e1, rv⟩ := r.get e
    refine ⟨⟨xs, v, q, e1⟩, fun x H'' y => ?_⟩
    obtain ⟨rfl, y⟩ := y
    have z := y xs q
    rw [e1] at z
    cases z
    exact ⟨Grow.refl _ _, s, rv⟩
  · obtain ⟨xs, r, q⟩ := h M' H' st' l s ok
    exact ⟨xs, q, by rw [r.length]; exact Nat.le_refl _⟩
end
theorem Later.refl (M : Pl) (H : Hp) : Later M H M H := (Grow.refl M H).later
section
variable {T : List (Addr × Str)} {X : Cx} {tg e : Expr} {f fa fb : DTE} {pos p : Pos}
theorem di_seq (he : DE T X e f) : DI T X tg e (wSeq f) := PI.imp (pi_seq he) fun σ H R ⟨M, r, st, R', s, re, h, k⟩ => ⟨M, r, st, _, s, re, h, fun M1 H1 st1 d v g1 s1 r1 q => by
  obtain ⟨I, e, q⟩ := onO.of q
  obtain ⟨a, rfl, src, ok⟩ := itOf.src s1 r1 e
  rcases src.lt (T := T) with l | l
  · obtain ⟨xs, _, sq⟩ := l M1 H1 st1 (Later.refl _ _) s1 ok
    exact ⟨a, rfl, .inl ⟨⟨xs, sq⟩, k M1 H1 st1 _ I g1 s1 q l.it⟩⟩
  · obtain ⟨xs, _, sq⟩ := l M1 H1 st1 (Later.refl _ _) s1 ok
    exact ⟨a, rfl, .inr ⟨⟨xs, sq⟩, k M1 H1 st1 _ I g1 s1 q l.it⟩⟩⟩
def rgD (lo : Int) (n : Nat) : List D := (List.range n).map fun i => D.int (lo + (i : Nat))
theorem rgD_get {lo : Int} {n i : Nat} {d : D} (h : (rgD lo n)[i]? = some d) : i < n ∧ d = .int (lo + (i : Nat)) := by
  unfold rgD at h
  rw [List.getElem?_map] at h
  cases q : (List.range n)[i]? with
  | none => rw [q] at h; cases h
  | some j =>
    rw [q] at h
    obtain ⟨l, e⟩ := List.getElem?_eq_some_iff.mp q
    rw [List.getElem_range] at e
    rw [List.length_range] at l
    subst e
    cases h
    exact ⟨l, rfl⟩
theorem rgD_length (lo : Int) (n : Nat) : (rgD lo n).length = n := by unfold rgD; rw [List.length_map, List.length_range]
theorem itok_range {K : Frag} {M : Pl} {H : Hp} {lo : Int} {n : Nat} : ItOk T K M H (Itr lo n) ⟨rgD lo n, none⟩ := by
  refine ⟨fun M' H' st' l s ok i d e => ?_, fun M' H' st' l s ok => ?_⟩
  · obtain ⟨lt, rfl⟩ := rgD_get e
    refine ⟨lt, fun x H'' y => ?_⟩
    obtain ⟨rfl, rfl⟩ := y
    exact ⟨Grow.refl _ _, s, .int _⟩
  · show n ≤ (rgD lo n).length
    rw [rgD_length]
    exact Nat.le_refl _
def wRng1 (fs : DTA) : DTI := fun r st R => fs r st fun ds st1 => on1 ds fun x => onI x fun j => (-(2 ^ 62) ≤ j ∧ j < 2 ^ 62) ∧ R ⟨rgD 0 j.toNat, none⟩ st1
def wRng2 (fs : DTA) : DTI := fun r st R => fs r st fun ds st1 => on2 ds fun x y => onI x fun i => onI y fun j => (-(2 ^ 62) ≤ i ∧ i < 2 ^ 62 ∧ -(2 ^ 62) ≤ j ∧ j < 2 ^ 62) ∧ R ⟨rgD i (j - i).toNat, none⟩ st1
theorem di_range1 {a : Expr} {fs : DTA} (hg : Gl X "range") (hm : X.mg "range" = none) (ha : DA T X [a] fs) (hs : starEach [a] X.env = [(false, eval a X.env)] := by rfl) : DI T X tg (.Call (.Name "range" p) [a] [] pos) (wRng1 fs) :=
  PI.imp (pi_range1 hg hm ha hs) fun σ H R ⟨M, r, st, R', s, re, h, k⟩ => ⟨M, r, st, _, s, re, h, fun M1 H1 st1 ds vs g1 s1 r1 q => by
    obtain ⟨x, rfl, q⟩ := on1.of q
    obtain ⟨j, rfl, b, q⟩ := onI.of q
    obtain ⟨v, rfl, rv⟩ := r1.one
    cases rv
    exact ⟨j, rfl, b.1, b.2, k M1 H1 st1 _ _ g1 s1 q itok_range⟩⟩
end
mutual
def clo (n : Nat) : D → Bool
  | .tup ds => clos n ds
  | .tuk ds => clos n ds
  | .lst ds => clos n ds
  | .scr ds => clos n ds
  | .ref k => decide (k < n)
  | _ => true
def clos (n : Nat) : List D → Bool
  | [] => true
  | d :: ds => clo n d && clos n ds
end
def cloO (n : Nat) : O → Bool
  | .lst ds => clos n ds
  | .dK kvs => clos n (kvs.map (·.2))
  | .dT kvs => clos n (kvs.map (·.2))
  | .lk _ _ kvs => clos n (kvs.map (·.2))
  | .lkT _ _ kvs => clos n (kvs.map (·.2))
  | .ins _ fs => clos n (fs.map (·.2))
def cloR (n : Nat) (r : DEnv) : Prop := ∀ (i : Nat) (d : D), r[i]? = some (some d) → clo n d = true
def cloS (st0 : DSt) (n : Nat) (st : DSt) : Prop := ∀ (i : Nat) (o : O), i < n → st[i]? = some o → st0[i]? = some o ∨ cloO n o = true
def Less (r r' : DEnv) : Prop := r.length = r'.length ∧ ∀ (i : Nat) (d : D), r[i]? = some (some d) → r'[i]? = some (some d)
theorem Less.refl (r : DEnv) : Less r r := ⟨rfl, fun _ _ h => h⟩
def Pl.cut (M : Pl) (n : Nat) : Pl := ⟨M.h, M.m.take (M.h + n)⟩
section
variable {T : List (Addr × Str)} {K : Frag} {M : Pl} {H : Hp} {st : DSt}
theorem cut_at {n k : Nat} {a : Addr} (h : M.at_ k = some a) (lt : k < n) : (M.cut n).at_ k = some a := by
  unfold Pl.at_ Pl.cut
  show (M.m.take (M.h + n))[M.h + k]? = some a
  rw [List.getElem?_take, if_pos (by omega)]
  exact h
theorem cut_notin {n : Nat} {a : Addr} (h : a ∉ M.m) : a ∉ (M.cut n).m := fun z => h (List.mem_of_mem_take z)
mutual
theorem RV.cut {n : Nat} : ∀ {d : D} {v : V}, RV K M H d v → clo n d = true → RV K (M.cut n) H d v
  | _, _, .non, _ => .non
  | _, _, .bl b, _ => .bl b
  | _, _, .int i, _ => .int i
  | _, _, .str x, _ => .str x
  | _, _, .tup nn h e r, c => .tup (cut_notin nn) h e (r.cut (by simpa [clo] using c))
  | _, _, .tuk nn h r, c => .tuk (cut_notin nn) h (r.cut (by simpa [clo] using c))
  | _, _, .lst nn h r, c => .lst (cut_notin nn) h (r.cut (by simpa [clo] using c))
  | _, _, .scr nn h r, c => .scr (cut_notin nn) h (r.cut (by simpa [clo] using c))
  | _, _, .lsk h r, c => .lsk h (r.cut (by simpa [clo] using c))
  | _, _, .ref h, c => .ref (cut_at h (by simpa [clo] using c))
theorem RVs.cut {n : Nat} : ∀ {d : List D} {v : List V}, RVs K M H d v → clos n d = true → RVs K (M.cut n) H d v
  | _, _, .nil, _ => .nil
  | _, _, .cons h t, c => by
    simp only [clos, Bool.and_eq_true] at c
    exact .cons (h.cut c.1) (t.cut c.2)
end
theorem RO.cut {n : Nat} {o : O} {a : Addr} (h : RO K M H o a) (c : cloO n o = true) : RO K (M.cut n) H o a := by
  cases o with
  | lst ds => obtain ⟨xs, h1, h2⟩ := h; exact ⟨xs, h1, h2.cut c⟩
  | dK kvs => obtain ⟨ys, h1, h2, h3⟩ := h; exact ⟨ys, h1, h2, h3.cut c⟩
  | dT kvs => obtain ⟨ys, h1, h2, h3, h4⟩ := h; exact ⟨ys, h1, h2, h3.cut c, fun y hy => ⟨cut_notin (h4 y hy).1, (h4 y hy).2⟩⟩
  | lk ob ys kvs => obtain ⟨h1, h2, h3⟩ := h; exact ⟨h1, h2, h3.cut c⟩
  | lkT ob ys kvs => obtain ⟨h1, h2, h3, h4⟩ := h; exact ⟨h1, h2, h3.cut c, fun y hy => ⟨cut_notin (h4 y hy).1, (h4 y hy).2⟩⟩
  | ins C fs => obtain ⟨dx, ys, h1, h2, h3⟩ := h; exact ⟨dx, ys, h1, h2, h3.cut c⟩
mutual
theorem clo_mono {n m : Nat} (l : n ≤ m) : ∀ {d : D}, clo n d = true → clo m d = true
  | .non, _ => by simp [clo]
  | .bl _, _ => by simp [clo]
  | .int _, _ => by simp [clo]
  | .str _, _ => by simp [clo]
  | .tup ds, h => by simp only [clo] at h ⊢; exact clos_mono l h
  | .tuk ds, h => by simp only [clo] at h ⊢; exact clos_mono l h
  | .lst ds, h => by simp only [clo] at h ⊢; exact clos_mono l h
  | .scr ds, h => by simp only [clo] at h ⊢; exact clos_mono l h
  | .ref k, h => by
    simp only [clo, decide_eq_true_eq] at h ⊢
    omega
theorem clos_mono {n m : Nat} (l : n ≤ m) : ∀ {d : List D}, clos n d = true → clos m d = true
  | [], _ => by simp [clos]
  | d :: ds, h => by
    simp only [clos, Bool.and_eq_true] at h ⊢
    exact ⟨clo_mono l h.1, clos_mono l h.2⟩
end
theorem cloO_mono {n m : Nat} (l : n ≤ m) {o : O} (h : cloO n o = true) : cloO m o = true := by
  cases o <;> exact clos_mono l h
mutual
theorem RV.clo {n : Nat} (len : M.m.length = M.h + n) : ∀ {d : D} {v : V}, RV K M H d v → DL.clo n d = true
  | _, _, .non => by simp [DL.clo]
  | _, _, .bl b => by simp [DL.clo]
  | _, _, .int i => by simp [DL.clo]
  | _, _, .str x => by simp [DL.clo]
  | _, _, .tup nn h e r => by simp only [DL.clo]; exact RVs.clo len r
  | _, _, .tuk nn h r => by simp only [DL.clo]; exact RVs.clo len r
  | _, _, .lst nn h r => by simp only [DL.clo]; exact RVs.clo len r
  | _, _, .scr nn h r => by simp only [DL.clo]; exact RVs.clo len r
  | _, _, .lsk h r => by simp only [DL.clo]; exact RVs.clo len r
  | _, _, .ref h => by
    have := (List.getElem?_eq_some_iff.mp h).1
    simp only [DL.clo, decide_eq_true_eq]
    omega
theorem RVs.clo {n : Nat} (len : M.m.length = M.h + n) : ∀ {d : List D} {v : List V}, RVs K M H d v → DL.clos n d = true
  | _, _, .nil => by simp [DL.clos]
  | _, _, .cons h t => by
    simp only [DL.clos, Bool.and_eq_true]
    exact ⟨RV.clo len h, RVs.clo len t⟩
end
theorem RS.clo (s : RS T K M st H) {i : Nat} {o : O} (e : st[i]? = some o) : cloO st.length o = true := by
  obtain ⟨a, _, ro⟩ := s.addr e
  cases o with
  | lst ds => obtain ⟨xs, h1, h2⟩ := ro; exact h2.clo s.len
  | dK kvs => obtain ⟨ys, h1, h2, h3⟩ := ro; exact h3.clo s.len
  | dT kvs => obtain ⟨ys, h1, h2, h3, h4⟩ := ro; exact h3.clo s.len
  | lk ob ys kvs => obtain ⟨h1, h2, h3⟩ := ro; exact h3.clo s.len
  | lkT ob ys kvs => obtain ⟨h1, h2, h3, h4⟩ := ro; exact h3.clo s.len
  | ins C fs => obtain ⟨dx, ys, h1, h2, h3⟩ := ro; exact h3.clo s.len
theorem cloS.all {M0 : Pl} {H0 : Hp} {st0 : DSt} {n : Nat} (h : cloS st0 n st) (s0 : RS T K M0 st0 H0) (l : st0.length ≤ n) : ∀ (i : Nat) (o : O), i < n → st[i]? = some o → cloO n o = true := fun i o lt e => by
  rcases h i o lt e with q | q
  · exact cloO_mono l (s0.clo q)
  · exact q
theorem RS.cut {n : Nat} (s : RS T K M st H) (l : n ≤ st.length) (c : ∀ (i : Nat) (o : O), i < n → st[i]? = some o → cloO n o = true) : RS T K (M.cut n) (st.take n) H := by
  refine ⟨?_, List.Nodup.sublist (List.take_sublist _ _) s.nd, fun k a o e1 e2 => ?_, s.tabs, fun a ha => s.hid a ?_⟩
  · show (M.m.take (M.h + n)).length = M.h + (st.take n).length
    rw [List.length_take, List.length_take, s.len]
    omega
  · have lt : k < n := by
      have := (List.getElem?_eq_some_iff.mp e2).1
      rw [List.length_take] at this
      omega
    rw [List.getElem?_take, if_pos lt] at e2
    have e1' : (M.m.take (M.h + n))[M.h + k]? = some a := e1
    rw [List.getElem?_take, if_pos (by omega)] at e1'
    exact (s.obj k a o e1' e2).cut (c k o lt e2)
  · have ha' : a ∈ (M.m.take (M.h + n)).take M.h := ha
    rw [List.take_take, Nat.min_eq_left (by omega)] at ha'
    exact ha'
theorem RE.cut {n : Nat} {r r' : DEnv} {σ : L2.St} (re : RE K M H r σ) (l : Less r' r) (c : cloR n r') : RE K (M.cut n) H r' σ :=
  ⟨l.1.trans re.len, fun i d e => by
    obtain ⟨v, e1, e2⟩ := re.at_ i d (l.2 i d e)
    exact ⟨v, e1, e2.cut (c i d e)⟩⟩
theorem Grow.cut {M0 : Pl} {H0 : Hp} {st0 : DSt} {n : Nat} (g : Grow M0 H0 M H) (s0 : RS T K M0 st0 H0) (l : st0.length ≤ n) : Grow M0 H0 (M.cut n) H := by
  refine ⟨?_, g.keep, g.there, g.hid⟩
  obtain ⟨m, rfl, f⟩ := g.more
  refine ⟨m.take (n - st0.length), ?_, fun a ha => f a (List.mem_of_mem_take ha)⟩
  unfold Pl.cut Pl.app
  show Pl.mk M0.h ((M0.m ++ m).take (M0.h + n)) = _
  rw [List.take_append, List.take_of_length_le (by rw [s0.len]; omega), s0.len, show M0.h + n - (M0.h + st0.length) = n - st0.length by omega]
end
def Wk (b : DSt) (P : DEnv → DSt → Prop) : DEnv → DSt → Prop := fun r st => P r st ∨ ∃ r' n, b.length ≤ n ∧ n ≤ st.length ∧ Less r' r ∧ cloR n r' ∧ cloS b n st ∧ P r' (st.take n)
theorem Wk.sound {T : List (Addr × Str)} {K : Frag} {M M0 : Pl} {H H0 : Hp} {st st0 : DSt} {r : DEnv} {σ : L2.St} {P : DEnv → DSt → Prop} (h : Wk st0 P r st) (s0 : RS T K M0 st0 H0) (g : Grow M0 H0 M H) (s : RS T K M st H) (re : RE K M H r σ) :
    ∃ M' r' st', Grow M0 H0 M' H ∧ RS T K M' st' H ∧ RE K M' H r' σ ∧ P r' st' := by
  rcases h with h | ⟨r', n, h1, h2, h3, h4, h5, h6⟩
  · exact ⟨M, r, st, g, s, re, h⟩
  · exact ⟨M.cut n, r', st.take n, g.cut s0 h1, s.cut h2 (h5.all s0 h1), re.cut h3 h4, h6⟩
def forL (I : DIt) (g : DTG) (F : DTS) (E : DEnds) (b : DSt) : List D → DEnv → DSt → Prop
  | [], r, st => okI I st (E.nx r st)
  | d :: ds, r, st => okI I st (g d r st fun r1 st1 => F { nx := Wk b (forL I g F E b ds), rt := E.rt, bk := E.nx, ct := Wk b (forL I g F E b ds) } r1 st1)
def sFor (f : DTI) (g : DTG) (F : DTS) : DTS := fun E r st => f r st fun I st1 => forL I g F E st1 I.items r st1
section
variable {T : List (Addr × Str)} {X : Cx} {tg iter : Expr} {f : DTI} {g : DTG} {F : DTS} {pos : Pos} {vs : List Nat}
theorem ds_for {body : List Stmt} (hp : PassesOwn (model X.prog X.w) X.A X.env X.xe) (hc : X.calm = true) (hi : DI T X tg iter f) (hg : DG T X vs tg g) (hb : DSs T X body F) (hs : ∀ x, foldedSetIterable iter X.env x = pure x := by intro _; rfl) :
    DSt1 T X (.For tg iter body [] pos) (sFor f g F) :=
  PS.imp (ps_for hp hc hi hg hb hs) fun E σ H ⟨M, r, st, E', s, re, h, k⟩ => ⟨M, r, st, _, s, re, h, fun M1 H1 st1 J I g1 s1 q it => by
    refine ⟨fun i m σ' H' => ∃ M' r' st', Grow M1 H1 M' H' ∧ RS T X.K M' st' H' ∧ RE X.K M' H' r' σ' ∧ i ≤ I.items.length ∧ m = I.items.length - i ∧ forL I g F E' st1 (I.items.drop i) r' st', ⟨I.items.length, M1, r, st1, Grow.refl _ _, s1, re.grow g1, Nat.zero_le _, rfl, q⟩, fun i m σ' H' w => ?_⟩
    obtain ⟨M', r', st', gr, s', re', le, rfl, fl⟩ := w
    cases e : I.items.drop i with
    | nil =>
      rw [e] at fl
      obtain ⟨ok, q⟩ := okI.of fl
      have ei : i = I.items.length := by
        have := List.drop_eq_nil_iff.mp e
        omega
      refine .inl ⟨?_, k.nx M' H' σ' r' st' (g1.trans gr) s' re' q⟩
      rw [ei]
      exact it.stop M' H' st' gr.later s' ok
    | cons d ds =>
      rw [e] at fl
      obtain ⟨ok, q⟩ := okI.of fl
      have at_ : I.items[i]? = some d := by
        have z : (I.items.drop i)[0]? = some d := by rw [e]; rfl
        rw [List.getElem?_drop, Nat.add_zero] at z
        exact z
      have lt : i < I.items.length := (List.getElem?_eq_some_iff.mp at_).1
      have ds_ : I.items.drop (i + 1) = ds := by
        have z : (I.items.drop i).drop 1 = ds := by rw [e]; rfl
        rw [List.drop_drop] at z
        exact z
      obtain ⟨go, yl⟩ := it.go M' H' st' gr.later s' ok i d at_
      refine .inr ⟨go, fun σ2 H2 => ∃ M2 r2 st2, Grow M1 H1 M2 H2 ∧ RS T X.K M2 st2 H2 ∧ RE X.K M2 H2 r2 σ2 ∧ forL I g F E' st1 ds r2 st2, fun σ2 H2 ⟨M2, r2, st2, g2, s2, re2, q2⟩ => ⟨I.items.length - (i + 1), by omega, M2, r2, st2, g2, s2, re2, lt, rfl, by rw [ds_]; exact q2⟩, fun x H2 y => ?_⟩
      obtain ⟨g2, s2, r2⟩ := yl x H2 y
      refine ⟨M', r', st', d, _, s2, re'.grow g2, r2, q, fun M3 H3 σ3 r3 st3 g3 s3 re3 _ q3 => ?_⟩
      refine ⟨M3, r3, st3, _, s3, re3, q3, ?_⟩
      have g13 : Grow M1 H1 M3 H3 := (gr.trans g2).trans g3
      refine ⟨fun M4 H4 σ4 r4 st4 g4 s4 re4 q4 => ?_, (k.rt.grow g1).grow g13, (k.nx.grow g1).grow g13, fun M4 H4 σ4 r4 st4 g4 s4 re4 q4 => ?_⟩
      · exact (Wk.sound q4 s1 (g13.trans g4) s4 re4)
      · exact (Wk.sound q4 s1 (g13.trans g4) s4 re4)⟩
def whileL (t : DTT) (F : DTS) (E : DEnds) (b : DSt) : Nat → DEnv → DSt → Prop
  | 0, _, _ => False
  | n + 1, r, st => t r st fun c st1 => if c = true then F { nx := Wk b (whileL t F E b n), rt := E.rt, bk := E.nx, ct := Wk b (whileL t F E b n) } r st1 else E.nx r st1
def sWhile (t : DTT) (F : DTS) : DTS := fun E r st => ∃ n, whileL t F E st n r st
theorem ds_while {c : Expr} {body : List Stmt} {t : DTT} (hp : PassesOwn (model X.prog X.w) X.A X.env X.xe) (hc : DT T X c t) (hb : DSs T X body F) : DSt1 T X (.While c body [] pos) (sWhile t F) :=
  PS.imp (ps_while hp hc hb) fun E σ H ⟨M1, r, st1, E', s1, re, ⟨n, h⟩, k⟩ => by
    refine ⟨fun m σ' H' => ∃ M' r' st', Grow M1 H M' H' ∧ RS T X.K M' st' H' ∧ RE X.K M' H' r' σ' ∧ whileL t F E' st1 m r' st', ⟨n, M1, r, st1, Grow.refl _ _, s1, re, h⟩, fun m σ' H' w => ?_⟩
    obtain ⟨M', r', st', gr, s', re', wl⟩ := w
    cases m with
    | zero => exact wl.elim
    | succ m =>
      refine ⟨M', r', st', _, s', re', wl, fun M2 H2 st2 c g2 s2 q => ?_⟩
      cases c with
      | true =>
        rw [if_pos rfl] at q ⊢
        refine ⟨fun σ3 H3 => ∃ M3 r3 st3, Grow M1 H M3 H3 ∧ RS T X.K M3 st3 H3 ∧ RE X.K M3 H3 r3 σ3 ∧ whileL t F E' st1 m r3 st3, fun σ3 H3 z => ⟨m, Nat.lt_succ_self m, z⟩, M2, r', st2, _, s2, re'.grow g2, q, ?_⟩
        have g12 := gr.trans g2
        exact ⟨fun M4 H4 σ4 r4 st4 g4 s4 re4 q4 => Wk.sound q4 s1 (g12.trans g4) s4 re4, k.rt.grow g12, k.nx.grow g12, fun M4 H4 σ4 r4 st4 g4 s4 re4 q4 => Wk.sound q4 s1 (g12.trans g4) s4 re4⟩
      | false =>
        rw [if_neg (by decide)] at q ⊢
        exact k.nx M2 H2 σ' r' st2 (gr.trans g2) s2 (re'.grow g2) q
end
end DL
namespace DL
open PySem PySem.Spec PyProof.Rows L2 LamX PySem.W SL
def wipeD (r : DEnv) : List Nat → DEnv
  | [] => r
  | v :: vs => (wipeD r vs).set v none
theorem RE.forget {K : Frag} {M : Pl} {H : Hp} {r : DEnv} {σ : L2.St} (h : RE K M H r σ) (i : Nat) (x : Option V) : RE K M H (r.set i none) (σ.set i x) := by
  refine ⟨by rw [List.length_set, List.length_set]; exact h.len, fun j c e => ?_⟩
  by_cases q : j = i
  · subst q
    have lt : j < r.length := by
      have := (List.getElem?_eq_some_iff.mp e).1
      rw [List.length_set] at this
      exact this
    rw [List.getElem?_set_self lt] at e
    cases e
  · rw [List.getElem?_set_ne (fun z => q z.symm)] at e ⊢
    exact h.at_ j c e
theorem RE.wipe {K : Frag} {M : Pl} {H : Hp} {r : DEnv} {σ : L2.St} (h : RE K M H r σ) : ∀ vs : List Nat, RE K M H (wipeD r vs) (L2.wipe σ vs)
  | [] => h
  | v :: vs => (RE.wipe h vs).forget v none
theorem RE.later {K : Frag} {M M' : Pl} {H H' : Hp} {r : DEnv} {σ : L2.St} (h : RE K M H r σ) (g : Later M H M' H') : RE K M' H' r σ :=
  ⟨h.len, fun i d e => by obtain ⟨v, e1, e2⟩ := h.at_ i d e; exact ⟨v, e1, e2.later g⟩⟩
def dtYes : DTT := fun _ st Q => Q true st
def compL (I : DIt) (g : DTG) (tt : DTT) (te : DTE) (r : DEnv) (Q : List D → DSt → Prop) : List D → List D → DSt → Prop
  | [], acc, st => okI I st (Q acc st)
  | d :: ds, acc, st => okI I st (g d r st fun r2 st2 => tt r2 st2 fun b st3 => if b = true then te r2 st3 fun y st4 => compL I g tt te r Q ds (acc ++ [y]) st4 else compL I g tt te r Q ds acc st3)
def dLcG (f : DTI) (g : DTG) (tt : DTT) (te : DTE) (vs : List Nat) (fin : (D → DSt → Prop) → List D → DSt → Prop) : DTE := fun r st Q => f r st fun I st1 => I.items.length ≤ sizeLine ∧ compL I g tt te (wipeD r vs) (fin Q) I.items [] st1
def finT (Q : D → DSt → Prop) (acc : List D) (st : DSt) : Prop := Q (.lst acc) st
def finN (Q : D → DSt → Prop) (acc : List D) (st : DSt) : Prop := Q (.ref st.length) (st ++ [.lst acc])
def FinOk (T : List (Addr × Str)) (K : Frag) (fin : (D → DSt → Prop) → List D → DSt → Prop) : Prop := ∀ (M M' : Pl) (H H' : Hp) (st' : DSt) (p : Addr) (acc : List D) (xs : List V) (Q' : DK) (Q : VK), H p = none → Grow M H M' H' → RS T K (M'.hide p) st' H' →
  H' p = some (.lst xs) → RVs K (M'.hide p) H' acc xs → Kn T K M H Q' Q → fin Q' acc st' → Q (.ref p) H'
theorem finT_ok {T : List (Addr × Str)} {K : Frag} : FinOk T K finT := by
  intro M M' H H' st' p acc xs Q' Q np g s' hp r k q
  exact k M' H' st' (.lst acc) (.ref p) g s'.unhide (.lst (List.nodup_cons.mp s'.nd).1 hp (r.later later_unhide)) q
theorem Grow.step {T : List (Addr × Str)} {K : Frag} {M M1 M2 : Pl} {H H1 H2 : Hp} {st : DSt} {p : Addr} {o : HO} (g : Grow M H M1 H1) (s : RS T K M st H) (np : H p = none) (g2 : Grow (M1.hide p) H1 (M2.hide p) H2) : Grow M H M2 (upd H2 p o) := by
  refine ⟨?_, fun a u n e t => ?_, fun a t => ?_, fun a ha => ?_⟩
  · obtain ⟨m1, rfl, f1⟩ := g.more
    obtain ⟨m2, e, f2⟩ := g2.more
    rw [Pl.hide_app] at e
    have e := Pl.hide_inj e
    subst e
    refine ⟨m1 ++ m2, by unfold Pl.app; simp, fun a ha => ?_⟩
    rcases List.mem_append.mp ha with z | z
    · exact f1 a z
    · exact fun q => f2 a z (g.there a q)
  · have ne : a ≠ p := ne_of_none e np
    rw [upd_ne ne]
    refine g2.keep a u (fun z => ?_) (g.keep a u n e t) t
    rcases List.mem_cons.mp z with z | z
    · exact ne z
    · exact g.notin n ⟨u, e, t⟩ z
  · exact (g2.there a (g.there a t)).upd (t.ne np)
  · obtain ⟨xs, e⟩ := s.hid a ha
    have ne : a ≠ p := ne_of_none e np
    rw [upd_ne ne]
    refine (g2.hid a ?_).trans (g.hid a ha)
    show a ∈ (p :: M1.m).take (M1.h + 1)
    rw [List.take_succ_cons]
    obtain ⟨m1, rfl, f1⟩ := g.more
    exact List.mem_cons_of_mem _ (take_app ha)
theorem upd_self {H : Hp} {p : Addr} {o : HO} (h : H p = some o) : upd H p o = H := by
  funext a
  by_cases z : a = p
  · rw [z, upd_same, h]
  · rw [upd_ne z]
theorem Grow.lateHide {M M' : Pl} {H H' : Hp} {p : Addr} (g : Grow M H M' H') (np : H p = none) : Later M H (M'.hide p) H' := by
  refine ⟨g.keep, fun n a h => by rw [Pl.hide_at]; exact g.get h, fun a n t z => ?_⟩
  rcases List.mem_cons.mp z with z | z
  · exact t.ne np z
  · exact g.notin n t z
theorem hidden_at {M : Pl} {p : Addr} : p ∈ (M.hide p).m.take (M.hide p).h := by
  show p ∈ (p :: M.m).take (M.h + 1)
  rw [List.take_succ_cons]
  exact List.mem_cons_self
theorem grow_hide {M M2 : Pl} {H H2 : Hp} {p : Addr} (g : Grow (M.hide p) H M2 H2) : ∃ N : Pl, M2 = N.hide p := by
  obtain ⟨m, rfl, _⟩ := g.more
  exact ⟨M.app m, Pl.hide_app M p m⟩
theorem RS.push {T : List (Addr × Str)} {K : Frag} {M : Pl} {H : Hp} {st : DSt} {p : Addr} {xs ys : List V} (s : RS T K (M.hide p) st H) (hp : H p = some (.lst xs)) : RS T K (M.hide p) st (upd H p (.lst ys)) ∧ Later (M.hide p) H (M.hide p) (upd H p (.lst ys)) := by
  have l : Later (M.hide p) H (M.hide p) (upd H p (.lst ys)) := ⟨fun a o n e _ => by
    rw [upd_ne fun z => n (by rw [z]; exact List.mem_cons_self)]
    exact e, fun _ _ h => h, fun _ h _ => h⟩
  refine ⟨⟨s.len, s.nd, fun n a o e1 e2 => ?_, tabs_upd s.tabs fun b u hb z => ?_, fun a ha => ?_⟩, l⟩
  · refine (s.obj n a o e1 e2).later l (upd_ne fun z => ?_)
    rw [Pl.hide_at] at e1
    exact (List.nodup_cons.mp s.nd).1 (by rw [← z]; exact Pl.at_mem e1)
  · exact (s.tabNe List.mem_cons_self hb z).symm
  · by_cases z : a = p
    · rw [z]; exact ⟨ys, upd_same⟩
    · rw [upd_ne z]; exact s.hid a ha
theorem wipe_wipe (σ : L2.St) (vs : List Nat) : L2.wipe (L2.wipe σ vs) vs = L2.wipe σ vs := by
  have no : ∀ (ws : List Nat) (τ : L2.St) (i : Nat), (L2.wipe τ ws).set i none = L2.wipe (τ.set i none) ws := by
    intro ws
    induction ws with
    | nil => intro τ i; rfl
    | cons w ws ih =>
      intro τ i
      show ((L2.wipe τ ws).set w none).set i none = (L2.wipe (τ.set i none) ws).set w none
      rw [← ih τ i]
      by_cases e : w = i
      · rw [e]
      · rw [List.set_comm _ _ e]
  induction vs generalizing σ with
  | nil => rfl
  | cons v vs ih =>
    show (L2.wipe ((L2.wipe σ vs).set v none) vs).set v none = (L2.wipe σ vs).set v none
    rw [← no vs (L2.wipe σ vs) v, ih, List.set_set]
theorem lift_lc {T : List (Addr × Str)} {K : Frag} {f : DTI} {g : DTG} {tt : DTT} {te : DTE} {vs : List Nat} {fin : (D → DSt → Prop) → List D → DSt → Prop} (fo : FinOk T K fin) {σ : L2.St} {H : Hp} {Q : VK} (h : lift T K (dLcG f g tt te vs fin) σ H Q) :
    tLc (liftI T K f) (liftG T K vs g) (liftT T K tt) (lift T K te) vs σ H Q := by
  obtain ⟨M, r, st, Q', s, re, h, k⟩ := h
  refine ⟨M, r, st, _, s, re, h, fun M1 H1 st1 J I g1 s1 q it p np => ?_⟩
  obtain ⟨few, q⟩ := q
  refine ⟨fun i m H' => ∃ (M' : Pl) (acc : List D) (xs : List V) (st' : DSt), Grow M1 H1 M' H' ∧ RS T K (M'.hide p) st' H' ∧ H' p = some (.lst xs) ∧ RVs K (M'.hide p) H' acc xs ∧ acc.length ≤ i ∧ i ≤ I.items.length ∧ m = I.items.length - i ∧
      compL I g tt te (wipeD r vs) (fin Q') (I.items.drop i) acc st', ⟨I.items.length, M1, [], [], st1, Grow.new s1.hid np, s1.hide np, upd_same, .nil, Nat.le_refl _, Nat.zero_le _, rfl, q⟩, fun i m H' w => ?_⟩
  obtain ⟨M', acc, xs, st', gr, s', hp, rs, la, le, rfl, cl⟩ := w
  have lat := gr.lateHide np
  have reN : RE K (M'.hide p) H' (wipeD r vs) (L2.wipe σ vs) := ((re.grow g1).wipe vs).later lat
  cases e : I.items.drop i with
  | nil =>
    rw [e] at cl
    obtain ⟨ok, q⟩ := okI.of cl
    have ei : i = I.items.length := by
      have := List.drop_eq_nil_iff.mp e
      omega
    exact .inl ⟨by rw [ei]; exact it.stop _ H' st' lat s' ok, fo M1 M' H1 H' st' p acc xs Q' Q np gr s' hp rs (k.grow g1) q⟩
  | cons d ds =>
    rw [e] at cl
    obtain ⟨ok, q⟩ := okI.of cl
    have at_ : I.items[i]? = some d := by
      have z : (I.items.drop i)[0]? = some d := by rw [e]; rfl
      rw [List.getElem?_drop, Nat.add_zero] at z
      exact z
    have lt : i < I.items.length := (List.getElem?_eq_some_iff.mp at_).1
    have ds_ : I.items.drop (i + 1) = ds := by
      have z : (I.items.drop i).drop 1 = ds := by rw [e]; rfl
      rw [List.drop_drop] at z
      exact z
    obtain ⟨go, yl⟩ := it.go _ H' st' lat s' ok i d at_
    refine .inr ⟨go, fun H2 => ∃ (M2 : Pl) (acc2 : List D) (xs2 : List V) (st2 : DSt), Grow M1 H1 M2 H2 ∧ RS T K (M2.hide p) st2 H2 ∧ H2 p = some (.lst xs2) ∧ RVs K (M2.hide p) H2 acc2 xs2 ∧ acc2.length ≤ i + 1 ∧ compL I g tt te (wipeD r vs) (fin Q') ds acc2 st2,
      fun H2 ⟨M2, acc2, xs2, st2, a1, a2, a3, a4, a5, a6⟩ => ⟨I.items.length - (i + 1), by omega, M2, acc2, xs2, st2, a1, a2, a3, a4, a5, lt, rfl, by rw [ds_]; exact a6⟩, fun x H2 y => ?_⟩
    obtain ⟨g2, s2, r2⟩ := yl x H2 y
    refine ⟨_, wipeD r vs, st', d, _, s2, reN.grow g2, r2, q, fun M3 H3 σ3 r3 st3 g3 s3 re3 w3 q3 => ⟨w3.trans (wipe_wipe σ vs), M3, r3, st3, _, s3, re3, q3, fun M4 H4 st4 b g4 s4 q4 => ?_⟩⟩
    have g24 := (g2.trans g3).trans g4
    cases b with
    | true =>
      rw [if_pos rfl] at q4
      refine iteT ?_
      refine ⟨M4, r3, st4, _, s4, re3.grow g4, q4, fun M5 H5 st5 z vz g5 s5 r5 q5 => ?_⟩
      have g25 := g24.trans g5
      obtain ⟨N5, rfl⟩ := grow_hide g25
      have hp5 : H5 p = some (.lst xs) := (g25.hid p hidden_at).trans hp
      obtain ⟨s6, l6⟩ := s5.push (ys := xs ++ [vz]) hp5
      refine ⟨xs, hp5, ?_, N5, acc ++ [z], xs ++ [vz], st5, gr.step s1 np g25, s6, upd_same, ?_, by rw [List.length_append]; simp; omega, q5⟩
      · rw [← rs.length]; omega
      · exact ((rs.grow g25).later l6).append (.cons (r5.later l6) .nil)
    | false =>
      rw [if_neg (by decide)] at q4
      refine iteF ?_
      obtain ⟨N4, rfl⟩ := grow_hide g24
      have hp4 : H4 p = some (.lst xs) := (g24.hid p hidden_at).trans hp
      refine ⟨N4, acc, xs, st4, ?_, s4, hp4, rs.grow g24, by omega, q4⟩
      have z := gr.step (o := .lst xs) s1 np g24
      rw [upd_self hp4] at z
      exact z
theorem PTs.imp {X : Cx} {e : List Expr} {t t' : TT} (h : PTs X e t) (i : ∀ σ H Q, t' σ H Q → t σ H Q) : PTs X e t' := ⟨fun pins s σ H Q I z => h.run pins s σ H Q I (i σ H Q z)⟩
abbrev DTs (T : List (Addr × Str)) (X : Cx) (e : List Expr) (f : DTT) : Prop := PTs X e (liftT T X.K f)
section
variable {T : List (Addr × Str)} {X : Cx}
theorem dts_nil : DTs T X [] dtYes := PTs.imp pts_nil fun σ H Q ⟨M, r, st, Q', s, re, h, k⟩ => k M H st true (Grow.refl M H) s h
variable {elt tg iter : Expr} {ifs : List Expr} {scope : Scope} {own : List (Str × Nat)} {pos : Pos} {f : DTI} {g : DTG} {tt : DTT} {te : DTE}
theorem de_lcG {fin : (D → DSt → Prop) → List D → DSt → Prop} (fo : FinOk T X.K fin) (hc : X.calm = true) (hN : X.N.Nodup) (hi : DI T X tg iter f) (ok : BlkOk X.N X.env.scope scope own)
    (hg : ∀ (s : Shared) (H : Hp) (C : Addr) (cl : List (Str × Addr)) (fp : List Addr), DG T (X.blk s H scope (compEnvC scope cl C X.env) fp) (own.map (·.2)) tg g) (ht : ∀ (s : Shared) (H : Hp) (C : Addr) (cl : List (Str × Addr)) (fp : List Addr), DTs T (X.blk s H scope (compEnvC scope cl C X.env) fp) ifs tt)
    (he : ∀ (s : Shared) (H : Hp) (C : Addr) (cl : List (Str × Addr)) (fp : List Addr), DE T (X.blk s H scope (compEnvC scope cl C X.env) fp) elt te) (hs : ∀ x, foldedSetIterable iter X.env x = pure x := by intro _; rfl) :
    DE T X (.ListComp elt [⟨tg, iter, ifs, 0⟩] scope pos) (dLcG f g tt te (own.map (·.2)) fin) :=
  PE.imp (pe_lc hc hN hi ok hg ht he hs) fun _ _ _ h => lift_lc fo h
end
end DL
namespace DL
open PySem PySem.Spec PyProof.Rows L2 LamX PySem.W SL
def spD (T : List (Addr × Str)) (K : Frag) (n : Nat) (g : DRs) : Sp := fun vs H Q _ => vs.length = n ∧ ∃ M st ds Q', RS T K M st H ∧ RVs K M H ds vs ∧ g ds st Q' ∧ Kn T K M H Q' Q
structure FnD (P : Program) (w : World) (K : Frag) (mg : Str → Option Value) (base : Heap) (T : List (Addr × Str)) (k : Nat) (f : Addr) (fd : FuncData) (ps : List Str) (g : DRs) : Prop where
  fn : FnG P w K mg base k f fd ps (spD T K ps.length g)
  ar : ∀ ds st Q, g ds st Q → ds.length = ps.length
mutual
/-- .. its own lists become lists that nobody writes to, at any depth -/
inductive Fz (st : DSt) (n : Nat) : D → D → Prop
  | same {d : D} : clo n d = true → Fz st n d d
  | tup {ds es : List D} : Fzs st n ds es → Fz st n (.tup ds) (.tup es)
  | tuk {ds es : List D} : Fzs st n ds es → Fz st n (.tuk ds) (.tuk es)
  | lst {ds es : List D} : Fzs st n ds es → Fz st n (.lst ds) (.lst es)
  | own {k : Nat} {ds es : List D} : n ≤ k → st[k]? = some (.lst ds) → Fzs st n ds es → Fz st n (.ref k) (.lst es)
inductive Fzs (st : DSt) (n : Nat) : List D → List D → Prop
  | nil : Fzs st n [] []
  | cons {d e : D} {ds es : List D} : Fz st n d e → Fzs st n ds es → Fzs st n (d :: ds) (e :: es)
end
theorem Fzs.same {st : DSt} {n : Nat} : ∀ {ds : List D}, clos n ds = true → Fzs st n ds ds
  | [], _ => .nil
  | d :: ds, h => by
    simp only [clos, Bool.and_eq_true] at h
    exact .cons (.same h.1) (Fzs.same h.2)
theorem notin_cut {T : List (Addr × Str)} {K : Frag} {M : Pl} {H : Hp} {st : DSt} {n m : Nat} {a : Addr} (s : RS T K M st H) (hr : M.at_ n = some a) (le : m ≤ n) : a ∉ (M.cut m).m := by
  intro z
  obtain ⟨i, hi⟩ := List.mem_iff_getElem?.mp z
  have hi' : (M.m.take (M.h + m))[i]? = _ := hi
  rw [List.getElem?_take] at hi'
  split at hi'
  · obtain ⟨l1, q1⟩ := List.getElem?_eq_some_iff.mp hi'
    obtain ⟨l2, q2⟩ := List.getElem?_eq_some_iff.mp hr
    have := (List.getElem_inj s.nd).mp (q1.trans q2.symm)
    omega
  · cases hi'
section
variable {T : List (Addr × Str)} {K : Frag} {M : Pl} {H : Hp} {st : DSt}
mutual
theorem Fz.rv (s : RS T K M st H) {n : Nat} : ∀ {d e : D} {v : V}, Fz st n d e → RV K M H d v → RV K (M.cut n) H e v
  | _, _, _, .same c, r => r.cut c
  | _, _, _, .tup f, .tup a b c r => .tup (cut_notin a) b c (f.rvs s r)
  | _, _, _, .tuk f, .tuk a b r => .tuk (cut_notin a) b (f.rvs s r)
  | _, _, _, .lst f, .lst a b r => .lst (cut_notin a) b (f.rvs s r)
  | _, _, _, .own (ds := ds) le e f, .ref hr => by
    obtain ⟨xs, e1, e2⟩ := s.obj _ _ _ hr e
    exact .lst (notin_cut s hr le) e1 (f.rvs s e2)
theorem Fzs.rvs (s : RS T K M st H) {n : Nat} : ∀ {d e : List D} {v : List V}, Fzs st n d e → RVs K M H d v → RVs K (M.cut n) H e v
  | _, _, _, .nil, .nil => .nil
  | _, _, _, .cons f fs, .cons r rs => .cons (f.rv s r) (fs.rvs s rs)
end
end
def Rt (b : DSt) (Q : DK) : DK := fun d st => Q d st ∨ (∃ n, b.length ≤ n ∧ n ≤ st.length ∧ clo n d = true ∧ cloS b n st ∧ Q d (st.take n)) ∨
  (∃ n d', b.length ≤ n ∧ n ≤ st.length ∧ Fz st n d d' ∧ cloS b n st ∧ Q d' (st.take n))
theorem Rt.sound {T : List (Addr × Str)} {K : Frag} {M M0 : Pl} {H H0 : Hp} {st st0 : DSt} {d : D} {v : V} {Q' : DK} {Q : VK} (h : Rt st0 Q' d st) (s0 : RS T K M0 st0 H0) (k : Kn T K M0 H0 Q' Q) (g : Grow M0 H0 M H) (s : RS T K M st H) (r : RV K M H d v) : Q v H := by
  rcases h with h | ⟨n, h1, h2, h3, h4, h5⟩ | ⟨n, d', h1, h2, h3, h4, h5⟩
  · exact k M H st d v g s r h
  · exact k (M.cut n) H (st.take n) d v (g.cut s0 h1) (s.cut h2 (h4.all s0 h1)) (r.cut h3) h5
  · exact k (M.cut n) H (st.take n) d' v (g.cut s0 h1) (s.cut h2 (h4.all s0 h1)) (h3.rv s r) h5
def startD (n : Nat) (ds : List D) : DEnv := ds.map some ++ List.replicate (n - ds.length) none
theorem RE.start {K : Frag} {M : Pl} {H : Hp} {ds : List D} {vs : List V} (r : RVs K M H ds vs) (N : List Str) : RE K M H (startD N.length ds) (L2.start N vs) := by
  unfold startD L2.start
  refine ⟨by simp [r.length], fun i d e => ?_⟩
  by_cases lt : i < ds.length
  · rw [List.getElem?_append_left (by rw [List.length_map]; exact lt), List.getElem?_map] at e
    rw [List.getElem?_append_left (by rw [List.length_map, ← r.length]; exact lt), List.getElem?_map]
    cases q : ds[i]? with
    | none => rw [q] at e; cases e
    | some y =>
      rw [q] at e
      cases e
      obtain ⟨v, e1, e2⟩ := r.get q
      exact ⟨v, by rw [e1]; rfl, e2⟩
  · rw [List.getElem?_append_right (by rw [List.length_map]; omega), List.getElem?_replicate] at e
    split at e <;> cases e
section
variable {P : Program} {w : World} {K : Frag} {mg : Str → Option Value} {base : Heap} {T : List (Addr × Str)}
theorem fnD_mk {x qual : Str} {st : Stmt} {f : Addr} {fd : FuncData} {N ps : List Str} {k : Nat} {g : DRs} {F' : DTS} (F : Fun K x qual st f fd) (sc : FnScope N ps (defScope st)) (ar : ∀ ds st Q, g ds st Q → ds.length = ps.length)
    (body : ∀ (cdv : Value) (A : Around) (outer : List Env) (s : Shared) (H : Hp) (E : XK), A.guards = some [] → Room k (A.deeper (envOfC qual (defScope st) s.heap.objs.size f cdv)) → DSs T (cxOf CX0 P w K mg base N qual (defScope st) f cdv A outer s H E).nox (defBody st) F')
    (sem : ∀ ds st Q, g ds st Q → F' { nx := fun _ st' => Rt st Q .non st', rt := Rt st Q } (startD N.length ds) st) : FnD P w K mg base T (k + 1) f fd ps g := by
  refine ⟨fnG_mk F sc (fun vs H Q E h => h.1) (fun cdv A outer s H vs Q E gd room h => ⟨_, body cdv A outer s H E gd room, ?_⟩), ar⟩
  obtain ⟨_, M, st', ds, Q', rs, rv, hg, kn⟩ := h
  refine ⟨M, startD N.length ds, st', _, rs, RE.start rv N, sem ds st' Q' hg, ?_⟩
  exact ⟨fun M1 H1 σ1 r1 st1 g1 s1 re1 q => Rt.sound q rs kn g1 s1 .non, fun M1 H1 st1 d v g1 s1 r1 q => Rt.sound q rs kn g1 s1 r1, fun _ _ _ _ _ _ _ _ q => q.elim, fun _ _ _ _ _ _ _ _ q => q.elim⟩
theorem FnD.mono {j k : Nat} {f : Addr} {fd : FuncData} {ps : List Str} {g : DRs} (F : FnD P w K mg base T j f fd ps g) (h : j ≤ k) : FnD P w K mg base T k f fd ps g :=
  ⟨⟨F.fn.size, fun A outer s H args us vs Q E gd room => F.fn.go A outer s H args us vs Q E gd (room.mono h)⟩, F.ar⟩
theorem FnD.imp {k : Nat} {f : Addr} {fd : FuncData} {ps : List Str} {g g' : DRs} (F : FnD P w K mg base T k f fd ps g) (h : ∀ ds st Q, g' ds st Q → g ds st Q) : FnD P w K mg base T k f fd ps g' :=
  ⟨⟨fun vs H Q E q => q.1, fun A outer s H args us vs Q E gd room e0 bd rel q => by
    obtain ⟨l, M, st, ds, Q', rs, rv, hg, kn⟩ := q
    exact F.fn.go A outer s H args us vs Q E gd room e0 bd rel ⟨l, M, st, ds, Q', rs, rv, h _ _ _ hg, kn⟩⟩, fun ds st Q q => F.ar ds st Q (h _ _ _ q)⟩
end
section
variable {T : List (Addr × Str)} {X : Cx} {a b : Expr} {fa fb : DTE} {pos : Pos}
theorem de_call {k : Nat} {f : Addr} {fd : FuncData} {ps : List Str} {g : DRs} {x : Str} {p : Pos} {e : Expr} {es : List Expr} {fs : DTA}
    (F : FnD X.prog X.w X.K X.mg X.base T k f fd ps g) (gd : X.A.guards = some []) (room : Room k X.A) (gl : Gl X x)
    (at_ : X.mg x = some (.ref f)) (keep : PySem.W.keepIn X.K (.ref f) = true) (bd : Binds X.K fd ps []) (args : DA T X (e :: es) fs)
    (h1 : (x == ("__debug__" : Str)) = false := by decide)
    (h2 : starEach (e :: es) X.env = (false, eval e X.env) :: starEach es X.env := by rfl)
    (h3 : (backTo pos (starEach es X.env)).any (·.1) = false := by rfl) :
    DE T X (.Call (.Name x p) (e :: es) [] pos) (dCB g fs) :=
  PE.imp (pe_callG F.fn gd room gl at_ keep bd args h1 h2 h3) fun σ H Q ⟨M, r, st, Q', s, re, h, k⟩ => ⟨M, r, st, _, s, re, h, fun M1 H1 st1 ds vs g1 s1 r1 q => by
    show spD T X.K ps.length g (vs ++ []) H1 Q E0
    rw [List.append_nil]
    exact ⟨by rw [← r1.length]; exact F.ar _ _ _ q, M1, st1, ds, Q', s1, r1, q, k.grow g1⟩⟩
def onL (st : DSt) (d : D) (k : Nat → List D → Prop) : Prop := match d with
  | .ref n => match st[n]? with | some (.lst xs) => k n xs | _ => False
  | _ => False
theorem onL.of {st : DSt} {d : D} {k : Nat → List D → Prop} (h : onL st d k) : ∃ n xs, d = .ref n ∧ st[n]? = some (.lst xs) ∧ k n xs := by
  cases d with
  | ref n =>
    unfold onL at h
    simp only at h
    split at h
    · rename_i xs e; exact ⟨n, xs, rfl, e, h⟩
    · exact h.elim
  | _ => exact h.elim
theorem onL.rd {T : List (Addr × Str)} {K : Frag} {M : Pl} {H : Hp} {st : DSt} {n : Nat} {xs : List D} {v : V} (s : RS T K M st H) (r : RV K M H (.ref n) v) (e : st[n]? = some (.lst xs)) : ∃ a ys, v = .ref a ∧ M.at_ n = some a ∧ H a = some (.lst ys) ∧ RVs K M H xs ys := by
  cases r with
  | ref hm =>
    obtain ⟨ys, e1, e2⟩ := s.obj n _ _ hm e
    exact ⟨_, ys, rfl, hm, e1, e2⟩
theorem Kn.setL {T : List (Addr × Str)} {K : Frag} {M : Pl} {H : Hp} {st : DSt} {Q' : DK} {Q : VK} {n : Nat} {a : Addr} {ds : List D} {ys : List V} {d : D} {v : V} (k : Kn T K M H Q' Q) (s : RS T K M st H) (hm : M.at_ n = some a) (r : RVs K M H ds ys) (rv : RV K M H d v) (q : Q' d (st.set n (.lst ds))) : Q v (upd H a (.lst ys)) := by
  have gw : Grow M H M (upd H a (.lst ys)) := Grow.write s.nd hm
  exact k M _ _ d v gw (s.write (u := .lst ds) hm ⟨ys, upd_same, r.grow gw⟩) (rv.grow gw) q
def MtD (T : List (Addr × Str)) (K : Frag) (r : V → List V → Hp → VK → Prop) (r' : D → List D → DSt → DK → Prop) : Prop := ∀ (M : Pl) (H : Hp) (st : DSt) (x : D) (ds : List D) (v : V) (vs : List V) (Q' : DK) (Q : VK), RS T K M st H → RV K M H x v → RVs K M H ds vs → r' x ds st Q' → Kn T K M H Q' Q → r v vs H Q
def LstD (st : DSt) (x : D) : Prop := match x with | .lst _ => True | .ref n => (match st[n]? with | some (.lst _) => True | _ => False) | _ => False
theorem LstD.ty {K : Frag} {M : Pl} {H : Hp} {st : DSt} {x : D} {v : V} (s : RS T K M st H) (r : RV K M H x v) (h : LstD st x) : tyV K "list" v H := by
  cases r with
  | lst n e rs => exact .inl ⟨rfl, _, .inl (.inl e)⟩
  | scr n e rs => exact h.elim
  | lsk e rs => exact h.elim
  | ref hm =>
    obtain ⟨o, e1, ro⟩ := s.atM hm
    unfold LstD at h
    simp only [e1] at h
    cases o with
    | lst xs => obtain ⟨ys, e2, _⟩ := ro; exact .inl ⟨rfl, ys, .inl (.inl e2)⟩
    | dK _ => exact h.elim
    | dT _ => exact h.elim
    | lk _ _ _ => exact h.elim
    | lkT _ _ _ => exact h.elim
    | ins _ _ => exact h.elim
  | _ => exact h.elim
def dMtL (r' : D → List D → DSt → DK → Prop) (fo : DTE) (fs : DTA) : DTE := fun r st Q => fo r st fun x st1 => LstD st1 x ∧ fs r st1 fun ds st2 => r' x ds st2 Q
theorem de_bmL {o e : Expr} {es : List Expr} {name : Str} {apos cpos : Pos} {id : String} {r : V → List V → Hp → VK → Prop} {r' : D → List D → DSt → DK → Prop} {fo : DTE} {fs : DTA} (slot : Slot "list" name id) (hty : typeOf (.builtin id) = pure (.type "method_descriptor")) (hm : MtR X id r) (hd : MtD T X.K r r') (ho : DE T X o fo) (ha : DA T X (e :: es) fs)
    (h1 : attributeBase o name X.env (eval o X.env) = eval o X.env := by rfl)
    (h2 : ((backTo cpos (starEach (e :: es) X.env)).all (fun x => !x.1) && (backToKw cpos (keywordEach [] X.env)).all (fun x => x.1.isSome) && decide ((e :: es).length + ([] : List Keyword).length + (if ([] : List Keyword).isEmpty then 0 else 1) < 30)) = true := by rfl)
    (h3 : (apos.endLine == cpos.line) = true := by rfl) (h4 : starEach (e :: es) X.env = (false, eval e X.env) :: starEach es X.env := by rfl) (h5 : (backTo cpos (starEach es X.env)).any (·.1) = false := by rfl) :
    DE T X (.Call (.Attribute o name apos) (e :: es) [] cpos) (dMtL r' fo fs) :=
  PE.imp (pe_bm PySem.F.plainAttrs_list slot hty hm ho ha h1 h2 h3 h4 h5) fun σ H Q ⟨M, ρ, st, Q', s, re, h, k⟩ => ⟨M, ρ, st, _, s, re, h, fun M1 H1 st1 x v g1 s1 r1 q => ⟨q.1.ty s1 r1, M1, ρ, st1, _, s1, re.grow g1, q.2, fun M2 H2 st2 ds vs g2 s2 r2 q2 =>
    hd M2 H2 st2 x ds v vs Q' Q s2 (r1.grow g2) r2 q2 ((k.grow g1).grow g2)⟩⟩
theorem de_bmL0 {o : Expr} {name : Str} {apos cpos : Pos} {id : String} {r : V → List V → Hp → VK → Prop} {r' : D → List D → DSt → DK → Prop} {fo : DTE} (slot : Slot "list" name id) (hty : typeOf (.builtin id) = pure (.type "method_descriptor")) (hm : MtR X id r) (hd : MtD T X.K r r') (ho : DE T X o fo)
    (h1 : attributeBase o name X.env (eval o X.env) = eval o X.env := by rfl) (h3 : (apos.endLine == cpos.line) = true := by rfl) :
    DE T X (.Call (.Attribute o name apos) [] [] cpos) (dMtL r' fo daNil) :=
  PE.imp (pe_bm0 PySem.F.plainAttrs_list slot hty hm ho h1 h3) fun σ H Q ⟨M, ρ, st, Q', s, re, h, k⟩ => ⟨M, ρ, st, _, s, re, h, fun M1 H1 st1 x v g1 s1 r1 q => ⟨q.1.ty s1 r1,
    hd M1 H1 st1 x [] v [] Q' Q s1 r1 .nil q.2 (k.grow g1)⟩⟩
def mAppend : D → List D → DSt → DK → Prop := fun x ds st Q => on1 ds fun y => onL st x fun n xs => xs.length < sizeLine ∧ Q .non (st.set n (.lst (xs ++ [y])))
theorem mtD_append {K : Frag} : MtD T K rAppend mAppend := by
  intro M H st x ds v vs Q' Q s rx rs h k
  obtain ⟨y, rfl, h⟩ := on1.of h
  obtain ⟨n, xs, rfl, e, lt, q⟩ := onL.of h
  obtain ⟨w, rfl, rw'⟩ := rs.one
  obtain ⟨a, ys, rfl, hm, e1, e2⟩ := onL.rd s rx e
  exact ⟨a, ys, w, rfl, rfl, e1, by rw [← e2.length]; exact lt, k.setL s hm (e2.append (.cons rw' .nil)) .non q⟩
def mPopAt : D → List D → DSt → DK → Prop := fun x ds st Q => on1 ds fun y => onI y fun i => onL st x fun n xs => (-(2 ^ 63) ≤ i ∧ i < 2 ^ 63) ∧ onO (seqIndex? i xs.length) fun k => onO xs[k]? fun d => Q d (st.set n (.lst (xs.eraseIdx k)))
theorem mtD_popAt {K : Frag} : MtD T K rPopAt mPopAt := by
  intro M H st x ds v vs Q' Q s rx rs h k
  obtain ⟨y, rfl, h⟩ := on1.of h
  obtain ⟨i, rfl, h⟩ := onI.of h
  obtain ⟨n, xs, rfl, e, lt, q⟩ := onL.of h
  obtain ⟨j, e3, q⟩ := onO.of q
  obtain ⟨d, e4, q⟩ := onO.of q
  obtain ⟨w, rfl, rw'⟩ := rs.one
  cases rw'
  obtain ⟨a, ys, rfl, hm, e1, e2⟩ := onL.rd s rx e
  obtain ⟨z, e5, rz⟩ := e2.get e4
  exact ⟨a, ys, i, j, z, rfl, rfl, e1, lt.1, lt.2, by rw [← e2.length]; exact e3, e5, k.setL s hm (e2.eraseIdx j) rz q⟩
def intsD : List D → Option (List Int)
  | [] => some []
  | .int b :: r => (intsD r).map (b :: ·)
  | _ => none
theorem intsD_of : ∀ {ds : List D} {bs : List Int}, intsD ds = some bs → ds = bs.map D.int
  | [], bs, h => by cases h; rfl
  | .int b :: r, bs, h => by
    unfold intsD at h
    cases q : intsD r with
    | none => rw [q] at h; cases h
    | some cs => rw [q] at h; cases h; rw [intsD_of q]; rfl
  | .non :: r, bs, h => by cases h
  | .bl _ :: r, bs, h => by cases h
  | .str _ :: r, bs, h => by cases h
  | .tup _ :: r, bs, h => by cases h
  | .tuk _ :: r, bs, h => by cases h
  | .lst _ :: r, bs, h => by cases h
  | .scr _ :: r, bs, h => by cases h
  | .ref _ :: r, bs, h => by cases h
theorem intsD_map {α : Type} (g : α → Int) : ∀ xs : List α, intsD (xs.map fun x => D.int (g x)) = some (xs.map g)
  | [] => rfl
  | x :: r => by rw [List.map_cons, List.map_cons]; unfold intsD; rw [intsD_map g r]; rfl
theorem intsD_ints (ns : List Int) : intsD (ns.map D.int) = some ns := by
  have z := intsD_map (fun i : Int => i) ns
  rw [List.map_id'] at z
  exact z
def ixOf (z : Int) : List Int → Option Nat
  | [] => none
  | x :: r => if x = z then some 0 else (ixOf z r).map (· + 1)
theorem ixOf_spec {z : Int} : ∀ {ns : List Int} {j : Nat}, ixOf z ns = some j → ns[j]? = some z ∧ ∀ m, m < j → ns[m]? ≠ some z
  | [], j, h => by cases h
  | x :: r, j, h => by
    unfold ixOf at h
    by_cases e : x = z
    · rw [if_pos e] at h
      cases h
      exact ⟨by rw [e]; rfl, fun m lt => absurd lt (Nat.not_lt_zero m)⟩
    · rw [if_neg e] at h
      cases q : ixOf z r with
      | none => rw [q] at h; cases h
      | some k =>
        rw [q] at h
        cases h
        obtain ⟨a, b⟩ := ixOf_spec q
        refine ⟨a, fun m lt => ?_⟩
        cases m with
        | zero => intro w; cases w; exact e rfl
        | succ m => exact fun w => b m (Nat.lt_of_succ_lt_succ lt) (by simpa using w)
theorem ixOf_mem {z : Int} : ∀ {ns : List Int}, z ∈ ns → ∃ j, ixOf z ns = some j
  | x :: r, h => by
    unfold ixOf
    by_cases e : x = z
    · rw [if_pos e]; exact ⟨0, rfl⟩
    · rw [if_neg e]
      obtain ⟨j, q⟩ := ixOf_mem (List.mem_of_ne_of_mem (fun w => e w.symm) h)
      exact ⟨j + 1, by rw [q]; rfl⟩
def IdxD (st : DSt) (x : D) : Prop := match x with
  | .tup _ => True
  | .lst _ => True
  | .ref n => (match st[n]? with | some (.lst _) => True | _ => False)
  | _ => False
def ixS (st : DSt) : D → Option (List D)
  | .tup xs => some xs
  | .lst xs => some xs
  | .ref n => match st[n]? with | some (.lst ds) => some ds | _ => none
  | _ => none
def mIndex : D → List D → DSt → DK → Prop := fun x ds st Q => on1 ds fun y => onI y fun z => onO (ixS st x) fun xs => onO (intsD xs) fun ns => onO (ixOf z ns) fun j => Q (.int (j : Nat)) st
def dIndex (fo : DTE) (fs : DTA) : DTE := fun r st Q => fo r st fun x st1 => IdxD st1 x ∧ fs r st1 fun ds st2 => mIndex x ds st2 Q
theorem eqV_int (a b : Int) : eqV (.int a) (.int b) = decide (a = b) := by
  by_cases h : a = b
  · subst h; simp [eqV]
  · simp [eqV, h]
theorem flatV_ints (ns : List Int) : (ns.map V.int).all flatV = true := by
  rw [List.all_eq_true]
  intro x hx
  obtain ⟨i, _, rfl⟩ := List.mem_map.mp hx
  rfl
theorem rIndex_ints {K : Frag} {H : Hp} {a : Addr} {ns : List Int} {z : Int} {j : Nat} {Q : VK} (hs : SqL K H a (ns.map V.int)) (e : ixOf z ns = some j) (q : Q (.int (j : Nat)) H) : rIndex K (.ref a) [.int z] H Q := by
  obtain ⟨a1, a2⟩ := ixOf_spec e
  refine ⟨a, _, .int z, j, .int z, rfl, rfl, hs, rfl, flatV_ints ns, by rw [List.getElem?_map, a1]; rfl, by rw [eqV_int]; exact decide_eq_true rfl, fun m z' lt hz => ?_, q⟩
  rw [List.getElem?_map] at hz
  obtain ⟨u, hu, rfl⟩ := Option.map_eq_some_iff.mp hz
  rw [eqV_int]
  exact decide_eq_false fun w => a2 m lt (by rw [hu, w])
def tIdx2 (K : Frag) (to : TE) (t : TA) : TE := fun σ H Q => to σ H fun x H1 => ((∃ p xs, x = .ref p ∧ FzT H1 p xs) ∧ t σ H1 fun vs H2 => rIndexT K x vs H2 Q) ∨ (tyV K "list" x H1 ∧ t σ H1 fun vs H2 => rIndex K x vs H2 Q)
theorem pe_idx2 {o e : Expr} {es : List Expr} {to : TE} {t : TA} {apos cpos : Pos} (ho : PE X o to) (ha : PA X (e :: es) t)
    (h1 : attributeBase o "index" X.env (eval o X.env) = eval o X.env := by rfl)
    (h2 : ((backTo cpos (starEach (e :: es) X.env)).all (fun x => !x.1) && (backToKw cpos (keywordEach [] X.env)).all (fun x => x.1.isSome) && decide ((e :: es).length + ([] : List Keyword).length + (if ([] : List Keyword).isEmpty then 0 else 1) < 30)) = true := by rfl)
    (h3 : (apos.endLine == cpos.line) = true := by rfl) (h4 : starEach (e :: es) X.env = (false, eval e X.env) :: starEach es X.env := by rfl) (h5 : (backTo cpos (starEach es X.env)).any (·.1) = false := by rfl) :
    PE X (.Call (.Attribute o "index" apos) (e :: es) [] cpos) (tIdx2 X.K to t) := by
  constructor
  intro pins s σ H Q I h
  refine wpAny_Call_method_late h1 h2 h3 rfl (thn (ho.run pins s σ H _ I h) ?_)
  rintro v s1 ⟨x, H1, I1, r1, (⟨⟨p, xs, rfl, ob, hp, dn⟩, q1⟩ | ⟨ty, q1⟩)⟩
  · obtain rfl : v = Value.ref p := r1
    obtain ⟨at_, _, its, _, ob2, at2, cl, _⟩ := I1.hok p _ hp
    rw [at_] at at2
    cases at2
    refine ⟨"tuple", _, PySem.F.plainAttrs_tuple, PySem.F.slot_tuple_index, PySem.F.type_tuple_index, ⟨ob, at_, cl⟩, fun a ea => ?_, ?_⟩
    · cases ea
      exact ⟨ob, at_, dn⟩
    · have run := ha.run cpos pins s1 σ H1 _ I1 q1
      rw [h4] at run ⊢
      refine Calls.callWith_builtin (by show (false || (backTo cpos (starEach es X.env)).any (·.1)) = false; rw [h5]; rfl) (Calls.evalArgs_plain ?_)
      refine thn run ?_
      rintro us s2 ⟨vs, H2, I2, r2, q2⟩
      exact mt_tup_indexI pins s2 σ H2 (.ref p) vs _ us Q I2 rfl r2 q2
  · obtain ⟨y1, y2⟩ := tyV_is I1 r1 ty
    refine ⟨"list", _, PySem.F.plainAttrs_list, PySem.F.slot_list_index, PySem.F.type_list_index, y1, y2, ?_⟩
    have run := ha.run cpos pins s1 σ H1 _ I1 q1
    rw [h4] at run ⊢
    refine Calls.callWith_builtin (by show (false || (backTo cpos (starEach es X.env)).any (·.1)) = false; rw [h5]; rfl) (Calls.evalArgs_plain ?_)
    refine thn run ?_
    rintro us s2 ⟨vs, H2, I2, r2, q2⟩
    exact mt_index pins s2 σ H2 x vs v us Q I2 r1 r2 q2
theorem de_index {o e : Expr} {es : List Expr} {apos cpos : Pos} {fo : DTE} {fs : DTA} (ho : DE T X o fo) (ha : DA T X (e :: es) fs)
    (h1 : attributeBase o "index" X.env (eval o X.env) = eval o X.env := by rfl)
    (h2 : ((backTo cpos (starEach (e :: es) X.env)).all (fun x => !x.1) && (backToKw cpos (keywordEach [] X.env)).all (fun x => x.1.isSome) && decide ((e :: es).length + ([] : List Keyword).length + (if ([] : List Keyword).isEmpty then 0 else 1) < 30)) = true := by rfl)
    (h3 : (apos.endLine == cpos.line) = true := by rfl) (h4 : starEach (e :: es) X.env = (false, eval e X.env) :: starEach es X.env := by rfl) (h5 : (backTo cpos (starEach es X.env)).any (·.1) = false := by rfl) :
    DE T X (.Call (.Attribute o "index" apos) (e :: es) [] cpos) (dIndex fo fs) :=
  PE.imp (pe_idx2 ho ha h1 h2 h3 h4 h5) fun σ H Q ⟨M, ρ, st, Q', s, re, h, k⟩ => ⟨M, ρ, st, _, s, re, h, fun M1 H1 st1 x v g1 s1 r1 q => by
    obtain ⟨qt, q⟩ := q
    cases x with
    | tup xs =>
      have r1' := r1
      cases r1 with
      | tup n e0 e3 rs =>
        refine .inl ⟨⟨_, _, rfl, _, e0, e3⟩, M1, ρ, st1, _, s1, re.grow g1, q, fun M2 H2 st2 ds vs g2 s2 r2 q2 => ?_⟩
        obtain ⟨y, rfl, q3⟩ := on1.of q2
        obtain ⟨z, rfl, q4⟩ := onI.of q3
        obtain ⟨xs', e0, q4⟩ := onO.of q4
        cases e0
        obtain ⟨ns, e1, q5⟩ := onO.of q4
        obtain ⟨j, e2, q6⟩ := onO.of q5
        obtain ⟨w, rfl, rw'⟩ := r2.one
        cases rw'
        have e1 := intsD_of e1
        subst e1
        have r3 := r1'.grow g2
        cases r3 with
        | tup n' e0' e3' rs' =>
          have zz := rs'.ints
          subst zz
          obtain ⟨a1, a2⟩ := ixOf_spec e2
          exact ⟨_, ns, z, j, rfl, rfl, .inl (.inr ⟨_, e0'⟩), a1, a2, ((k.grow g1).grow g2).here s2 (.int _) q6⟩
    | lst xs =>
      have r1' := r1
      cases r1 with
      | lst n e0 rs =>
        refine .inr ⟨.inl ⟨rfl, _, .inl (.inl e0)⟩, M1, ρ, st1, _, s1, re.grow g1, q, fun M2 H2 st2 ds vs g2 s2 r2 q2 => ?_⟩
        obtain ⟨y, rfl, q3⟩ := on1.of q2
        obtain ⟨z, rfl, q4⟩ := onI.of q3
        obtain ⟨xs', e0, q4⟩ := onO.of q4
        cases e0
        obtain ⟨ns, e1, q5⟩ := onO.of q4
        obtain ⟨j, e2, q6⟩ := onO.of q5
        obtain ⟨w, rfl, rw'⟩ := r2.one
        cases rw'
        have e1 := intsD_of e1
        subst e1
        have r3 := r1'.grow g2
        cases r3 with
        | lst n' e0' rs' =>
          have zz := rs'.ints
          subst zz
          exact rIndex_ints (.inl (.inl e0')) e2 (((k.grow g1).grow g2).here s2 (.int _) q6)
    | ref m =>
      have r1' := r1
      cases r1 with
      | ref hm =>
        obtain ⟨o1, eo, ro⟩ := s1.atM hm
        unfold IdxD at qt
        simp only [eo] at qt
        cases o1 with
        | dK _ => exact qt.elim
        | dT _ => exact qt.elim
        | lk _ _ _ => exact qt.elim
        | lkT _ _ _ => exact qt.elim
        | ins _ _ => exact qt.elim
        | lst zs =>
          obtain ⟨ys, hy, _⟩ := ro
          refine .inr ⟨.inl ⟨rfl, ys, .inl (.inl hy)⟩, M1, ρ, st1, _, s1, re.grow g1, q, fun M2 H2 st2 ds vs g2 s2 r2 q2 => ?_⟩
          obtain ⟨y, rfl, q3⟩ := on1.of q2
          obtain ⟨z, rfl, q4⟩ := onI.of q3
          obtain ⟨xs', e0, q4⟩ := onO.of q4
          obtain ⟨ns, e1, q5⟩ := onO.of q4
          obtain ⟨j, e2, q6⟩ := onO.of q5
          obtain ⟨w, rfl, rw'⟩ := r2.one
          cases rw'
          have e1 := intsD_of e1
          subst e1
          have r3 := r1'.grow g2
          cases r3 with
          | ref hm2 =>
            obtain ⟨o2, eo2, ro2⟩ := s2.atM hm2
            unfold ixS at e0
            simp only [eo2] at e0
            cases o2 with
            | dK _ => cases e0
            | dT _ => cases e0
            | lk _ _ _ => cases e0
            | lkT _ _ _ => cases e0
            | ins _ _ => cases e0
            | lst us =>
              cases e0
              obtain ⟨ws, hw, rs'⟩ := ro2
              have zz := rs'.ints
              subst zz
              exact rIndex_ints (.inl (.inl hw)) e2 (((k.grow g1).grow g2).here s2 (.int _) q6)
    | _ => exact qt.elim⟩
end
end DL
namespace DL
open PySem PySem.Spec PyProof.Rows L2 LamX PySem.W SL
theorem mulOne (l : Addr) (its : Array Value) (n : Nat) (dd : Option Addr) (sl : Array (Option Value)) (u : Tok) :
    Meets (Builtin.«tuple.__mul__» ⟨[.ref l, .int 1 u], []⟩) (fun _ R s => s.heap.get? l = some ⟨.type "tuple", dd, .seq its n, sl⟩ ∧ R (.ok (.ret (.ref l))) s) :=
  .of_wp fun prog w A R s h => by
    obtain ⟨hp, g, d, tk, os⟩ := s
    obtain ⟨hl, q⟩ := h
    have f1 := AutoSeq1.idx_int
    wp_walk using wpAny_loadPart' hl
    exact ⟨_, rfl, q⟩
def rRepF (K : Frag) : R2 := fun x y H Q => ∃ (l : Addr) (k : Nat) (xs : List V), x = .ref l ∧ y = .int k ∧ SqT K H l xs ∧ xs ≠ [] ∧ 1 ≤ k ∧ k ≤ 1000 ∧ xs.length ≤ 1000 ∧
  (k = 1 → Q (.ref l) H) ∧ (2 ≤ k → ∀ (p : Addr) (ob : Obj), H p = none → ob.dict = none → Q (.ref p) (upd H p (.frz ob (.tup (List.replicate k xs).flatten))))
theorem op_repF {X : Cx} : OpR X (binaryOp .Mult) (rRepF X.K) := by
  intro pins s σ H x y v u Q I rx ry h
  obtain ⟨l, k, xs, rfl, rfl, hT, hne, k1, k2, hz, q1, q2⟩ := h
  cases rx
  obtain ⟨t, rfl⟩ := ry
  obtain ⟨its, r, ⟨⟨cls, dd, data, sl⟩, ho, hc, n, hd⟩, hs⟩ := I.tuple hT
  simp only at hc hd
  subst hc hd
  have le : its.length = xs.length := r.length.symm
  by_cases e : k = 1
  · subst e
    exact wpAny_binaryOp_repeat_ref (T := "tuple") (U := "int") (by decide)
      ⟨_, ho, rfl⟩ (fun s' => typeIs_int s' _ t) noFill_tuple_mul F.fills_int_mul
      F.slot_int_rmul repeat_tuple F.slot_int_index.lookup
      (call_meets F.slot_int_rmul (typeIs_int s _ t) F.entry_int_rmul
        (F.args_int_rmul_2 _ _) (int_rmul_tuple _ t l its.toArray n dd sl)
        ⟨ho, rfl, ⟨_, ho, rfl⟩, call_meets F.slot_tuple_mul ⟨_, ho, rfl⟩
          F.entry_tuple_mul (F.args_tuple_mul_2 _ _) (mulOne l its.toArray n dd sl t) ⟨ho, .ref l, H, I, rfl, q1 rfl⟩⟩)
  · have two : 2 ≤ k := by omega
    have ne : its.toArray.isEmpty = false := by
      cases its with
      | nil => exact absurd (List.eq_nil_of_length_eq_zero le.symm) hne
      | cons _ _ => rfl
    have sz : its.toArray.size = xs.length := by rw [List.size_toArray, le]
    have nat : xs.length * k ≤ 1000000 := Nat.le_trans (Nat.mul_le_mul hz k2) (by decide)
    have big : ((its.toArray.size : Nat) : Int) * (k : Int) ≤ 1000000 := by
      rw [sz]
      rw [← Int.natCast_mul]
      exact Int.ofNat_le.mpr nat
    have fl : (List.replicate k its).flatten.length ≤ sizeLine := by
      rw [lm_len_rep_flat, le, sizeLine_eq, Nat.mul_comm]
      omega
    have z0 : (decide ((k : Int) < -(2 ^ 63)) || decide ((k : Int) ≥ 2 ^ 63)) = false := by
      rw [Bool.or_eq_false_iff]
      exact ⟨decide_eq_false (by omega), decide_eq_false (by omega)⟩
    have z1 : (its.toArray.isEmpty || (k : Int) == 1) = false := by
      rw [ne]
      exact beq_eq_false_iff_ne.mpr (by omega)
    have z2 : (decide ((k : Int) ≤ 0) || its.toArray.isEmpty) = false := by
      rw [ne, decide_eq_false (by omega)]
      rfl
    have z4 : Builtin.Tuple.tupleTooMany (((its.toArray.size : Nat) : Int) * (k : Int)) = false := by
      unfold Builtin.Tuple.tupleTooMany
      refine decide_eq_false ?_
      rw [sizeLine_eq]
      omega
    refine wpAny_binaryOp_repeat_ref (T := "tuple") (U := "int") (by decide)
      ⟨_, ho, rfl⟩ (fun s' => typeIs_int s' _ t) noFill_tuple_mul F.fills_int_mul
      F.slot_int_rmul repeat_tuple F.slot_int_index.lookup
      (call_meets F.slot_int_rmul (typeIs_int s _ t) F.entry_int_rmul
        (F.args_int_rmul_2 _ _) (int_rmul_tuple _ t l its.toArray n dd sl)
        ⟨ho, rfl, ⟨_, ho, rfl⟩, call_meets F.slot_tuple_mul ⟨_, ho, rfl⟩
          F.entry_tuple_mul (F.args_tuple_mul_2 _ _) (tuple_mulW l its.toArray n dd sl _ t z0 z1 z2 (by omega) z4 (by rw [size_rep, List.size_toArray]; exact fl)) ⟨ho, ?_⟩⟩)
    rw [size_rep]
    refine ⟨.ref s.heap.objs.size, _, I.laid (t' := s.toks) (o := .frz { cls := .type "tuple", data := .seq (List.replicate (k : Int).toNat its).flatten.toArray } (.tup (List.replicate k xs).flatten))
      (fun b ob q => Heap.get?_push_of_some _ q) (Nat.le_refl _) ?_, rfl, q2 two _ _ (I.hok.fresh (Nat.le_refl _)) rfl⟩
    exact ⟨Heap.get?_push_size _ rfl, by rw [lm_len_rep_flat, ← le, ← lm_len_rep_flat]; exact fl, _, r.rep k, IsTup.new _ _⟩
end DL
namespace DL
open PySem PySem.Spec PyProof.Rows L2 LamX PySem.W SL
def lstS (st : DSt) : D → Option (List D)
  | .lst ds => some ds
  | .ref n => match st[n]? with | some (.lst ds) => some ds | _ => none
  | _ => none
section
variable {T : List (Addr × Str)} {X : Cx} {K : Frag} {M : Pl} {H : Hp} {st : DSt}
theorem lstS.rd {d : D} {v : V} {ds : List D} (s : RS T K M st H) (r : RV K M H d v) (e : lstS st d = some ds) : ∃ a xs, v = .ref a ∧ H a = some (.lst xs) ∧ RVs K M H ds xs := by
  cases r with
  | lst n h rs => cases e; exact ⟨_, _, rfl, h, rs⟩
  | ref h =>
    obtain ⟨o, e1, ro⟩ := s.atM h
    unfold lstS at e
    simp only [e1] at e
    cases o with
    | lst xs => cases e; obtain ⟨ys, q, rs⟩ := ro; exact ⟨_, ys, rfl, q, rs⟩
    | dK _ => cases e
    | dT _ => cases e
    | lk _ _ _ => cases e
    | lkT _ _ _ => cases e
    | ins _ _ => cases e
  | _ => cases e
theorem fin_new' {fin : DK → List D → DSt → Prop} (fo : fin = finT ∨ fin = finN) {ds : List D} {xs : List V} {Q' : DK} {Q : VK} {q : Addr} (k : Kn T K M H Q' Q) (s : RS T K M st H) (r : RVs K M H ds xs) (nq : H q = none) (h : fin Q' ds st) : Q (.ref q) (upd H q (.lst xs)) := by
  rcases fo with rfl | rfl
  · exact k.lst s r nq h
  · exact k.own s r nq h
def mPop : D → List D → DSt → DK → Prop := fun x ds st Q => ds = [] ∧ onL st x fun n xs => onO xs[xs.length - 1]? fun d => Q d (st.set n (.lst xs.dropLast))
theorem RVs.dropLast {ds : List D} {vs : List V} (r : RVs K M H ds vs) : RVs K M H ds.dropLast vs.dropLast := by
  rw [List.dropLast_eq_take, List.dropLast_eq_take, ← r.length]
  exact r.take _
theorem mtD_pop : MtD T K rPop mPop := by
  intro M H st x ds v vs Q' Q s r rs h k
  obtain ⟨rfl, h⟩ := h
  cases rs
  obtain ⟨n, xs, rfl, e, h⟩ := onL.of h
  obtain ⟨d, e2, q⟩ := onO.of h
  obtain ⟨a, us, rfl, hm, ha, rus⟩ := onL.rd s r e
  obtain ⟨w, e3, rw'⟩ := rus.get e2
  refine ⟨a, us, w, rfl, rfl, ha, by rw [← rus.length]; exact e3, k.setL s hm rus.dropLast rw' q⟩
end
end DL
namespace DL
open PySem PySem.Spec PyProof.Rows L2 LamX PySem.W SL
section
variable {T : List (Addr × Str)} {X : Cx} {a b c e : Expr} {es : List Expr} {fa fb fc f : DTE} {fs : DTA} {pos p : Pos} {K : Frag}
def dAddG (fin : DK → List D → DSt → Prop) : DR2 := fun x y st Q => match x, y with
  | .int i, .int j => Q (.int (i + j)) st
  | .tup xs, .tup ys => xs.length + ys.length ≤ sizeLine ∧ Q (.tup (xs ++ ys)) st
  | .str i, .str j => i.length + j.length ≤ sizeLine ∧ Q (.str (i ++ j)) st
  | x, y => onO (lstS st x) fun xs => onO (lstS st y) fun ys => xs.length + ys.length ≤ sizeLine ∧ fin Q (xs ++ ys) st
abbrev dAdd : DR2 := dAddG finT
def rAdd (K : Frag) : R2 := fun x y H Q => ((rI0 fun i j => .int (i + j)) x y H Q ∨ rCatF K x y H Q) ∨ ((∃ i j, x = .str i ∧ y = .str j ∧ i.length + j.length ≤ sizeLine ∧ Q (.str (i ++ j)) H) ∨ rCat x y H Q)
theorem op_addA : OpR X (binaryOp .Add) (rAdd X.K) := OpR.or (OpR.or op_add op_catF) (OpR.or op_add_str op_cat)
theorem opD_add {fin : DK → List D → DSt → Prop} (fo : fin = finT ∨ fin = finN) : OpD T K (rAdd K) (dAddG fin) := by
  intro M H st x y vx vy Q' Q s rx ry h k
  unfold dAddG at h
  split at h
  · cases rx
    cases ry
    exact .inl (.inl ⟨_, _, rfl, rfl, k.here s (.int _) h⟩)
  · obtain ⟨le, q⟩ := h
    have rx' := rx
    have ry' := ry
    cases rx with
    | tup n1 e1 d1 r1 =>
      cases ry with
      | tup n2 e2 d2 r2 =>
        refine .inl (.inr ⟨_, _, _, _, rfl, rfl, .inl (.inr ⟨_, e1⟩), .inl (.inr ⟨_, e2⟩), by rw [← r1.length, ← r2.length]; exact le, fun z => ?_, fun z1 z => ?_, fun z1 z2 p ob np hd => k.tup s (r1.append r2) np hd q⟩)
        · have zz := r1.nil_iff.mpr z
          subst zz
          exact k.here s ry' q
        · have zz := r2.nil_iff.mpr z
          subst zz
          rw [List.append_nil] at q
          exact k.here s rx' q
  · cases rx
    cases ry
    exact .inr (.inl ⟨_, _, rfl, rfl, h.1, k.here s (.str _) h.2⟩)
  · obtain ⟨xs, e1, h⟩ := onO.of h
    obtain ⟨ys, e2, le, q⟩ := onO.of h
    obtain ⟨a, us, rfl, ha, ru⟩ := lstS.rd s rx e1
    obtain ⟨b, ws, rfl, hb, rw'⟩ := lstS.rd s ry e2
    exact .inr (.inr ⟨a, b, us, ws, rfl, rfl, ha, hb, by rw [← ru.length, ← rw'.length]; exact le, fun p np => fin_new' fo k s (ru.append rw') np q⟩)
theorem de_add (ha : DE T X a fa) (hb : DE T X b fb) : DE T X (.BinOp a .Add b pos) (dOp dAdd fa fb) := de_op op_addA (opD_add (.inl rfl)) ha hb
theorem RVs.reverse {M : Pl} {H : Hp} : ∀ {ds : List D} {xs : List V}, RVs K M H ds xs → RVs K M H ds.reverse xs.reverse
  | _, _, .nil => .nil
  | _, _, .cons h t => by
    rw [List.reverse_cons, List.reverse_cons]
    exact (RVs.reverse t).append (.cons h .nil)
theorem RVs.rep {M : Pl} {H : Hp} {ds : List D} {xs : List V} (r : RVs K M H ds xs) : ∀ n : Nat, RVs K M H (List.replicate n ds).flatten (List.replicate n xs).flatten
  | 0 => .nil
  | n + 1 => by
    rw [List.replicate_succ, List.replicate_succ, List.flatten_cons, List.flatten_cons]
    exact r.append (RVs.rep r n)
def dMulG (fin : DK → List D → DSt → Prop) : DR2 := fun x y st Q => match x, y with
  | .int i, .int j => CMul i j ∧ Q (.int (i * j)) st
  | .tup xs, .int k => xs ≠ [] ∧ 1 ≤ k ∧ k ≤ 1000 ∧ xs.length ≤ 1000 ∧ Q (.tup (List.replicate k.toNat xs).flatten) st
  | x, .int k => onO (lstS st x) fun xs => (-1000 ≤ k ∧ xs.length * k.toNat ≤ 1000 ∧ k ≤ 100000000) ∧ fin Q (List.replicate k.toNat xs).flatten st
  | _, _ => False
abbrev dMul : DR2 := dMulG finT
abbrev dMulN : DR2 := dMulG finN
def rMulA (K : Frag) : R2 := fun x y H Q => ((rI CMul fun i j => .int (i * j)) x y H Q ∨ rRepF K x y H Q) ∨ rRep x y H Q
theorem op_mulA : OpR X (binaryOp .Mult) (rMulA X.K) := OpR.or (OpR.or op_mul op_repF) op_rep
theorem opD_mul {fin : DK → List D → DSt → Prop} (fo : fin = finT ∨ fin = finN) : OpD T K (rMulA K) (dMulG fin) := by
  intro M H st x y vx vy Q' Q s rx ry h k
  unfold dMulG at h
  split at h
  · cases rx
    cases ry
    exact .inl (.inl ⟨_, _, rfl, rfl, h.1, k.here s (.int _) h.2⟩)
  · rename_i ds m
    obtain ⟨h1, h2, h3, h4, q⟩ := h
    have rx' := rx
    cases ry
    cases rx with
    | tup n1 e1 d1 r1 =>
      have em : ((m.toNat : Nat) : Int) = m := by omega
      refine .inl (.inr ⟨_, m.toNat, _, rfl, by rw [em], .inl (.inr ⟨_, e1⟩), fun z => h1 (r1.nil_iff.mpr z), by omega, by omega, by rw [← r1.length]; exact h4, fun z => ?_, fun _ p ob np hd => k.tup s (r1.rep m.toNat) np hd q⟩)
      rw [z, List.replicate_one, List.flatten_singleton] at q
      exact k.here s rx' q
  · obtain ⟨xs, e1, ⟨h1, h2, h3⟩, q⟩ := onO.of h
    obtain ⟨a, us, rfl, ha, ru⟩ := lstS.rd s rx e1
    cases ry
    have big : (1000 : Nat) ≤ sizeLine := by decide
    exact .inr ⟨a, _, us, rfl, rfl, ha, by omega, by omega, by rw [← ru.length]; omega, fun p np => fin_new' fo k s (ru.rep _) np q⟩
  · exact h.elim
theorem de_mul (ha : DE T X a fa) (hb : DE T X b fb) : DE T X (.BinOp a .Mult b pos) (dOp dMul fa fb) := de_op op_mulA (opD_mul (.inl rfl)) ha hb
theorem de_mulN (ha : DE T X a fa) (hb : DE T X b fb) : DE T X (.BinOp a .Mult b pos) (dOp dMulN fa fb) := de_op op_mulA (opD_mul (.inr rfl)) ha hb
def dRevV (x : D) (st : DSt) (Q : DK) : Prop := match x with
  | .tup xs => Q (.tup xs.reverse) st
  | _ => False
def dRev (f : DTE) : DTE := fun r st Q => f r st fun x st1 => dRevV x st1 Q
abbrev DTO := DEnv → DSt → (Option Int → DSt → Prop) → Prop
def liftO (T : List (Addr × Str)) (K : Frag) (f : DTO) : TO := fun σ H Q => ∃ M r st Q', RS T K M st H ∧ RE K M H r σ ∧ f r st Q' ∧ ∀ M' H' st' o, Grow M H M' H' → RS T K M' st' H' → Q' o st' → Q o H'
abbrev DO (T : List (Addr × Str)) (X : Cx) (e : Option Expr) (f : DTO) : Prop := PO X e (liftO T X.K f)
theorem PO.imp {e : Option Expr} {t t' : TO} (h : PO X e t) (i : ∀ σ H Q, t' σ H Q → t σ H Q) : PO X e t' := ⟨fun pins s σ H Q I z => h.run pins s σ H Q I (i σ H Q z)⟩
def oNone : DTO := fun _ st Q => Q none st
def oSome (f : DTE) : DTO := fun r st Q => f r st fun d st1 => onI d fun i => Q (some i) st1
theorem do_none : DO T X none oNone := PO.imp po_none fun σ H Q ⟨M, r, st, Q', s, re, h, k⟩ => k M H st none (Grow.refl M H) s h
theorem do_some (he : DE T X e f) : DO T X (some e) (oSome f) := PO.imp (po_some he) fun σ H Q ⟨M, r, st, Q', s, re, h, k⟩ => ⟨M, r, st, _, s, re, h, fun M1 H1 st1 d v g1 s1 r1 q => by
  obtain ⟨i, rfl, q⟩ := onI.of q
  cases r1
  exact ⟨i, rfl, k M1 H1 st1 _ g1 s1 q⟩⟩
def cutD (xs : List D) (lo hi : Option Int) : List D := (xs.drop (HT.sIx xs.length 0 lo)).take (HT.sIx xs.length xs.length hi - HT.sIx xs.length 0 lo)
theorem RVs.cutV {M : Pl} {H : Hp} {ds : List D} {vs : List V} (r : RVs K M H ds vs) (lo hi : Option Int) : RVs K M H (cutD ds lo hi) (L2.cutV vs lo hi) := by
  unfold cutD L2.cutV
  rw [r.length]
  exact (r.drop _).take _
def dSlV (fin : DK → List D → DSt → Prop) : D → Option Int → Option Int → DSt → DK → Prop := fun x lo hi st Q => match x with
  | .tup xs => Q (.tup (cutD xs lo hi)) st
  | .lst xs => fin Q (cutD xs lo hi) st
  | .ref n => onO (seqS st (.ref n)) fun xs => fin Q (cutD xs lo hi) st
  | _ => False
def dSlG (fin : DK → List D → DSt → Prop) (f : DTE) (lo hi : DTO) : DTE := fun r st Q => f r st fun x st1 => lo r st1 fun l st2 => hi r st2 fun u st3 => dSlV fin x l u st3 Q
def rSl2 (K : Frag) : V → Option Int → Option Int → Hp → VK → Prop := fun x lo hi H Q => rSlF K x lo hi H Q ∨ rSlL K x lo hi H Q
theorem sl_2 : SlR X (rSl2 X.K) := SlR.or sl_F sl_list
theorem fin_new {fin : DK → List D → DSt → Prop} (fo : fin = finT ∨ fin = finN) {M : Pl} {H : Hp} {st : DSt} {ds : List D} {xs : List V} {Q' : DK} {Q : VK} {q : Addr} (k : Kn T K M H Q' Q) (s : RS T K M st H) (r : RVs K M H ds xs) (nq : H q = none) (h : fin Q' ds st) : Q (.ref q) (upd H q (.lst xs)) := by
  rcases fo with rfl | rfl
  · exact k.lst s r nq h
  · exact k.own s r nq h
theorem cut_whole {xs : List D} {lo hi : Option Int} (h : HT.sIx xs.length 0 lo = 0 ∧ HT.sIx xs.length xs.length hi = xs.length) : cutD xs lo hi = xs := by
  unfold cutD
  rw [h.1, h.2]
  simp
theorem de_slice {fin : DK → List D → DSt → Prop} (fo : fin = finT ∨ fin = finN) {lo hi : Option Expr} {flo fhi : DTO} {p2 : Pos} (he : DE T X e f) (hl : DO T X lo flo) (hu : DO T X hi fhi) : DE T X (.Subscript e (.Slice lo hi none p2) pos) (dSlG fin f flo fhi) :=
  PE.imp (pe_slice sl_2 he hl hu) fun σ H Q ⟨M, r, st, Q', s, re, h, k⟩ => ⟨M, r, st, _, s, re, h, fun M1 H1 st1 x vx g1 s1 r1 q1 => ⟨M1, r, st1, _, s1, re.grow g1, q1, fun M2 H2 st2 l g2 s2 q2 => ⟨M2, r, st2, _, s2, (re.grow g1).grow g2, q2, fun M3 H3 st3 u g3 s3 q3 => by
    have rx := (r1.grow g2).grow g3
    have k3 := ((k.grow g1).grow g2).grow g3
    unfold dSlV at q3
    split at q3
    · have rx' := rx
      cases rx with
      | tup n e0 d0 rs =>
        refine .inl ⟨_, _, rfl, .inl (.inr ⟨_, e0⟩), fun wh => ?_, fun _ p ob np hd => k3.tup s3 (rs.cutV l u) np hd q3⟩
        rw [← rs.length] at wh
        rw [cut_whole wh] at q3
        exact k3.here s3 rx' q3
    · cases rx with
      | lst n e0 rs => exact .inr ⟨_, _, rfl, .inl (.inl e0), fun q nq => fin_new fo k3 s3 (rs.cutV l u) nq q3⟩
    · obtain ⟨xs, e0, q3⟩ := onO.of q3
      cases rx with
      | ref hm =>
        obtain ⟨o, e1, ro⟩ := s3.atM hm
        unfold seqS at e0
        simp only [e1] at e0
        cases o with
        | lst zs => cases e0; obtain ⟨ys, q, rs⟩ := ro; exact .inr ⟨_, ys, rfl, .inl (.inl q), fun q nq => fin_new fo k3 s3 (rs.cutV l u) nq q3⟩
        | dK _ => cases e0
        | dT _ => cases e0
        | lk _ _ _ => cases e0
        | lkT _ _ _ => cases e0
        | ins _ _ => cases e0
    · exact q3.elim⟩⟩⟩
def tyN (st : DSt) : D → Option String
  | .non => some "NoneType" | .bl _ => some "bool" | .int _ => some "int" | .str _ => some "str" | .lst _ => some "list" | .scr _ => some "list" | .tup _ => some "tuple" | .tuk _ => some "tuple"
  | .ref n => match st[n]? with | some (.lst _) => some "list" | some (.dK _) => some "dict" | some (.dT _) => none | some (.lk _ _ _) => some "dict" | some (.lkT _ _ _) => none | some (.ins _ _) => none | none => none
theorem RV.ty {M : Pl} {H : Hp} {st : DSt} {d : D} {v : V} {t : String} (s : RS T K M st H) (r : RV K M H d v) (h : DL.tyN st d = some t) : TyX K H v (.type t) := by
  cases r with
  | non => cases h; exact .base .non
  | bl b => cases h; exact .base (.bl b)
  | int i => cases h; exact .base (.int i)
  | str x => cases h; exact .base (.str x)
  | tup n e d rs => cases h; exact .fTuple e
  | tuk n e rs => cases h; exact .base (.tup e)
  | lst n e rs => cases h; exact .base (.lst e)
  | scr n e rs =>
    cases h
    rcases e with e | ⟨o, e⟩
    · exact .base (.lst e)
    · exact .base (.frz e)
  | lsk e rs =>
    cases h
    rcases e (fun _ => none) with (z | ⟨o, z⟩) | ⟨o, its, n, h1, h2, _⟩
    · cases z
    · cases z
    · exact .kList h1 h2
  | ref hm =>
    obtain ⟨o, e1, ro⟩ := s.atM hm
    unfold DL.tyN at h
    simp only [e1] at h
    cases o with
    | lst zs => cases h; obtain ⟨ys, q, rs⟩ := ro; exact .base (.lst q)
    | dK zs => cases h; obtain ⟨ys, q, rs⟩ := ro; exact .base (.dK q)
    | dT zs => cases h
    | lk ob ys zs => cases h; obtain ⟨q, rs⟩ := ro; exact .fDict q
    | lkT ob ys zs => cases h
    | ins _ _ => cases h
def tyNames : List String := ["NoneType", "bool", "int", "str", "list", "tuple", "dict"]
theorem tyN_mem {st : DSt} {d : D} {t : String} (h : DL.tyN st d = some t) : t ∈ tyNames := by
  unfold tyNames
  cases d with
  | ref n =>
    unfold DL.tyN at h
    simp only at h
    split at h <;> cases h <;> simp
  | _ => cases h <;> simp
def subTy (t u : String) : Bool := decide (t = u) || (decide (t = "bool") && decide (u = "int"))
def dIsi (u : String) (f : DTE) : DTE := fun r st Q => f r st fun x st1 => onO (DL.tyN st1 x) fun t => Q (.bl (subTy t u)) st1
theorem de_isi {u : String} {x : Str} {p1 p2 : Pos} (hk : ∀ t ∈ tyNames, kitB t u = some (subTy t u)) (hg : Gl X "isinstance") (hm : X.mg "isinstance" = none) (hgt : Gl X x) (hmt : X.mg x = none) (hv : bootBuiltins x = some (.type u)) (ha : DE T X a f)
    (hn : x ≠ "__name__" := by decide) (hdb : (x == ("__debug__" : Str)) = false := by decide)
    (h1 : starEach [a, .Name x p2] X.env = (false, eval a X.env) :: starEach [.Name x p2] X.env := by rfl) (h2 : starEach [Expr.Name x p2] X.env = (false, eval (.Name x p2) X.env) :: starEach [] X.env := by rfl)
    (h3 : (backTo pos (starEach [Expr.Name x p2] X.env)).any (·.1) = false := by rfl) :
    DE T X (.Call (.Name "isinstance" p1) [a, .Name x p2] [] pos) (dIsi u f) :=
  PE.imp (pe_callB call_isi hg hm (by decide +kernel) (pa_cons ha (pa_cons (pe_bltn (v := .ty u) hgt hmt hv rfl hn hdb) pa_nil h2) h1) (by decide) (by decide) h1 h3) fun σ H Q ⟨M, r, st, Q', s, re, h, k⟩ => ⟨M, r, st, _, s, re, h, fun M1 H1 st1 y v g1 s1 r1 q => by
    obtain ⟨t, e, q⟩ := onO.of q
    exact ⟨v, .ty u, _, _, _, rfl, .ty u, r1.ty s1 e, kit_ty (hk t (tyN_mem e)), (k.grow g1).here s1 (.bl _) q⟩⟩
end
theorem grow_ext {T : List (Addr × Str)} {K : Frag} {M : Pl} {st : DSt} {H H' : Hp} (s : RS T K M st H) (e : ExtN H H') : Grow M H M H' :=
  ⟨⟨[], (Pl.app_nil M).symm, fun _ h => nomatch h⟩, fun a o _ h t => e a o h t, fun a ⟨o, h, t⟩ => ⟨o, e a o h t, t⟩, fun a ha => by
    obtain ⟨xs, q⟩ := s.hid a ha
    rw [q]
    exact e a _ q (fun ps z => by cases z)⟩
theorem RS.ext {T : List (Addr × Str)} {K : Frag} {M : Pl} {st : DSt} {H H' : Hp} (s : RS T K M st H) (e : ExtN H H') (t : Tabs T H') : RS T K M st H' := by
  refine ⟨s.len, s.nd, fun n a o e1 e2 => ?_, t, s.hid.keep (grow_ext s e)⟩
  have ro := s.obj n a o e1 e2
  refine ro.stay (grow_ext s e) ?_
  rcases ro.mut with ⟨xs, q⟩ | ⟨xs, q⟩ | ⟨xs, q, _⟩ | ⟨_, xs, q⟩ | ⟨_, _, xs, q⟩ <;> (rw [q]; exact e _ _ q (fun ps z => by cases z))
theorem RS.same {T : List (Addr × Str)} {K : Frag} {M : Pl} {st : DSt} {H H' : Hp} (s : RS T K M st H) (e : Same H H') : RS T K M st H' := s.ext (ExtN.of e) (s.tabs.ext e)
section
variable {T : List (Addr × Str)} {X : Cx} {a b : Expr} {fa fb : DPE} {pos p : Pos}
end
theorem RE.snoc {K : Frag} {M : Pl} {H : Hp} {r : DEnv} {σ : L2.St} {d : D} {v : V} (h : RE K M H r σ) (rv : RV K M H d v) : RE K M H (r ++ [some d]) (σ ++ [some v]) := by
  refine ⟨by simp [h.len], fun i c e => ?_⟩
  by_cases lt : i < r.length
  · rw [List.getElem?_append_left lt] at e
    rw [List.getElem?_append_left (by rw [← h.len]; exact lt)]
    exact h.at_ i c e
  · rw [List.getElem?_append_right (by omega)] at e
    rw [List.getElem?_append_right (by rw [← h.len]; omega)]
    have i0 : i - r.length = 0 := by
      have := (List.getElem?_eq_some_iff.mp e).1
      simp at this
      omega
    rw [i0] at e
    rw [← h.len, i0]
    cases e
    exact ⟨v, rfl, rv⟩
end DL
namespace DL
open PySem PySem.Spec PyProof.Rows L2 LamX PySem.W SL
section
variable {T : List (Addr × Str)} {X : Cx} {a b c e : Expr} {es : List Expr} {fa fb fc f : DTE} {fs : DTA} {pos p : Pos} {K : Frag}
def dLtG : DR2 := fun x y st Q => match x, y with
  | .int i, .int j => Q (.bl (decide (i < j))) st
  | .tup xs, .tup ys => onO (intsD xs) fun ns => onO (intsD ys) fun ms => Q (.bl (HT.lexLt ns ms)) st
  | _, _ => False
def rLtG (K : Frag) : R2 := fun x y H Q => (rI0 fun i j => .bl (decide (i < j))) x y H Q ∨ rLtT K x y H Q
theorem op_ltG (hu : X.A.units < cLine) : OpR X (compareOp .Lt) (rLtG X.K) := OpR.or op_lt (op_ltT hu)
theorem opD_ltG : OpD T K (rLtG K) dLtG := by
  intro M H st x y vx vy Q' Q s rx ry h k
  unfold dLtG at h
  split at h
  · cases rx
    cases ry
    exact .inl ⟨_, _, rfl, rfl, k.here s (.bl _) h⟩
  · rename_i xs ys
    obtain ⟨ns, e1, h1⟩ := onO.of h
    obtain ⟨ms, e2, h2⟩ := onO.of h1
    have e1 := intsD_of e1
    have e2 := intsD_of e2
    subst e1
    subst e2
    cases rx with
    | tup n1 e1 d1 r1 =>
      cases ry with
      | tup n2 e2 d2 r2 =>
        have z1 := r1.ints
        have z2 := r2.ints
        subst z1
        subst z2
        exact .inr ⟨_, _, ns, ms, rfl, rfl, .inl (.inr ⟨_, e1⟩), .inl (.inr ⟨_, e2⟩), k.here s (.bl _) h2⟩
  · exact h.elim
theorem dt_chain {op op' : CmpOp} {r r' : R2} {d d' : DR2} (ho : OpR X (compareOp op) r) (ho' : OpR X (compareOp op') r') (hd : OpD T X.K r d) (hd' : OpD T X.K r' d') (ha : DE T X a fa) (hb : DE T X b fb) (hc : DE T X c fc)
    (hm : lastMarks [op, op'] [b, c] = false := by with_unfolding_all rfl) : DT T X (.Compare a [op, op'] [b, c] pos) (dTest (dChain d d' fa fb fc)) :=
  PT.imp (pt_chain ho ho' ha hb hc hm) fun σ H Q z => by
    obtain ⟨M, ρ, st, Q', s, re, hf, k⟩ := z
    refine ⟨M, ρ, st, _, s, re, hf, fun M1 H1 st1 x vx g1 s1 r1 h1 => ⟨M1, ρ, st1, _, s1, re.grow g1, h1, fun M2 H2 st2 y vy g2 s2 r2 h2 =>
      hd M2 H2 st2 x y vx vy _ _ s2 (r1.grow g2) r2 h2 fun M3 H3 st3 z vz g3 s3 r3 h3 => ?_⟩⟩
    obtain ⟨kk, rfl, h4⟩ := onB.of h3
    cases r3
    refine ⟨kk, rfl, ?_⟩
    have g13 := (g1.trans g2).trans g3
    cases kk with
    | true =>
      rw [if_pos rfl] at h4
      refine iteT ?_
      exact ⟨M3, ρ, st3, _, s3, re.grow g13, h4, fun M4 H4 st4 w vw g4 s4 r4 h5 => hd' M4 H4 st4 y w vy vw _ _ s4 ((r2.grow g3).grow g4) r4 h5 fun M5 H5 st5 q vq g5 s5 r5 h6 => by
        obtain ⟨b, rfl, h7⟩ := onB.of h6
        cases r5
        exact ⟨b, rfl, k M5 H5 st5 b ((g13.trans g4).trans g5) s5 h7⟩⟩
    | false =>
      rw [if_neg (by decide)] at h4
      refine iteF ?_
      exact ⟨false, rfl, k M3 H3 st3 false g13 s3 h4⟩
def perm {α : Type} (ix : List Nat) (xs : List α) : List α := ix.filterMap (xs[·]?)
theorem RVs.perm {M : Pl} {H : Hp} {ds : List D} {vs : List V} (r : RVs K M H ds vs) : ∀ ix : List Nat, RVs K M H (DL.perm ix ds) (DL.perm ix vs)
  | [] => .nil
  | i :: ix => by
    unfold DL.perm
    rw [List.filterMap_cons, List.filterMap_cons]
    cases q : ds[i]? with
    | none =>
      have z : vs[i]? = none := by
        rw [List.getElem?_eq_none_iff] at q ⊢
        rw [← r.length]
        exact q
      rw [z]
      exact RVs.perm r ix
    | some d =>
      obtain ⟨v, e, rv⟩ := r.get q
      rw [e]
      exact .cons rv (RVs.perm r ix)
theorem vals_perm {vs : List V} {us : List Value} (r : Vals vs us) : ∀ ix : List Nat, Vals (DL.perm ix vs) (DL.perm ix us)
  | [] => .nil
  | i :: ix => by
    unfold DL.perm
    rw [List.filterMap_cons, List.filterMap_cons]
    cases q : vs[i]? with
    | none =>
      rw [r.none_of q]
      exact vals_perm r ix
    | some d =>
      obtain ⟨v, e, rv⟩ := r.get q
      rw [e]
      exact .cons rv (vals_perm r ix)
abbrev DKw (T : List (Addr × Str)) (X : Cx) (kws : List Keyword) (f : DTA) : Prop := PK X kws (liftA T X.K f)
theorem PK.imp {kws : List Keyword} {t t' : TA} (h : PK X kws t) (i : ∀ σ H Q, t' σ H Q → t σ H Q) : PK X kws t' := ⟨fun pos pins s σ H Q I z => h.run pos pins s σ H Q I (i σ H Q z)⟩
theorem dk_nil : DKw T X [] daNil := PK.imp pk_nil fun σ H Q ⟨M, ρ, st, Q', s, re, hf, k⟩ => k M H st [] [] (Grow.refl M H) s .nil hf
theorem dk_cons {nm : Option Str} {kpos : Pos} {kws : List Keyword} {g : DTA} (ha : DE T X e f) (hr : DKw T X kws g) : DKw T X (⟨nm, e, kpos⟩ :: kws) (daCons f g) :=
  PK.imp (pk_cons ha hr) fun σ H Q ⟨M, ρ, st, Q', s, re, hf, k⟩ =>
    ⟨M, ρ, st, _, s, re, hf, fun M1 H1 st1 x vx g1 s1 r1 h1 => ⟨M1, ρ, st1, _, s1, re.grow g1, h1, fun M2 H2 st2 ds vs g2 s2 r2 h2 => k M2 H2 st2 _ _ (g1.trans g2) s2 (.cons (r1.grow g2) r2) h2⟩⟩
end
end DL
namespace SL
open PySem PySem.Spec PyProof.Rows L2
section
open PySem.AutoSeq1 (wpAny_loadPart')
end
section
variable {prog : Program} {w : World} {A : Around} {E : Value → Shared → Prop} {s : Shared}
end
end SL
namespace DL
open PySem PySem.Spec PyProof.Rows L2 LamX PySem.W SL RZ
def enumD (xs : List D) : List D := xs.zipIdx.map fun p => D.tuk [.int (p.2 : Nat), p.1]
section
variable {T : List (Addr × Str)} {K : Frag} {M : Pl} {H : Hp} {st : DSt} {I : DIt} {a : Addr}
end
def itL (st : DSt) : D → Option DIt
  | .lst ds => some ⟨ds, none⟩
  | .scr ds => some ⟨ds, none⟩
  | .ref n => match st[n]? with | some (.lst ds) => some ⟨ds, some (n, .lst ds)⟩ | _ => none
  | _ => none
def itT : D → Option DIt
  | .tup ds => some ⟨ds, none⟩
  | .tuk ds => some ⟨ds, none⟩
  | _ => none
section
variable {T : List (Addr × Str)} {K : Frag} {M : Pl} {H : Hp} {st : DSt}
theorem itL.is {d : D} {v : V} {I : DIt} (s : RS T K M st H) (r : RV K M H d v) (e : itL st d = some I) : ∃ a, v = .ref a ∧ IsL T K M H I a ∧ okS I st := by
  cases r with
  | lst n h rs => cases e; exact ⟨_, rfl, fun M' H' st' l s ok => ⟨_, rs.later l, .inl (Rd.later l n (.inl h))⟩, .inl rfl⟩
  | scr n h rs => cases e; exact ⟨_, rfl, fun M' H' st' l s ok => ⟨_, rs.later l, .inl (Rd.later l n h)⟩, .inl rfl⟩
  | lsk h rs => cases e; exact ⟨_, rfl, fun M' H' st' l s ok => ⟨_, rs.later l, h H'⟩, .inl rfl⟩
  | ref h =>
    obtain ⟨o, e1, ro⟩ := s.atM h
    unfold itL at e
    simp only [e1] at e
    cases o with
    | lst xs =>
      cases e
      refine ⟨_, rfl, fun M' H' st' l s ok => ?_, .inr ⟨_, _, rfl, e1⟩⟩
      rcases ok with z | ⟨n', ys, z, q⟩
      · cases z
      · cases z
        obtain ⟨xs, e1, e2⟩ := s.obj _ _ _ (l.get _ _ h) q
        exact ⟨xs, e2, .inl (.inl e1)⟩
    | dK _ => cases e
    | dT _ => cases e
    | lk _ _ _ => cases e
    | lkT _ _ _ => cases e
    | ins _ _ => cases e
  | _ => cases e
theorem itT.is {d : D} {v : V} {I : DIt} (r : RV K M H d v) (e : itT d = some I) : ∃ a, v = .ref a ∧ IsT T K M H I a ∧ I.src = none := by
  cases r with
  | tup n h q rs => cases e; exact ⟨_, rfl, fun M' H' st' l s ok => ⟨_, rs.later l, .inl (.inr ⟨_, l.keep _ _ n h (fun ps z => by cases z)⟩)⟩, rfl⟩
  | tuk n h rs => cases e; exact ⟨_, rfl, fun M' H' st' l s ok => ⟨_, rs.later l, .inl (.inl (l.keep _ _ n h (fun ps z => by cases z)))⟩, rfl⟩
  | _ => cases e
end
def wEnum (fs : DTA) : DTI := fun r st R => fs r st fun ds st1 => on1 ds fun x => onO (itOf st1 x) fun I => R ⟨enumD I.items, I.src⟩ st1
def zipD (xs ys : List D) : List D := (xs.zip ys).map fun p => D.tuk [p.1, p.2]
def wZip (fs : DTA) : DTI := fun r st R => fs r st fun ds st1 => on2 ds fun x y => onO (itT x) fun I => onO (itT y) fun J => R ⟨zipD I.items J.items, none⟩ st1
section
variable {T : List (Addr × Str)} {X : Cx} {e e2 : Expr} {fs : DTA} {p pos tpos : Pos} {elts : List Expr} {kk : Nat}
end
end DL
namespace DL
open PySem PySem.Spec PyProof.Rows L2 LamX PySem.W SL
def compI (I : DIt) (g : DTG) (tt : DTT) (te : DTE) (r : DEnv) (Nx : List D → DSt → Prop) : List D → List D → DSt → Prop
  | [], acc, st => okI I st (Nx acc st)
  | d :: ds, acc, st => okI I st (g d r st fun r2 st2 => tt r2 st2 fun b st3 => if b = true then te r2 st3 fun y st4 => acc.length < sizeLine ∧ compI I g tt te r Nx ds (acc ++ [y]) st4 else compI I g tt te r Nx ds acc st3)
def comp2 (I : DIt) (g : DTG) (tt : DTT) (f1 : DTI) (g1 : DTG) (tt1 : DTT) (te : DTE) (r : DEnv) (vs1 : List Nat) (Q : List D → DSt → Prop) : List D → List D → DSt → Prop
  | [], acc, st => okI I st (Q acc st)
  | d :: ds, acc, st => okI I st (g d r st fun r2 st2 => tt r2 st2 fun b st3 => if b = true then f1 r2 st3 fun I1 st4 => compI I1 g1 tt1 te (wipeD r2 vs1) (comp2 I g tt f1 g1 tt1 te r vs1 Q ds) I1.items acc st4 else comp2 I g tt f1 g1 tt1 te r vs1 Q ds acc st3)
def dLc2G (f : DTI) (g : DTG) (tt : DTT) (f1 : DTI) (g1 : DTG) (tt1 : DTT) (te : DTE) (vs vs1 : List Nat) (fin : (D → DSt → Prop) → List D → DSt → Prop) : DTE := fun r st Q => f r st fun I st1 => comp2 I g tt f1 g1 tt1 te (wipeD r vs) vs1 (fin Q) I.items [] st1
def Mk (T : List (Addr × Str)) (K : Frag) (M1 : Pl) (H1 : Hp) (p : Addr) (N : Pl) (acc : List D) (st : DSt) (H : Hp) : Prop := Grow M1 H1 N H ∧ RS T K (N.hide p) st H ∧ ∃ xs, H p = some (.lst xs) ∧ RVs K (N.hide p) H acc xs
theorem Mk.go {T : List (Addr × Str)} {K : Frag} {M1 N : Pl} {H1 H H2 : Hp} {st1 st st2 : DSt} {p : Addr} {acc : List D} {M2 : Pl} (m : Mk T K M1 H1 p N acc st H) (s1 : RS T K M1 st1 H1) (np : H1 p = none) (g : Grow (N.hide p) H M2 H2) (s2 : RS T K M2 st2 H2) :
    ∃ N2, M2 = N2.hide p ∧ Mk T K M1 H1 p N2 acc st2 H2 ∧ Later (N.hide p) H (N2.hide p) H2 := by
  obtain ⟨gr, s, xs, hp, rs⟩ := m
  obtain ⟨N2, rfl⟩ := grow_hide g
  have hp2 : H2 p = some (.lst xs) := (g.hid p hidden_at).trans hp
  refine ⟨N2, rfl, ⟨?_, s2, xs, hp2, rs.grow g⟩, g.later⟩
  have z := gr.step (o := .lst xs) s1 np g
  rw [upd_self hp2] at z
  exact z
theorem Mk.push {T : List (Addr × Str)} {K : Frag} {M1 N : Pl} {H1 H : Hp} {st1 st : DSt} {p : Addr} {acc : List D} {y : D} {v : V} (m : Mk T K M1 H1 p N acc st H) (s1 : RS T K M1 st1 H1) (np : H1 p = none) (rv : RV K (N.hide p) H y v) :
    ∃ xs, H p = some (.lst xs) ∧ xs.length = acc.length ∧ Mk T K M1 H1 p N (acc ++ [y]) st (upd H p (.lst (xs ++ [v]))) ∧ Later (N.hide p) H (N.hide p) (upd H p (.lst (xs ++ [v]))) := by
  obtain ⟨gr, s, xs, hp, rs⟩ := m
  obtain ⟨s2, l⟩ := s.push (ys := xs ++ [v]) hp
  exact ⟨xs, hp, rs.length.symm, ⟨gr.step s1 np (Grow.refl _ _), s2, xs ++ [v], upd_same, (rs.later l).append (.cons (rv.later l) .nil)⟩, l⟩
theorem drop_cons {α : Type} {l ds : List α} {d : α} {i : Nat} (e : l.drop i = d :: ds) : l[i]? = some d ∧ i < l.length ∧ l.drop (i + 1) = ds := by
  have z : (l.drop i)[0]? = some d := by rw [e]; rfl
  rw [List.getElem?_drop, Nat.add_zero] at z
  refine ⟨z, (List.getElem?_eq_some_iff.mp z).1, ?_⟩
  have z : (l.drop i).drop 1 = ds := by rw [e]; rfl
  rw [List.drop_drop] at z
  exact z
section
variable {T : List (Addr × Str)} {X : Cx} {elt tg iter tg1 iter1 : Expr} {ifs ifs1 : List Expr} {scope : Scope} {own : List (Str × Nat)} {vs1 : List Nat} {pos : Pos} {f f1 : DTI} {g g1 : DTG} {tt tt1 : DTT} {te : DTE}
end
end DL
namespace DL
open PySem PySem.Spec PyProof.Rows L2 LamX PySem.W SL
section
variable {P : Program} {w : World} {K : Frag} {mg : Str → Option Value} {base : Heap} {T : List (Addr × Str)}
theorem _root_.L2.Fun.bindsK {x qual : Str} {st : Stmt} {f : Addr} {fd : FuncData} {s : Shared} {args : Args} {bs : List (Str × Value)} (F : Fun K x qual st f fd)
    (h : ∀ (kV doc pm : Value) (an : Option Addr) (cdv ct : Value), bindArgs (PySem.W.fnOf x qual (defArgs st) (defBody st) (defScope st) .none kV doc pm an cdv ct) args = pure bs) : BindsTo s fd args bs := by
  obtain ⟨oc, od, kV, doc, pm, an, cdv, ct, osl, rfl, lk, hcd⟩ := F.ex
  exact .of_eq (h kV doc pm an cdv ct)
theorem _root_.L2.Fun.one {x qual x' qual' : Str} {st st' : Stmt} {f : Addr} {fd fd' : FuncData} (F : Fun K x qual st f fd) (G : Fun K x' qual' st' f fd') : fd = fd' := by
  obtain ⟨_, _, _, _, _, _, _, _, _, _, l1, _⟩ := F.ex
  obtain ⟨_, _, _, _, _, _, _, _, _, _, l2, _⟩ := G.ex
  rw [l1] at l2
  cases l2
  rfl
def Scr (ns : List Int) (x : D) : Prop := x = .scr (ns.map D.int)
theorem Scr.seq {ns : List Int} {x : D} (h : Scr ns x) (st : DSt) : seqS st x = some (ns.map D.int) := by rw [show x = _ from h]; rfl
theorem law_start {cs : List (Addr × Addr)} {H : Hp} {a : Addr} {ns : List Int} {g : DRs} (hT : ∀ p ∈ T, ∃ q ∈ cs, q.2 = p.1) (em : ∀ p ∈ cs, H p.2 = some (.tbl #[])) (hS : SqL K H a (ns.map V.int)) (h : ∀ x, Scr ns x → g [x] [] fun d _ => d = .bl true) :
    spD T K 1 g [.ref a] H (fun v _ => v = .bl true) E0 := by
  obtain ⟨x, hx, rx⟩ : ∃ x, Scr ns x ∧ RV K ⟨0, []⟩ H x (.ref a) := by
    rcases hS with hS | hS
    · exact ⟨_, rfl, .scr (by simp) hS (RVs.of_ints ns)⟩
    · exact ⟨_, rfl, .lsk (fun G => .inr hS) (RVs.of_ints ns)⟩
  refine ⟨rfl, ⟨0, []⟩, [], [x], _, ⟨rfl, List.nodup_nil, fun n a o e => by simp [Pl.at_] at e, fun p hp => ?_, fun a ha => by simp at ha⟩, .cons rx .nil, h x hx, fun M' H' st' d v g s r q => ?_⟩
  · obtain ⟨q, hq, e⟩ := hT p hp
    have z := TabS.nil (q := p.2) (em q hq)
    rw [e] at z
    exact z
  · subst q
    cases r
    rfl
end
end DL
namespace DL
open PySem PySem.Spec PyProof.Rows L2 LamX PySem.W SL
section
variable {T : List (Addr × Str)} {X : Cx} {a b c e : Expr} {es : List Expr} {fa fb fc f : DTE} {fs : DTA} {pos p : Pos} {K : Frag}
def dIsB : DR2 := fun x y st Q => onB x fun a => onB y fun b => Q (.bl (decide (a = b))) st
def dNotB : DR2 := fun x y st Q => onB x fun a => onB y fun b => Q (.bl (!decide (a = b))) st
def truD (st : DSt) : D → Option Bool
  | .bl b => some b
  | .non => some false
  | .int i => some (i != 0)
  | .tup xs => some (!xs.isEmpty)
  | .tuk xs => some (!xs.isEmpty)
  | .lst xs => some (!xs.isEmpty)
  | .scr xs => some (!xs.isEmpty)
  | .ref n => match st[n]? with | some (.lst xs) => some (!xs.isEmpty) | some (.dK kvs) => some (!kvs.isEmpty) | _ => none
  | _ => none
def dTruth (f : DTE) : DTT := fun r st Q => f r st fun x st1 => onO (truD st1 x) fun c => Q c st1
end
end DL
namespace DL
open PySem PySem.Spec PyProof.Rows L2 LamX PySem.W SL
section
variable {prog : Program} {w : World} {A : Around} {E : Value → Shared → Prop} {s : Shared} {l : Addr} {its : List Value} {ns : List Int} {Q : Value → Shared → Prop}
end
section
variable {X : Cx} {T : List (Addr × Str)} {K : Frag}
def onNs (st : DSt) (x : D) (k : List Int → Prop) : Prop := onO (seqS st x) fun xs => onO (intsD xs) k
theorem onNs.of {st : DSt} {x : D} {k : List Int → Prop} (h : onNs st x k) : ∃ ns, seqS st x = some (ns.map D.int) ∧ k ns := by
  obtain ⟨xs, e, h⟩ := onO.of h
  obtain ⟨ns, e2, h⟩ := onO.of h
  exact ⟨ns, by rw [e, intsD_of e2], h⟩
def dSum : DRs := fun ds st Q => on1 ds fun x => onNs st x fun ns => Q (.int ns.sum) st
def dMaxL : DRs := fun ds st Q => on1 ds fun x => onNs st x fun ns => 0 < ns.length ∧ ∀ m, m ∈ ns → (∀ y, y ∈ ns → y ≤ m) → Q (.int m) st
def dMinL : DRs := fun ds st Q => on1 ds fun x => onNs st x fun ns => 0 < ns.length ∧ ∀ m, m ∈ ns → (∀ y, y ∈ ns → m ≤ y) → Q (.int m) st
def dInt : DRs := fun ds st Q => on1 ds fun x => match x with
  | .int i => Q (.int i) st
  | .bl b => Q (.int (if b then 1 else 0)) st
  | _ => False
theorem callD_int : CallD T K (fun xs H Q => (∃ i, xs = [.int i] ∧ Q (.int i) H) ∨ ∃ k, xs = [.bl k] ∧ Q (.int (if k then 1 else 0)) H) dInt := by
  intro M H st ds vs Q' Q s r h k
  obtain ⟨x, rfl, h⟩ := on1.of h
  obtain ⟨v, rfl, rv⟩ := r.one
  cases x with
  | int i => cases rv; exact .inl ⟨i, rfl, k.here s (.int _) h⟩
  | bl b => cases rv; exact .inr ⟨b, rfl, k.here s (.int _) h⟩
  | _ => exact h.elim
end
end DL
namespace DL
open PySem PySem.Spec PyProof.Rows L2 LamX PySem.W SL
section
variable {X : Cx} {T : List (Addr × Str)} {K : Frag}
def dMaxDef (fs : DTE) (fd : DTE) : DTE := fun r st Q => fs r st fun x st1 => fd r st1 fun d st2 => onNs st2 x fun ns => (ns = [] → Q d st2) ∧ ∀ m, m ∈ ns → (∀ y, y ∈ ns → y ≤ m) → Q (.int m) st2
end
end DL
namespace DL
open PySem PySem.Spec PyProof.Rows L2 LamX PySem.W SL
end DL
namespace DL
open PySem PySem.Spec PyProof.Rows L2 LamX PySem.W SL
def keyD : D → Option Key
  | .int i => some (.inl i)
  | .str x => some (.inr x)
  | _ => none
theorem RV.key {K : Frag} {M : Pl} {H : Hp} {d : D} {v : V} {k : Key} (r : RV K M H d v) (h : keyD d = some k) : v = kV k := by
  cases r <;> first | (cases h; rfl) | cases h
def valD {κ : Type} [DecidableEq κ] (kvs : List (κ × D)) (k : κ) : Option D := (kvs.find? fun kv => decide (kv.1 = k)).map (·.2)
def putD {κ : Type} [DecidableEq κ] (kvs : List (κ × D)) (k : κ) (v : D) : List (κ × D) :=
  if (kvs.any fun kv => decide (kv.1 = k)) = true then kvs.map (fun kv => if kv.1 = k then (kv.1, v) else kv) else kvs ++ [(k, v)]
structure KVs {κ : Type} (K : Frag) (M : Pl) (H : Hp) (kvs : List (κ × D)) (ys : List (κ × V)) : Prop where
  ks : kvs.map (·.1) = ys.map (·.1)
  vs : RVs K M H (kvs.map (·.2)) (ys.map (·.2))
section
variable {κ : Type} [DecidableEq κ] {K : Frag} {M : Pl} {H : Hp}
theorem KVs.nil : KVs K M H ([] : List (κ × D)) [] := ⟨rfl, .nil⟩
theorem KVs.cons {k : κ} {d : D} {v : V} {kvs : List (κ × D)} {ys : List (κ × V)} (h : RV K M H d v) (t : KVs K M H kvs ys) : KVs K M H ((k, d) :: kvs) ((k, v) :: ys) := ⟨by rw [List.map_cons, List.map_cons, t.ks], .cons h t.vs⟩
theorem KVs.un {k : κ} {d : D} {kvs : List (κ × D)} {ys : List (κ × V)} (h : KVs K M H ((k, d) :: kvs) ys) : ∃ v zs, ys = (k, v) :: zs ∧ RV K M H d v ∧ KVs K M H kvs zs := by
  obtain ⟨h1, h2⟩ := h
  cases ys with
  | nil => cases h1
  | cons y zs =>
    obtain ⟨k', v⟩ := y
    rw [List.map_cons, List.map_cons] at h1 h2
    cases h2 with
    | cons a b =>
      have e := List.cons.inj h1
      cases e.1
      exact ⟨v, zs, rfl, a, e.2, b⟩
theorem KVs.grow {M' : Pl} {H' : Hp} {kvs : List (κ × D)} {ys : List (κ × V)} (h : KVs K M H kvs ys) (g : Grow M H M' H') : KVs K M' H' kvs ys := ⟨h.ks, h.vs.grow g⟩
theorem KVs.length {kvs : List (κ × D)} {ys : List (κ × V)} (h : KVs K M H kvs ys) : kvs.length = ys.length := by
  have := congrArg List.length h.ks
  rw [List.length_map, List.length_map] at this
  exact this
theorem KVs.val {k : κ} : ∀ {kvs : List (κ × D)} {ys : List (κ × V)}, KVs K M H kvs ys → (valD kvs k = none ∧ valV ys k = none) ∨ ∃ d v, valD kvs k = some d ∧ valV ys k = some v ∧ RV K M H d v
  | [], ys, h => by
    have : ys = [] := by cases ys with | nil => rfl | cons _ _ => cases h.ks
    subst this
    exact .inl ⟨rfl, rfl⟩
  | (k', d) :: kvs, ys, h => by
    obtain ⟨v, zs, rfl, rv, t⟩ := h.un
    by_cases e : k' = k
    · subst e
      exact .inr ⟨d, v, by simp [valD, List.find?_cons], valV_pos rfl, rv⟩
    · have z := KVs.val (k := k) t
      rw [valV_neg e]
      have e2 : valD ((k', d) :: kvs) k = valD kvs k := by simp [valD, List.find?_cons, e]
      rw [e2]
      exact z
theorem KVs.any {k : κ} : ∀ {kvs : List (κ × D)} {ys : List (κ × V)}, KVs K M H kvs ys → (kvs.any fun kv => decide (kv.1 = k)) = (ys.any fun kv => decide (kv.1 = k))
  | [], ys, h => by
    have : ys = [] := by cases ys with | nil => rfl | cons _ _ => cases h.ks
    subst this
    rfl
  | (k', d) :: kvs, ys, h => by
    obtain ⟨v, zs, rfl, rv, t⟩ := h.un
    rw [List.any_cons, List.any_cons, KVs.any t]
theorem KVs.app {k : κ} {d : D} {v : V} (h : RV K M H d v) : ∀ {kvs : List (κ × D)} {ys : List (κ × V)}, KVs K M H kvs ys → KVs K M H (kvs ++ [(k, d)]) (ys ++ [(k, v)])
  | [], ys, t => by
    have : ys = [] := by cases ys with | nil => rfl | cons _ _ => cases t.ks
    subst this
    exact .cons h .nil
  | (k', d') :: kvs, ys, t => by
    obtain ⟨v', zs, rfl, rv, t'⟩ := t.un
    exact .cons rv (KVs.app h t')
theorem KVs.upd {k : κ} {d : D} {v : V} (h : RV K M H d v) : ∀ {kvs : List (κ × D)} {ys : List (κ × V)}, KVs K M H kvs ys → KVs K M H (kvs.map fun kv => if kv.1 = k then (kv.1, d) else kv) (ys.map fun kv => if kv.1 = k then (kv.1, v) else kv)
  | [], ys, t => by
    have : ys = [] := by cases ys with | nil => rfl | cons _ _ => cases t.ks
    subst this
    exact .nil
  | (k', d') :: kvs, ys, t => by
    obtain ⟨v', zs, rfl, rv, t'⟩ := t.un
    rw [List.map_cons, List.map_cons]
    by_cases e : k' = k
    · rw [if_pos e, if_pos e]; exact .cons h (KVs.upd h t')
    · rw [if_neg e, if_neg e]; exact .cons rv (KVs.upd h t')
theorem KVs.put {k : κ} {d : D} {v : V} {kvs : List (κ × D)} {ys : List (κ × V)} (h : RV K M H d v) (t : KVs K M H kvs ys) : KVs K M H (putD kvs k d) (putK ys k v) := by
  unfold putD putK
  rw [t.any (k := k)]
  split
  · exact t.upd h
  · exact t.app h
end
def onDk (st : DSt) (x : D) (k : Nat → List (Key × D) → Prop) : Prop := match x with
  | .ref n => match st[n]? with | some (.dK kvs) => k n kvs | _ => False
  | _ => False
theorem onDk_ref {st : DSt} {n : Nat} {kvs : List (Key × D)} {k : Nat → List (Key × D) → Prop} (h : st[n]? = some (.dK kvs)) : onDk st (.ref n) k = k n kvs := by unfold onDk; simp only [h]
theorem onDk.of {st : DSt} {d : D} {k : Nat → List (Key × D) → Prop} (h : onDk st d k) : ∃ n kvs, d = .ref n ∧ st[n]? = some (.dK kvs) ∧ k n kvs := by
  cases d with
  | ref n =>
    unfold onDk at h
    simp only at h
    split at h
    · rename_i kvs e
      exact ⟨n, kvs, rfl, e, h⟩
    · exact h.elim
  | _ => exact h.elim
section
variable {T : List (Addr × Str)} {X : Cx} {K : Frag} {a b o i : Expr} {fa fb fo fi fv : DTE} {pos : Pos}
theorem onDk.rd {M : Pl} {H : Hp} {st : DSt} {n : Nat} {kvs : List (Key × D)} {v : V} (s : RS T K M st H) (r : RV K M H (.ref n) v) (e : st[n]? = some (.dK kvs)) : ∃ a ys, v = .ref a ∧ M.at_ n = some a ∧ H a = some (.dK ys) ∧ KVs K M H kvs ys := by
  cases r with
  | ref hm =>
    obtain ⟨ys, e1, e2, e3⟩ := s.obj n _ _ hm e
    exact ⟨_, ys, rfl, hm, e1, ⟨e2, e3⟩⟩
theorem Kn.setD {M : Pl} {H : Hp} {st : DSt} {Q' : DK} {Q : VK} {n : Nat} {a : Addr} {ds : List (Key × D)} {ys : List (Key × V)} {d : D} {v : V} (k : Kn T K M H Q' Q) (s : RS T K M st H) (hm : M.at_ n = some a) (r : KVs K M H ds ys) (rv : RV K M H d v) (q : Q' d (st.set n (.dK ds))) : Q v (L2.upd H a (.dK ys)) := by
  have gw : Grow M H M (L2.upd H a (.dK ys)) := Grow.write s.nd hm
  exact k M _ _ d v gw (s.write (u := .dK ds) hm ⟨ys, upd_same, r.ks, (r.grow gw).vs⟩) (rv.grow gw) q
def dNewK : DTE := fun _ st Q => Q (.ref st.length) (st ++ [.dK []])
theorem de_newK : DE T X (.Dict [] [] pos) dNewK := PE.imp pe_dnewK fun σ H Q ⟨M, r, st, Q', s, re, h, k⟩ => fun p np =>
  k (M.app [p]) _ (st ++ [.dK []]) _ _ (Grow.place s.hid np) (s.place (u := .dK []) np ⟨[], upd_same, rfl, .nil⟩) (.ref (by unfold Pl.at_; show (M.m ++ [p])[M.h + st.length]? = some p; rw [← s.len]; simp)) (show Q' (.ref st.length) (st ++ [.dK []]) from h)
def dGetK : DR2 := fun x y st Q => onDk st x fun n kvs => onO (keyD y) fun k => onO (valD kvs k) fun d => Q d st
theorem de_getK (hu : X.A.units + 1 < cLine) (ha : DE T X a fa) (hb : DE T X b fb) (hs : NoSl b) : DE T X (.Subscript a b pos) (dOp dGetK fa fb) := PE.imp (pe_dget hu ha hb hs) fun σ H Q ⟨M, r, st, Q', s, re, h, k⟩ =>
  ⟨M, r, st, _, s, re, h, fun M1 H1 st1 x vx g1 s1 r1 h1 => ⟨M1, r, st1, _, s1, re.grow g1, h1, fun M2 H2 st2 y vy g2 s2 r2 h2 => by
    obtain ⟨n, kvs, rfl, e, h2⟩ := onDk.of h2
    obtain ⟨kk, ek, h2⟩ := onO.of h2
    obtain ⟨d, ed, h2⟩ := onO.of h2
    obtain ⟨p, ys, rfl, hm, hp, kv⟩ := onDk.rd s2 (r1.grow g2) e
    have := r2.key ek
    subst this
    rcases kv.val (k := kk) with ⟨z, _⟩ | ⟨d', v, z, z2, rv⟩
    · rw [z] at ed; cases ed
    · rw [z] at ed
      cases ed
      refine ⟨p, v, rfl, ?_, ((k.grow g1).grow g2).here s2 rv h2⟩
      rw [← z2]
      exact DGet.k hp⟩⟩
def dInK (neg : Bool) (fy fd : DTE) : DTE := fun r st Q => fy r st fun y st1 => fd r st1 fun x st2 => onDk st2 x fun n kvs => onO (keyD y) fun k => Q (.bl (if neg then !(valD kvs k).isSome else (valD kvs k).isSome)) st2
theorem lift_inK {K : Frag} {σ : L2.St} {H : Hp} {Q : VK} (h : lift T K (dInK false fa fb) σ H Q) : tDIn (lift T K fa) (lift T K fb) σ H Q := by
  obtain ⟨M, r, st, Q', s, re, h, k⟩ := h
  refine ⟨M, r, st, _, s, re, h, fun M1 H1 st1 y vy g1 s1 r1 h1 => ⟨M1, r, st1, _, s1, re.grow g1, h1, fun M2 H2 st2 x vx g2 s2 r2 h2 => ?_⟩⟩
  obtain ⟨n, kvs, rfl, e, h2⟩ := onDk.of h2
  obtain ⟨kk, ek, h2⟩ := onO.of h2
  obtain ⟨p, ys, rfl, hm, hp, kv⟩ := onDk.rd s2 r2 e
  have := (r1.grow g2).key ek
  subst this
  refine ⟨p, valV ys kk, rfl, DGet.k hp, ?_⟩
  have e2 : (valV ys kk).isSome = (valD kvs kk).isSome := by
    rcases kv.val (k := kk) with ⟨z, z2⟩ | ⟨d', v, z, z2, rv⟩ <;> rw [z, z2] <;> rfl
  rw [e2]
  exact ((k.grow g1).grow g2).here s2 (.bl _) h2
theorem lift_ninK {K : Frag} {σ : L2.St} {H : Hp} {Q : VK} (h : lift T K (dInK true fa fb) σ H Q) : tDNotIn (lift T K fa) (lift T K fb) σ H Q := by
  obtain ⟨M, r, st, Q', s, re, h, k⟩ := h
  refine ⟨M, r, st, _, s, re, h, fun M1 H1 st1 y vy g1 s1 r1 h1 => ⟨M1, r, st1, _, s1, re.grow g1, h1, fun M2 H2 st2 x vx g2 s2 r2 h2 => ?_⟩⟩
  obtain ⟨n, kvs, rfl, e, h2⟩ := onDk.of h2
  obtain ⟨kk, ek, h2⟩ := onO.of h2
  obtain ⟨p, ys, rfl, hm, hp, kv⟩ := onDk.rd s2 r2 e
  have := (r1.grow g2).key ek
  subst this
  refine ⟨p, valV ys kk, rfl, DGet.k hp, ?_⟩
  have e2 : (valV ys kk).isSome = (valD kvs kk).isSome := by
    rcases kv.val (k := kk) with ⟨z, z2⟩ | ⟨d', v, z, z2, rv⟩ <;> rw [z, z2] <;> rfl
  rw [e2]
  exact ((k.grow g1).grow g2).here s2 (.bl _) h2
theorem dt_inK (hu : X.A.units + 1 < cLine) (ha : DE T X a fa) (hb : DE T X b fb) (hm : behindInMarks .In b = false := by rfl) : DT T X (.Compare a [.In] [b] pos) (dTest (dInK false fa fb)) := dt_cmp (pc_din hu ha hb) (fun _ _ _ h => lift_inK h) hm
theorem dt_ninK (hu : X.A.units + 1 < cLine) (ha : DE T X a fa) (hb : DE T X b fb) (hm : behindInMarks .NotIn b = false := by rfl) : DT T X (.Compare a [.NotIn] [b] pos) (dTest (dInK true fa fb)) := dt_cmp (pc_dnotin hu ha hb) (fun _ _ _ h => lift_ninK h) hm
def sPutK (fd fy fv : DTE) : DTS := fun E r st => fv r st fun v st1 => fd r st1 fun x st2 => fy r st2 fun y st3 => onDk st3 x fun n kvs => onO (keyD y) fun k => kvs.length < sizeLine ∧ E.nx r (st3.set n (.dK (putD kvs k v)))
theorem ds_putK {value : Expr} {pos' : Pos} (hu : X.A.units + 1 < cLine) (ho : DE T X o fo) (hi : DE T X i fi) (hv : DE T X value fv) (hs : swapsWith value (some (.Subscript o i pos')) pos.line X.env = pure false := by rfl) :
    DSt1 T X (.Assign [.Subscript o i pos'] value pos) (sPutK fo fi fv) := PS.imp (ps_dput hu ho hi hv hs) fun E σ H ⟨M, r, st, E', s, re, h, k⟩ =>
  ⟨M, r, st, _, s, re, h, fun M1 H1 st1 v vv g1 s1 r1 h1 => ⟨M1, r, st1, _, s1, re.grow g1, h1, fun M2 H2 st2 x vx g2 s2 r2 h2 => ⟨M2, r, st2, _, s2, (re.grow g1).grow g2, h2, fun M3 H3 st3 y vy g3 s3 r3 h3 => by
    obtain ⟨n, kvs, rfl, e, h3⟩ := onDk.of h3
    obtain ⟨kk, ek, l, h3⟩ := onO.of h3
    obtain ⟨p, ys, rfl, hm, hp, kv⟩ := onDk.rd s3 (r2.grow g3) e
    have := r3.key ek
    subst this
    refine ⟨p, _, rfl, DPut.k hp (by rw [← kv.length]; exact l), ?_⟩
    have rv := (r1.grow g2).grow g3
    have gw : Grow M3 H3 M3 (L2.upd H3 p (.dK (putK ys kk vv))) := Grow.write s3.nd hm
    have kp := kv.put (k := kk) rv
    refine ((((k.nx).grow g1).grow g2).grow g3) M3 _ σ r _ gw (s3.write (u := .dK (putD kvs kk v)) hm ⟨_, upd_same, kp.ks, (kp.grow gw).vs⟩) ((((re.grow g1).grow g2).grow g3).grow gw) h3⟩⟩⟩
def dLenK : DRs := fun ds st Q => on1 ds fun x => onDk st x fun n kvs => Q (.int kvs.length) st
theorem callD_lenK : CallD T K (fun xs H Q => ∃ a kvs, xs = [V.ref a] ∧ H a = some (.dK kvs) ∧ Q (.int kvs.length) H) dLenK := by
  intro M H st ds vs Q' Q s r h k
  obtain ⟨x, rfl, h⟩ := on1.of h
  obtain ⟨n, kvs, rfl, e, h⟩ := onDk.of h
  obtain ⟨v, rfl, rv⟩ := r.one
  obtain ⟨p, ys, rfl, hm, hp, kv⟩ := onDk.rd s rv e
  exact ⟨p, ys, rfl, hp, by rw [← kv.length]; exact k.here s (.int _) h⟩
end
end DL
namespace DL
open PySem PySem.Spec PyProof.Rows L2 LamX PySem.W SL
section
variable {T : List (Addr × Str)} {X : Cx} {K : Frag} {a b o i : Expr} {fa fb fo fi fv : DTE} {pos : Pos}
def sAug (i : Nat) (g : Int → Int → Int) (f : DTE) : DTS := fun E r st => onOO r[i]? fun x => f r st fun y st1 => onI x fun m => onI y fun n => E.nx (r.set i (some (.int (g m n)))) st1
def on3 (ds : List D) (k : D → D → D → Prop) : Prop := match ds with | [x, y, z] => k x y z | _ => False
theorem on3.of {ds : List D} {k : D → D → D → Prop} (h : on3 ds k) : ∃ x y z, ds = [x, y, z] ∧ k x y z := by
  match ds, h with
  | [x, y, z], h => exact ⟨x, y, z, rfl, h⟩
  | [], h => exact h.elim
  | [_], h => exact h.elim
  | [_, _], h => exact h.elim
  | _ :: _ :: _ :: _ :: _, h => exact h.elim
def sPar3 (i j l : Nat) (f : DTA) : DTS := fun E r st => f r st fun ds st1 => on3 ds fun d e g => E.nx (((r.set i (some d)).set j (some e)).set l (some g)) st1
end
end DL
namespace SL
open PySem PySem.Spec PyProof.Rows L2 LamX PySem.W PySem.Calls
section
variable {P : Program} {w : World} {A : Around} {E : Value → Shared → Prop} {s : Shared} {a fa : Addr} {Q : Value → Shared → Prop} {kz : List PyData} {its : List Value} {o : Obj} {n : Nat} {T : String}
end
end SL
namespace DL
open PySem PySem.Spec PyProof.Rows L2 LamX PySem.W SL
end DL
namespace DL
open PySem PySem.Spec PyProof.Rows L2 LamX PySem.W SL
section
variable {r : DEnv} {st : DSt} {Q : DK} {E : DEnds} {f fa fb fc : DTE} {fs : DTA} {t u : DTT} {F G : DTS} {x y : D} {i j : Int} {R2' : DR2} {Rs : DRs} {i' j' : Nat}
@[simp] theorem e_var : dVar i' r st Q = onOO r[i']? fun d => Q d st := rfl
@[simp] theorem e_C : dC x r st Q = Q x st := rfl
@[simp] theorem e_op : dOp R2' fa fb r st Q = fa r st fun x st1 => fb r st1 fun y st2 => R2' x y st2 Q := rfl
@[simp] theorem e_neg : dNeg f r st Q = f r st fun x st1 => onI x fun i => Q (.int (-i)) st1 := rfl
@[simp] theorem e_isN : dIsN f r st Q = f r st fun x st1 => Q (.bl (isNon x)) st1 := rfl
@[simp] theorem e_notN : dNotN f r st Q = f r st fun x st1 => Q (.bl (!isNon x)) st1 := rfl
@[simp] theorem e_and : dAndV fa fb r st Q = fa r st fun x st1 => onB x fun c => if c = true then fb r st1 Q else Q (.bl false) st1 := rfl
@[simp] theorem e_or : dOrV fa fb r st Q = fa r st fun x st1 => onB x fun c => if c = true then Q (.bl true) st1 else fb r st1 Q := rfl
@[simp] theorem e_not : dNotV f r st Q = f r st fun x st1 => onB x fun c => Q (.bl (!c)) st1 := rfl
@[simp] theorem e_test {Qb : Bool → DSt → Prop} : dTest f r st Qb = f r st fun x st1 => onB x fun c => Qb c st1 := rfl
@[simp] theorem e_tAnd {Qb : Bool → DSt → Prop} : dtAnd t u r st Qb = t r st fun c st1 => if c = true then u r st1 Qb else Qb false st1 := rfl
@[simp] theorem e_tOr {Qb : Bool → DSt → Prop} : dtOr t u r st Qb = t r st fun c st1 => if c = true then Qb true st1 else u r st1 Qb := rfl
@[simp] theorem e_tNot {Qb : Bool → DSt → Prop} : dtNot t r st Qb = t r st fun c st1 => Qb (!c) st1 := rfl
@[simp] theorem e_tYes {Qb : Bool → DSt → Prop} : dtYes r st Qb = Qb true st := rfl
@[simp] theorem e_if : dIf t fa fb r st Q = t r st fun c st1 => if c = true then fa r st1 Q else fb r st1 Q := rfl
@[simp] theorem e_aNil {Qa : List D → DSt → Prop} : daNil r st Qa = Qa [] st := rfl
@[simp] theorem e_aCons {Qa : List D → DSt → Prop} : daCons f fs r st Qa = f r st fun d st1 => fs r st1 fun ds st2 => Qa (d :: ds) st2 := rfl
@[simp] theorem e_tup : dTup fs r st Q = fs r st fun ds st1 => okLen ds (Q (.tup ds) st1) := rfl
@[simp] theorem e_lst : dLst fs r st Q = fs r st fun ds st1 => okLen ds (Q (.lst ds) st1) := rfl
@[simp] theorem e_lstN : dLstN fs r st Q = fs r st fun ds st1 => okLen ds (Q (.ref st1.length) (st1 ++ [.lst ds])) := rfl
@[simp] theorem e_len0 {P : Prop} : okLen [] P = P := rfl
@[simp] theorem e_len1 {P : Prop} {a : D} : okLen [a] P = P := rfl
@[simp] theorem e_len2 {P : Prop} {a b : D} : okLen [a, b] P = P := rfl
@[simp] theorem e_len3 {P : Prop} {a b c : D} : okLen [a, b, c] P = P := rfl
@[simp] theorem e_len4 {P : Prop} {a b c d : D} : okLen [a, b, c, d] P = P := rfl
@[simp] theorem e_len5 {P : Prop} {a b c d e : D} : okLen [a, b, c, d, e] P = P := rfl
@[simp] theorem e_cb : dCB Rs fs r st Q = fs r st fun ds st1 => Rs ds st1 Q := rfl
@[simp] theorem e_on1 {k : D → Prop} {a : D} : on1 [a] k = k a := rfl
@[simp] theorem e_on2 {k : D → D → Prop} {a b : D} : on2 [a, b] k = k a b := rfl
@[simp] theorem e_onI {k : Int → Prop} : onI (.int i) k = k i := rfl
@[simp] theorem e_onB {k : Bool → Prop} {b : Bool} : onB (.bl b) k = k b := rfl
@[simp] theorem e_onO {α : Type} {k : α → Prop} {b : α} : onO (some b) k = k b := rfl
@[simp] theorem e_onO0 {α : Type} {k : α → Prop} : onO none k = False := rfl
@[simp] theorem e_onOO {k : D → Prop} {b : D} : onOO (some (some b)) k = k b := rfl
@[simp] theorem e_I0 {g : Int → Int → D} : dI0 g x y st Q = onI x fun i => onI y fun j => Q (g i j) st := rfl
@[simp] theorem e_I {C : Int → Int → Prop} {g : Int → Int → D} : dI C g x y st Q = onI x fun i => onI y fun j => C i j ∧ Q (g i j) st := rfl
@[simp] theorem e_add {fin : DK → List D → DSt → Prop} : dAddG fin (.int i) (.int j) st Q = Q (.int (i + j)) st := rfl
@[simp] theorem e_addT {fin : DK → List D → DSt → Prop} {xs ys : List D} : dAddG fin (.tup xs) (.tup ys) st Q = (xs.length + ys.length ≤ sizeLine ∧ Q (.tup (xs ++ ys)) st) := rfl
@[simp] theorem e_addS {fin : DK → List D → DSt → Prop} {a b : Str} : dAddG fin (.str a) (.str b) st Q = (a.length + b.length ≤ sizeLine ∧ Q (.str (a ++ b)) st) := rfl
@[simp] theorem e_addL {fin : DK → List D → DSt → Prop} {xs ys : List D} : dAddG fin (.lst xs) (.lst ys) st Q = (xs.length + ys.length ≤ sizeLine ∧ fin Q (xs ++ ys) st) := rfl
@[simp] theorem e_addLR {fin : DK → List D → DSt → Prop} {xs : List D} {n : Nat} : dAddG fin (.lst xs) (.ref n) st Q = onO (lstS st (.ref n)) fun ys => xs.length + ys.length ≤ sizeLine ∧ fin Q (xs ++ ys) st := rfl
@[simp] theorem e_addRL {fin : DK → List D → DSt → Prop} {ys : List D} {n : Nat} : dAddG fin (.ref n) (.lst ys) st Q = onO (lstS st (.ref n)) fun xs => xs.length + ys.length ≤ sizeLine ∧ fin Q (xs ++ ys) st := rfl
@[simp] theorem e_addRR {fin : DK → List D → DSt → Prop} {m n : Nat} : dAddG fin (.ref m) (.ref n) st Q = onO (lstS st (.ref m)) fun xs => onO (lstS st (.ref n)) fun ys => xs.length + ys.length ≤ sizeLine ∧ fin Q (xs ++ ys) st := rfl
@[simp] theorem e_mul {fin : DK → List D → DSt → Prop} : dMulG fin (.int i) (.int j) st Q = (CMul i j ∧ Q (.int (i * j)) st) := rfl
@[simp] theorem e_mulL {fin : DK → List D → DSt → Prop} {xs : List D} : dMulG fin (.lst xs) (.int i) st Q = ((-1000 ≤ i ∧ xs.length * i.toNat ≤ 1000 ∧ i ≤ 100000000) ∧ fin Q (List.replicate i.toNat xs).flatten st) := rfl
@[simp] theorem e_mulT {fin : DK → List D → DSt → Prop} {xs : List D} : dMulG fin (.tup xs) (.int i) st Q = (xs ≠ [] ∧ 1 ≤ i ∧ i ≤ 1000 ∧ xs.length ≤ 1000 ∧ Q (.tup (List.replicate i.toNat xs).flatten) st) := rfl
@[simp] theorem e_rev : dRev f r st Q = f r st fun x st1 => dRevV x st1 Q := rfl
@[simp] theorem e_revT {xs : List D} : dRevV (.tup xs) st Q = Q (.tup xs.reverse) st := rfl
@[simp] theorem e_ix : dIx x y st Q = onO (seqS st x) fun ds => onI y fun i => onO (atI ds i) fun d => Q d st := rfl
@[simp] theorem e_eqI : dEqG false (.int i) (.int j) st Q = Q (.bl (decide (i = j))) st := rfl
@[simp] theorem e_eqS {a b : Str} : dEqG false (.str a) (.str b) st Q = Q (.bl (decide (a = b))) st := rfl
@[simp] theorem e_eqB {a b : Bool} : dEqG false (.bl a) (.bl b) st Q = Q (.bl (decide (a = b))) st := rfl
@[simp] theorem e_neI : dEqG true (.int i) (.int j) st Q = Q (.bl (!decide (i = j))) st := rfl
@[simp] theorem e_neS {a b : Str} : dEqG true (.str a) (.str b) st Q = Q (.bl (!decide (a = b))) st := rfl
@[simp] theorem e_neB {a b : Bool} : dEqG true (.bl a) (.bl b) st Q = Q (.bl (!decide (a = b))) st := rfl
@[simp] theorem e_ltI : dLtG (.int i) (.int j) st Q = Q (.bl (decide (i < j))) st := rfl
@[simp] theorem e_in : dInG false x y st Q = onO (seqS st y) fun ds => (flatD x = true ∧ ds.all flatD = true) ∧ Q (.bl (ds.any fun y => eqF y x)) st := rfl
@[simp] theorem e_nin : dInG true x y st Q = onO (seqS st y) fun ds => (flatD x = true ∧ ds.all flatD = true) ∧ Q (.bl (!(ds.any fun y => eqF y x))) st := rfl
@[simp] theorem e_chain {a b : DR2} : dChain a b fa fb fc r st Q = fa r st fun x st1 => fb r st1 fun y st2 => a x y st2 fun z st3 => onB z fun k => if k = true then fc r st3 fun w st4 => b y w st4 Q else Q (.bl false) st3 := rfl
@[simp] theorem e_len : dLen [x] st Q = onO (seqS st x) fun xs => Q (.int xs.length) st := rfl
@[simp] theorem e_abs : dAbs [.int i] st Q = Q (.int (if i < 0 then -i else i)) st := rfl
@[simp] theorem e_2I {g : Int → Int → Int} : d2I g [.int i, .int j] st Q = Q (.int (g i j)) st := rfl
@[simp] theorem e_tuple1 {xs : List D} : dTuple [.tup xs] st Q = Q (.tup xs) st := rfl
@[simp] theorem e_tuple2 {xs : List D} : dTuple [.lst xs] st Q = Q (.tup xs) st := rfl
@[simp] theorem e_tuple3 {n : Nat} : dTuple [.ref n] st Q = onO (seqS st (.ref n)) fun xs => Q (.tup xs) st := rfl
@[simp] theorem e_listT : dListT [x] st Q = onO (seqS st x) fun xs => Q (.lst xs) st := rfl
@[simp] theorem e_listN : dListN [x] st Q = onO (seqS st x) fun xs => Q (.ref st.length) (st ++ [.lst xs]) := rfl
@[simp] theorem e_allR {g : List Bool → Bool} {xs : List D} : dAllR g [.lst xs] st Q = onO (boolsD xs) fun bs => Q (.bl (g bs)) st := rfl
@[simp] theorem e_seqT {xs : List D} : seqS st (.tup xs) = some xs := rfl
@[simp] theorem e_seqK {xs : List D} : seqS st (.tuk xs) = some xs := rfl
@[simp] theorem e_seqL {xs : List D} : seqS st (.lst xs) = some xs := rfl
theorem seq_ref {n : Nat} {xs : List D} (h : st[n]? = some (.lst xs)) : seqS st (.ref n) = some xs := by unfold seqS; simp only [h]
@[simp] theorem e_repr : dRepr [x] st Q = onO (pdS st x) fun p => (p.showable = true ∧ p.depth ≤ 50 ∧ p.shown.length ≤ sizeLine) ∧ Q (.str p.shown) st := rfl
@[simp] theorem e_isi {u : String} : dIsi u f r st Q = f r st fun x st1 => onO (tyN st1 x) fun t => Q (.bl (subTy t u)) st1 := rfl
@[simp] theorem e_isB {a b : Bool} : dIsB (.bl a) (.bl b) st Q = Q (.bl (decide (a = b))) st := rfl
@[simp] theorem e_notB {a b : Bool} : dNotB (.bl a) (.bl b) st Q = Q (.bl (!decide (a = b))) st := rfl
@[simp] theorem e_truth {Qb : Bool → DSt → Prop} : dTruth f r st Qb = f r st fun x st1 => onO (truD st1 x) fun c => Qb c st1 := rfl
@[simp] theorem e_next : sNext E r st = E.nx r st := rfl
@[simp] theorem e_seq : sSeq F G E r st = F { E with nx := G E } r st := rfl
@[simp] theorem e_drop : sDrop f E r st = f r st fun _ st1 => E.nx r st1 := rfl
@[simp] theorem e_ret : sRet f E r st = f r st E.rt := rfl
@[simp] theorem e_retN : sRetN E r st = E.rt .non st := rfl
@[simp] theorem e_ifS : sIf t F G E r st = t r st fun b st1 => if b = true then F E r st1 else G E r st1 := rfl
@[simp] theorem e_set : sSet i' f E r st = f r st fun d st1 => E.nx (r.set i' (some d)) st1 := rfl
@[simp] theorem e_asg {g : DTG} : sAsg f g E r st = f r st fun d st1 => g d r st1 E.nx := rfl
@[simp] theorem e_par : sPar i' j' fs E r st = fs r st fun ds st1 => on2 ds fun d e => E.nx ((r.set i' (some d)).set j' (some e)) st1 := rfl
@[simp] theorem e_nm {k : DEnv → DSt → Prop} : gNm i' x r st k = k (r.set i' (some x)) st := rfl
@[simp] theorem e_gsN {k : DEnv → DSt → Prop} : gsNil [] r st k = k r st := rfl
@[simp] theorem e_gsC {k : DEnv → DSt → Prop} {g : DTG} {h : DTGs} {ds : List D} : gsCons g h (x :: ds) r st k = g x r st fun r1 st1 => h ds r1 st1 k := rfl
@[simp] theorem e_gTpK {k : DEnv → DSt → Prop} {h : DTGs} {ds : List D} : gTp i' h (.tuk ds) r st k = (ds.length = i' ∧ h ds r st k) := rfl
@[simp] theorem e_gTpL {k : DEnv → DSt → Prop} {h : DTGs} {ds : List D} : gTp i' h (.lst ds) r st k = (ds.length = i' ∧ h ds r st k) := rfl
@[simp] theorem e_sum : dSum [x] st Q = onO (seqS st x) fun xs => onO (intsD xs) fun ns => Q (.int ns.sum) st := rfl
@[simp] theorem e_maxL : dMaxL [x] st Q = onO (seqS st x) fun xs => onO (intsD xs) fun ns => 0 < ns.length ∧ ∀ m, m ∈ ns → (∀ y, y ∈ ns → y ≤ m) → Q (.int m) st := rfl
@[simp] theorem e_minL : dMinL [x] st Q = onO (seqS st x) fun xs => onO (intsD xs) fun ns => 0 < ns.length ∧ ∀ m, m ∈ ns → (∀ y, y ∈ ns → m ≤ y) → Q (.int m) st := rfl
@[simp] theorem e_maxDef : dMaxDef fa fb r st Q = fa r st fun x st1 => fb r st1 fun d st2 => onO (seqS st2 x) fun xs => onO (intsD xs) fun ns => (ns = [] → Q d st2) ∧ ∀ m, m ∈ ns → (∀ y, y ∈ ns → y ≤ m) → Q (.int m) st2 := rfl
@[simp] theorem e_int : dInt [.int i] st Q = Q (.int i) st := rfl
@[simp] theorem e_intB {b : Bool} : dInt [.bl b] st Q = Q (.int (if b then 1 else 0)) st := rfl
@[simp] theorem e_aug {g : Int → Int → Int} : sAug i' g f E r st = onOO r[i']? fun x => f r st fun y st1 => onI x fun m => onI y fun n => E.nx (r.set i' (some (.int (g m n)))) st1 := rfl
@[simp] theorem e_on3 {k : D → D → D → Prop} {a b c : D} : on3 [a, b, c] k = k a b c := rfl
@[simp] theorem e_par3 {l' : Nat} : sPar3 i' j' l' fs E r st = fs r st fun ds st1 => on3 ds fun d e g => E.nx (((r.set i' (some d)).set j' (some e)).set l' (some g)) st1 := rfl
@[simp] theorem e_newK : dNewK r st Q = Q (.ref st.length) (st ++ [.dK []]) := rfl
@[simp] theorem e_getK : dGetK x y st Q = onDk st x fun n kvs => onO (keyD y) fun k => onO (valD kvs k) fun d => Q d st := rfl
@[simp] theorem e_keyI : keyD (.int i) = some (.inl i) := rfl
@[simp] theorem e_keyS {a : Str} : keyD (.str a) = some (.inr a) := rfl
@[simp] theorem e_inK : dInK false fa fb r st Q = fa r st fun y st1 => fb r st1 fun x st2 => onDk st2 x fun n kvs => onO (keyD y) fun k => Q (.bl (valD kvs k).isSome) st2 := rfl
@[simp] theorem e_ninK : dInK true fa fb r st Q = fa r st fun y st1 => fb r st1 fun x st2 => onDk st2 x fun n kvs => onO (keyD y) fun k => Q (.bl (!(valD kvs k).isSome)) st2 := rfl
@[simp] theorem e_putK : sPutK fa fb fc E r st = fc r st fun v st1 => fa r st1 fun x st2 => fb r st2 fun y st3 => onDk st3 x fun n kvs => onO (keyD y) fun k => kvs.length < sizeLine ∧ E.nx r (st3.set n (.dK (putD kvs k v))) := rfl
@[simp] theorem e_lenK : dLenK [x] st Q = onDk st x fun n kvs => Q (.int kvs.length) st := rfl
@[simp] theorem e_lstS {xs : List D} : lstS st (.lst xs) = some xs := rfl
@[simp] theorem e_seqX {xs : List D} : seqS st (.scr xs) = some xs := rfl
@[simp] theorem e_gTpT {k : DEnv → DSt → Prop} {h : DTGs} {ds : List D} : gTp i' h (.tup ds) r st k = (ds.length = i' ∧ h ds r st k) := rfl
@[simp] theorem e_oN {k : Option Int → DSt → Prop} : oNone r st k = k none st := rfl
@[simp] theorem e_oS {k : Option Int → DSt → Prop} : oSome f r st k = f r st fun d st1 => onI d fun i => k (some i) st1 := rfl
@[simp] theorem e_sl {fin : DK → List D → DSt → Prop} {lo hi : DTO} : dSlG fin f lo hi r st Q = f r st fun x st1 => lo r st1 fun l st2 => hi r st2 fun u st3 => dSlV fin x l u st3 Q := rfl
@[simp] theorem e_slT {fin : DK → List D → DSt → Prop} {lo hi : Option Int} {xs : List D} : dSlV fin (.tup xs) lo hi st Q = Q (.tup (cutD xs lo hi)) st := rfl
@[simp] theorem e_slL {fin : DK → List D → DSt → Prop} {lo hi : Option Int} {xs : List D} : dSlV fin (.lst xs) lo hi st Q = fin Q (cutD xs lo hi) st := rfl
@[simp] theorem e_finT {xs : List D} : finT Q xs st = Q (.lst xs) st := rfl
@[simp] theorem e_finN {xs : List D} : finN Q xs st = Q (.ref st.length) (st ++ [.lst xs]) := rfl
@[simp] theorem e_index : dIndex f fs r st Q = f r st fun x st1 => IdxD st1 x ∧ fs r st1 fun ds st2 => mIndex x ds st2 Q := rfl
@[simp] theorem e_idxT {xs : List D} : IdxD st (.tup xs) = True := rfl
@[simp] theorem e_idxL {xs : List D} : IdxD st (.lst xs) = True := rfl
@[simp] theorem e_mIx : mIndex x [.int i] st Q = onO (ixS st x) fun xs => onO (intsD xs) fun ns => onO (ixOf i ns) fun j => Q (.int (j : Nat)) st := rfl
@[simp] theorem e_ixST {xs : List D} : ixS st (.tup xs) = some xs := rfl
@[simp] theorem e_ixSL {xs : List D} : ixS st (.lst xs) = some xs := rfl
@[simp] theorem e_mtL {m : D → List D → DSt → DK → Prop} : dMtL m f fs r st Q = f r st fun x st1 => LstD st1 x ∧ fs r st1 fun ds st2 => m x ds st2 Q := rfl
@[simp] theorem e_w {k : DIt → DSt → Prop} : wSeq f r st k = f r st fun d st1 => onO (itOf st1 d) fun I => k I st1 := rfl
@[simp] theorem e_w1 {k : DIt → DSt → Prop} : wRng1 fs r st k = fs r st fun ds st1 => on1 ds fun x => onI x fun j => (-(2 ^ 62) ≤ j ∧ j < 2 ^ 62) ∧ k ⟨rgD 0 j.toNat, none⟩ st1 := rfl
@[simp] theorem e_w2 {k : DIt → DSt → Prop} : wRng2 fs r st k = fs r st fun ds st1 => on2 ds fun x y => onI x fun i => onI y fun j => (-(2 ^ 62) ≤ i ∧ i < 2 ^ 62 ∧ -(2 ^ 62) ≤ j ∧ j < 2 ^ 62) ∧ k ⟨rgD i (j - i).toNat, none⟩ st1 := rfl
@[simp] theorem e_wE {k : DIt → DSt → Prop} : wEnum fs r st k = fs r st fun ds st1 => on1 ds fun x => onO (itOf st1 x) fun I => k ⟨enumD I.items, I.src⟩ st1 := rfl
@[simp] theorem e_wZ {k : DIt → DSt → Prop} : wZip fs r st k = fs r st fun ds st1 => on2 ds fun x y => onO (itT x) fun I => onO (itT y) fun J => k ⟨zipD I.items J.items, none⟩ st1 := rfl
@[simp] theorem e_itK {xs : List D} : itOf st (.tuk xs) = some ⟨xs, none⟩ := rfl
@[simp] theorem e_itT {xs : List D} : itOf st (.tup xs) = some ⟨xs, none⟩ := rfl
@[simp] theorem e_itL {xs : List D} : itOf st (.lst xs) = some ⟨xs, none⟩ := rfl
@[simp] theorem e_itT2 {xs : List D} : itT (.tup xs) = some ⟨xs, none⟩ := rfl
@[simp] theorem e_itL2 {xs : List D} : itL st (.lst xs) = some ⟨xs, none⟩ := rfl
@[simp] theorem e_lc {w : DTI} {g : DTG} {vs : List Nat} {fin : DK → List D → DSt → Prop} : dLcG w g t f vs fin r st Q = w r st fun I st1 => I.items.length ≤ sizeLine ∧ compL I g t f (wipeD r vs) (fin Q) I.items [] st1 := rfl
@[simp] theorem e_for {w : DTI} {g : DTG} : sFor w g F E r st = w r st fun I st1 => forL I g F E st1 I.items r st1 := rfl
@[simp] theorem e_wipe0 : wipeD r [] = r := rfl
@[simp] theorem e_wipe {v : Nat} {vs : List Nat} : wipeD r (v :: vs) = (wipeD r vs).set v none := rfl
@[simp] theorem e_okI {xs : List D} {P : Prop} : okI ⟨xs, none⟩ st P = P := rfl
@[simp] theorem e_okR {xs ys : List D} {n : Nat} {P : Prop} : okI ⟨xs, some (n, .lst ys)⟩ st P = (st[n]? = some (.lst ys) ∧ P) := rfl
end
def Ev (f : DTE) (r : DEnv) (st : DSt) (d : D) : Prop := ∀ Q : DK, Q d st → f r st Q
def EvT (t : DTT) (r : DEnv) (st : DSt) (b : Bool) : Prop := ∀ Q : Bool → DSt → Prop, Q b st → t r st Q
theorem compL_map {g : DTG} {tt : DTT} {te : DTE} {r : DEnv} {Q : List D → DSt → Prop} {st : DSt} {xs : List D} (p : D → Bool) (h : D → D) :
    ∀ (items acc : List D), (∀ d ∈ items, ∀ Q' : DEnv → DSt → Prop, (∀ r2, EvT tt r2 st (p d) → (p d = true → Ev te r2 st (h d)) → Q' r2 st) → g d r st Q') → Q (acc ++ (items.filter p).map h) st → compL ⟨xs, none⟩ g tt te r Q items acc st
  | [], acc, _, q => by
    have q' : Q acc st := by simpa using q
    exact q'
  | d :: ds, acc, hh, q => by
    show g d r st _
    refine hh d List.mem_cons_self _ fun r2 e1 e2 => e1 _ ?_
    cases e : p d with
    | true =>
      refine iteT (e2 e _ (compL_map p h ds _ (fun d' hd => hh d' (List.mem_cons_of_mem _ hd)) ?_))
      rw [List.filter_cons_of_pos e, List.map_cons] at q
      simpa using q
    | false =>
      refine iteF (compL_map p h ds _ (fun d' hd => hh d' (List.mem_cons_of_mem _ hd)) ?_)
      rw [List.filter_cons_of_neg (by rw [e]; decide)] at q
      exact q
theorem lc_map {te : DTE} {r : DEnv} {Q : List D → DSt → Prop} {st : DSt} {xs items : List D} {i : Nat} (h : D → D) (he : ∀ d ∈ items, Ev te (r.set i (some d)) st (h d)) (q : Q (items.map h) st) : compL ⟨xs, none⟩ (gNm i) dtYes te r Q items [] st := by
  refine compL_map (fun _ => true) h items [] (fun d hd Q' k => k _ (fun Q q => q) fun _ => he d hd) ?_
  rw [List.filter_eq_self.mpr (fun _ _ => rfl)]
  simpa using q
theorem rgD_mem {lo : Int} {n : Nat} {d : D} (h : d ∈ rgD lo n) : ∃ i : Nat, i < n ∧ d = .int (lo + (i : Nat)) := by
  obtain ⟨i, hi⟩ := List.mem_iff_getElem?.mp h
  obtain ⟨lt, e⟩ := rgD_get hi
  exact ⟨i, lt, e⟩
theorem rgD0 (n : Nat) : rgD 0 n = (List.range n).map fun i => D.int (i : Nat) := by
  unfold rgD
  exact List.map_congr_left fun i _ => by rw [Int.zero_add]
theorem lc_rng {te : DTE} {r : DEnv} {Q : List D → DSt → Prop} {st : DSt} {xs : List D} {n i : Nat} (h : Nat → D) (he : ∀ k : Nat, k < n → Ev te (r.set i (some (.int (k : Nat)))) st (h k)) (q : Q ((List.range n).map h) st) : compL ⟨xs, none⟩ (gNm i) dtYes te r Q (rgD 0 n) [] st := by
  refine lc_map (fun d => match d with | .int i => h i.toNat | _ => .non) (fun d hd => ?_) ?_
  · obtain ⟨k, lt, rfl⟩ := rgD_mem hd
    rw [Int.zero_add]
    exact he k lt
  · rw [rgD0, List.map_map]
    exact q
theorem Wk.id {b : DSt} {P : DEnv → DSt → Prop} {r : DEnv} {st : DSt} (h : P r st) : Wk b P r st := .inl h
theorem for_inv {I : DIt} {g : DTG} {F : DTS} {E : DEnds} {b : DSt} (W : List D → DEnv → DSt → Prop)
    (turn : ∀ d ds r st (N : DEnv → DSt → Prop), (∀ r st, Wk b (W ds) r st → N r st) → W (d :: ds) r st → okI I st (g d r st fun r1 st1 => F { nx := N, rt := E.rt, bk := E.nx, ct := N } r1 st1)) (done : ∀ r st, W [] r st → okI I st (E.nx r st)) :
    ∀ (items : List D) (r : DEnv) (st : DSt), W items r st → forL I g F E b items r st
  | [], r, st, h => done r st h
  | d :: ds, r, st, h => by
    refine turn d ds r st _ (fun r st w => ?_) h
    rcases w with w | ⟨r', n, h1, h2, h3, h4, h5, w⟩
    · exact .inl (for_inv W turn done ds r st w)
    · exact .inr ⟨r', n, h1, h2, h3, h4, h5, for_inv W turn done ds r' _ w⟩
theorem while_inv {t : DTT} {F : DTS} {E : DEnds} {b : DSt} (W : Nat → DEnv → DSt → Prop)
    (turn : ∀ m r st (N : DEnv → DSt → Prop), (∀ k r st, k < m → Wk b (W k) r st → N r st) → W m r st → t r st fun c st1 => if c = true then F { nx := N, rt := E.rt, bk := E.nx, ct := N } r st1 else E.nx r st1) :
    ∀ (n m : Nat) (r : DEnv) (st : DSt), m < n → W m r st → whileL t F E b n r st
  | 0, m, r, st, lt, _ => absurd lt (Nat.not_lt_zero m)
  | n + 1, m, r, st, lt, h => by
    refine turn m r st _ (fun k r st lk w => ?_) h
    rcases w with w | ⟨r', j, h1, h2, h3, h4, h5, w⟩
    · exact .inl (while_inv W turn n k r st (by omega) w)
    · exact .inr ⟨r', j, h1, h2, h3, h4, h5, while_inv W turn n k r' _ (by omega) w⟩
theorem s_while {t : DTT} {F : DTS} {E : DEnds} {r : DEnv} {st : DSt} (W : Nat → DEnv → DSt → Prop) (m : Nat) (h : W m r st)
    (turn : ∀ m r st' (N : DEnv → DSt → Prop), (∀ k r st', k < m → Wk st (W k) r st' → N r st') → W m r st' → t r st' fun c st1 => if c = true then F { nx := N, rt := E.rt, bk := E.nx, ct := N } r st1 else E.nx r st1) : sWhile t F E r st :=
  ⟨m + 1, while_inv W turn (m + 1) m r st (Nat.lt_succ_self m) h⟩
end DL
namespace DL
open PySem PySem.Spec PyProof.Rows L2 LamX PySem.W SL
def F_is_integer_within : DTS := (sRet (dAndV (dIsi "int" (dVar 0)) (dAndV (dNotV (dIsi "bool" (dVar 0))) (dChain dLe dLe (dVar 1) (dVar 0) (dVar 2)))))
def F_linear : DTS := (sRet (dCB dTuple (daCons (dLcG (wRng1 (daCons (dVar 0) daNil)) (gNm 2) dtYes (dOp dMod (dOp dAdd (dVar 1) (dVar 2)) (dVar 0)) [2] finT) daNil)))
def F_triangular (g_is_power_of_two : DRs) : DTS := (sSeq (sIf (dtNot (dTest (dCB g_is_power_of_two (daCons (dVar 0) daNil)))) sNever sNext) (sRet (dCB dTuple (daCons (dLcG (wRng1 (daCons (dVar 0) daNil)) (gNm 2) dtYes (dOp dMod (dOp dAdd (dVar 1) (dOp dDiv (dOp dMul (dVar 2) (dOp dAdd (dVar 2) (dC (.int 1)))) (dC (.int 2)))) (dVar 0)) [2] finT) daNil))))
def F_is_power_of_two : DTS := (sRet (dAndV (dOp dGt (dVar 0) (dC (.int 0))) (dOp dEq (dOp dAnd2 (dVar 0) (dOp dSub (dVar 0) (dC (.int 1)))) (dC (.int 0)))))
end DL
namespace DL
open PySem PySem.Spec PyProof.Rows L2 LamX PySem.W SL
@[simp] theorem at0 {α : Type} {a : α} {xs : List α} : atI (a :: xs) 0 = some a := by unfold atI ixN; simp
@[simp] theorem at1 {α : Type} {a b : α} {xs : List α} : atI (a :: b :: xs) 1 = some b := atI_nat (j := 1) rfl
@[simp] theorem at2 {α : Type} {a b c : α} {xs : List α} : atI (a :: b :: c :: xs) 2 = some c := atI_nat (j := 2) rfl
def setS (o i d : D) (st : DSt) (P : DSt → Prop) : Prop := match o with
  | .ref n => onI i fun k => match st[n]? with
    | some (.lst xs) => onO (ixN xs.length k) fun j => P (st.set n (.lst (xs.set j d)))
    | _ => False
  | _ => False
@[simp] theorem e_gSb {fo fi : DTE} {x : D} {r : DEnv} {st : DSt} {k : DEnv → DSt → Prop} : gSb fo fi x r st k = fo r st fun o st1 => fi r st1 fun i st2 => setS o i x st2 (k r) := rfl
theorem setS_ref {n : Nat} {k : Int} {d : D} {st : DSt} {P : DSt → Prop} {xs : List D} (h : st[n]? = some (.lst xs)) : setS (.ref n) (.int k) d st P = onO (ixN xs.length k) fun j => P (st.set n (.lst (xs.set j d))) := by
  unfold setS
  simp only [e_onI, h]
def PotO (n : Nat) (o : O) : Prop := ∃ g m c : Int, o = .lst [.int g, .int m, .int c] ∧ 0 ≤ g ∧ g < 10 ^ 400 ∧ 0 ≤ m ∧ m < 2 ^ 61 ∧ 0 ≤ c ∧ c + n ≤ 1000000
theorem PotO.less {n m : Nat} {o : O} (h : PotO n o) (l : m ≤ n) : PotO m o := by
  obtain ⟨g, a, c, h1, h2, h3, h4, h5, h6, h7⟩ := h
  exact ⟨g, a, c, h1, h2, h3, h4, h5, h6, by omega⟩
def Pot (n : Nat) (p : Nat) (st : DSt) : Prop := ∃ o, st[p]? = some o ∧ PotO n o
theorem Pot.less {n m p : Nat} {st : DSt} (h : Pot n p st) (l : m ≤ n) : Pot m p st := by
  obtain ⟨o, e, h⟩ := h
  exact ⟨o, e, h.less l⟩
theorem Pot.lt {n p : Nat} {st : DSt} (h : Pot n p st) : p < st.length := by
  obtain ⟨o, e, h⟩ := h
  exact (List.getElem?_eq_some_iff.mp e).1
theorem Pot.set {n p : Nat} {st : DSt} {o : O} (lt : p < st.length) (h : PotO n o) : Pot n p (st.set p o) := ⟨o, List.getElem?_set_self lt, h⟩
theorem Pot.app {n p : Nat} {st : DSt} {os : List O} (h : Pot n p st) : Pot n p (st ++ os) := by
  obtain ⟨o, e, h⟩ := h
  exact ⟨o, by rw [List.getElem?_append_left (List.getElem?_eq_some_iff.mp e).1]; exact e, h⟩
def g_take : DRs := fun ds st Q => ∃ (p : Nat) (z : Int) (n : Nat), ds = [.ref p, .int z] ∧ Pot (n + 1) p st ∧ 0 < z ∧ z ≤ 1000 ∧ ∀ (r : Int) (o : O), 0 ≤ r → r < z → PotO n o → Q (.int r) (st.set p o)
theorem ar_take (ds : List D) (st : DSt) (Q : DK) (h : g_take ds st Q) : ds.length = 2 := by
  obtain ⟨p, z, n, rfl, _⟩ := h
  rfl
def g_pot : DRs := fun ds st Q => ∃ (ns : List Int) (x : D) (k : Nat), ds = [x, .int k] ∧ Scr ns x ∧ k ≤ 3 ∧ ∀ o, PotO 1000000 o → Q (.ref st.length) (st ++ [o])
theorem ar_pot (ds : List D) (st : DSt) (Q : DK) (h : g_pot ds st Q) : ds.length = 2 := by
  obtain ⟨ns, x, k, rfl, _⟩ := h
  rfl
theorem PotO.lst {n : Nat} {o : O} (h : PotO n o) : ∃ xs, o = .lst xs := by
  obtain ⟨g, m, c, e, _⟩ := h
  exact ⟨_, e⟩
def lineI (n : Nat) (b : Int) : List Int := (List.range n).map fun i : Nat => (b + (i : Int)) % (n : Int)
def g_line : DRs := fun ds st Q => ∃ (n : Nat) (b : Int), ds = [.int n, .int b] ∧ 0 < n ∧ n ≤ 1000 ∧ Q (.tup ((lineI n b).map D.int)) st
theorem ar_line (ds : List D) (st : DSt) (Q : DK) (h : g_line ds st Q) : ds.length = 2 := by
  obtain ⟨n, b, rfl, _⟩ := h
  rfl
theorem take_same {st st1 : DSt} {junk : List O} (l : st1.length = st.length) : (st1 ++ junk).take st.length = st1 := by
  rw [← l]
  simp
theorem cloS_app {st st1 : DSt} {junk : List O} (l : st1.length = st.length) (cs : ∀ (i : Nat) (o : O), st1[i]? = some o → st[i]? = some o ∨ cloO st.length o = true) : cloS st st.length (st1 ++ junk) := fun i o lt e => by
  rw [List.getElem?_append_left (by omega)] at e
  exact cs i o e
theorem rt_drop {st st1 : DSt} {junk : List O} {d : D} {Q : DK} (l : st1.length = st.length) (c : clo st.length d = true) (cs : ∀ (i : Nat) (o : O), st1[i]? = some o → st[i]? = some o ∨ cloO st.length o = true) (q : Q d st1) : Rt st Q d (st1 ++ junk) :=
  .inr (.inl ⟨st.length, Nat.le_refl _, by rw [List.length_append]; omega, c, cloS_app l cs, by rw [take_same l]; exact q⟩)
theorem PotO.clo {n m : Nat} {o : O} (h : PotO n o) : cloO m o = true := by
  obtain ⟨g, a, c, rfl, _⟩ := h
  simp [cloO, clos, DL.clo]
theorem cs_set {st : DSt} {p n m : Nat} {o : O} (h : PotO n o) : ∀ (i : Nat) (u : O), (st.set p o)[i]? = some u → st[i]? = some u ∨ cloO m u = true := fun i u e => by
  by_cases z : i = p
  · subst z
    have lt : i < st.length := by
      have := (List.getElem?_eq_some_iff.mp e).1
      rw [List.length_set] at this
      exact this
    rw [List.getElem?_set_self lt] at e
    cases e
    exact .inr h.clo
  · rw [List.getElem?_set_ne (fun w => z w.symm)] at e
    exact .inl e
mutual
theorem pdT_clo {n : Nat} : ∀ {d : D} {p : PyData}, pdT d = some p → clo n d = true
  | .non, _, e => by simp [clo]
  | .bl b, _, e => by simp [clo]
  | .int b, _, e => by simp [clo]
  | .str b, _, e => by simp [clo]
  | .tup ds, _, e => by
    simp only [pdT, Option.map_eq_some_iff] at e
    obtain ⟨ps, e, rfl⟩ := e
    simp only [clo]
    exact pdTs_clo e
  | .tuk ds, _, e => by
    simp only [pdT, Option.map_eq_some_iff] at e
    obtain ⟨ps, e, rfl⟩ := e
    simp only [clo]
    exact pdTs_clo e
  | .lst ds, _, e => by
    simp only [pdT, Option.map_eq_some_iff] at e
    obtain ⟨ps, e, rfl⟩ := e
    simp only [clo]
    exact pdTs_clo e
  | .scr ds, _, e => by
    simp only [pdT, Option.map_eq_some_iff] at e
    obtain ⟨ps, e, rfl⟩ := e
    simp only [clo]
    exact pdTs_clo e
  | .ref n, _, e => by simp [pdT] at e
theorem pdTs_clo {n : Nat} : ∀ {d : List D} {p : List PyData}, pdTs d = some p → clos n d = true
  | [], _, e => by simp [clos]
  | d :: ds, _, e => by
    unfold pdTs at e
    cases q : pdT d with
    | none => rw [q] at e; cases e
    | some y =>
      rw [q] at e
      simp only [Option.map_eq_some_iff] at e
      obtain ⟨ps, e, rfl⟩ := e
      simp only [clos, pdT_clo q, pdTs_clo e, Bool.and_self]
end
theorem Sm.clo {k c n : Nat} {d : D} (h : Sm k c d) : DL.clo n d = true := by
  obtain ⟨p, e, _⟩ := h
  exact pdT_clo e
theorem ne_nil {st : DSt} {n k c : Nat} {xs : List D} {Q : DK} (e : st[n]? = some (.lst xs)) (sm : ∀ d ∈ xs, Sm k c d) (hk : k ≤ 40) (q : Q (.bl (!xs.isEmpty)) st) : dEqG true (.ref n) (.lst []) st Q := by
  obtain ⟨ps, e1, el, l⟩ := sm_all sm
  have p1 : pdS st (.ref n) = some (.list ps) := by unfold pdS; simp only [e, e1]; rfl
  have p2 : pdS st (.lst []) = some (.list []) := by simp [pdS, pdT, pdTs]
  show dEqD true (.ref n) (.lst []) st Q
  unfold dEqD
  rw [p1, p2]
  refine ⟨⟨Sm.shaped (el_list (m := ps.length) el (Nat.le_refl _)) (by omega), by decide +kernel⟩, ?_⟩
  have ee : PyData.eqv (.list ps) (.list []) = ps.isEmpty := by cases ps <;> simp [PyData.eqv, PyData.eqvAll]
  have e3 : ps.isEmpty = xs.isEmpty := by
    cases ps <;> cases xs <;> simp at l ⊢
  show Q (.bl (!PyData.eqv (.list ps) (.list []))) st
  rw [ee, e3]
  exact q
theorem take_outD {α : Type} : ∀ (l : List α) (i : Nat) (h : i < l.length), (l[i] :: l.eraseIdx i).Perm l
  | a :: l, 0, _ => List.Perm.refl _
  | a :: l, i + 1, h => by
    have z := take_outD l i (by simpa using h)
    exact (List.Perm.swap _ _ _).trans (List.Perm.cons a z)
theorem pop_ref {st : DSt} {n : Nat} {xs : List D} {i : Int} {Q : DK} (e : st[n]? = some (.lst xs)) (i0 : 0 ≤ i) (lt : i.toNat < xs.length) (few : xs.length ≤ 1000) (q : Q xs[i.toNat] (st.set n (.lst (xs.eraseIdx i.toNat)))) : mPopAt (.ref n) [.int i] st Q := by
  unfold mPopAt
  simp only [e_on1, e_onI, onL, e]
  refine ⟨⟨by omega, by omega⟩, ?_⟩
  have z : seqIndex? i xs.length = some i.toNat := seqIndex_of i0 (by omega)
  rw [z]
  show onO xs[i.toNat]? _
  rw [List.getElem?_eq_getElem lt]
  exact q
theorem append_ref {st : DSt} {n : Nat} {xs : List D} {y : D} {Q : DK} (e : st[n]? = some (.lst xs)) (lt : xs.length < sizeLine) (q : Q .non (st.set n (.lst (xs ++ [y])))) : mAppend (.ref n) [y] st Q := by
  unfold mAppend
  simp only [e_on1, onL, e]
  exact ⟨lt, q⟩
end DL
namespace DL
open PySem PySem.Spec PyProof.Rows L2 LamX PySem.W SL
def inR (lo hi : Int) : D → Bool
  | .int i => decide (lo ≤ i) && decide (i ≤ hi)
  | _ => false
def g_within : DRs := fun ds st Q => ∃ (d : D) (lo hi : Int), ds = [d, .int lo, .int hi] ∧ (∃ t, tyN st d = some t) ∧ Q (.bl (inR lo hi d)) st
theorem ar_within (ds : List D) (st : DSt) (Q : DK) (h : g_within ds st Q) : ds.length = 3 := by
  obtain ⟨d, lo, hi, rfl, _⟩ := h
  rfl
theorem sem_within (ds : List D) (st : DSt) (Q : DK) (h : g_within ds st Q) : F_is_integer_within { nx := fun _ st' => Rt st Q .non st', rt := Rt st Q } (startD 3 ds) st := by
  obtain ⟨d, lo, hi, rfl, ⟨t, ty⟩, q⟩ := h
  have st3 : startD 3 [d, D.int lo, D.int hi] = [some d, some (.int lo), some (.int hi)] := rfl
  cases d with
  | int i =>
    simp [F_is_integer_within, st3, tyN, subTy]
    unfold inR at q
    by_cases h1 : lo ≤ i
    · simp [h1] at q ⊢; exact .inl q
    · simp [h1] at q ⊢; exact .inl q
  | ref n =>
    have ne : t = "list" ∨ t = "dict" := by
      unfold tyN at ty
      simp only at ty
      split at ty <;> cases ty <;> simp
    simp [F_is_integer_within, st3, ty]
    rcases ne with rfl | rfl
    · exact .inl q
    · exact .inl q
  | bl b => simp [F_is_integer_within, st3, tyN, subTy]; exact .inl q
  | non => simp [F_is_integer_within, st3, tyN, subTy]; exact .inl q
  | str x => simp [F_is_integer_within, st3, tyN, subTy]; exact .inl q
  | tup xs => simp [F_is_integer_within, st3, tyN, subTy]; exact .inl q
  | tuk xs => simp [F_is_integer_within, st3, tyN, subTy]; exact .inl q
  | lst xs => simp [F_is_integer_within, st3, tyN, subTy]; exact .inl q
  | scr xs => simp [F_is_integer_within, st3, tyN, subTy]; exact .inl q
theorem all_map_id {α : Type} (p : α → Bool) (xs : List α) : (xs.map p).all id = xs.all p := by rw [List.all_map]; rfl
theorem all_end {α : Type} {xs : List α} {p : α → Bool} {Q : DK} {st : DSt} (q : Q (.bl (xs.all p)) st) : finT (fun d st1 => dAllR (fun bs => bs.all id) [d] st1 Q) (xs.map fun x => D.bl (p x)) st := by
  simp only [e_finT, e_allR, boolsD_map, e_onO]
  rw [all_map_id]
  exact q
theorem tuple_end {Q : DK} {xs : List D} {st : DSt} (q : Q (.tup xs) st) : finT (fun d st1 => dTuple [d] st1 Q) xs st := q
def rowD (ns : List Int) : D := .tup (ns.map D.int)
def rowsD (nss : List (List Int)) : D := .tup (nss.map rowD)
@[simp] theorem flat_int (i : Int) : flatD (.int i) = true := rfl
theorem iteT' {c : Bool} {A B : Prop} (h : c = true) (a : A) : if c = true then A else B := by rw [if_pos h]; exact a
theorem iteF' {c : Bool} {A B : Prop} (h : c = false) (b : B) : if c = true then A else B := by rw [h]; exact iteF b
theorem at_map {α β : Type} {f : α → β} {xs : List α} {i : Nat} {x : α} (h : xs[i]? = some x) : atI (xs.map f) (i : Int) = some (f x) := atI_nat (by rw [List.getElem?_map, h]; rfl)
def dec (nss : List (List Int)) (a b : Nat) : Bool := if a = b then !decide ((a : Int) ∈ nss.getD a []) else (decide ((b : Int) ∈ nss.getD a []) != decide ((a : Int) ∈ nss.getD b []))
theorem getD_at {nss : List (List Int)} {a : Nat} (h : a < nss.length) : nss[a]? = some (nss.getD a []) := by
  rw [List.getD_eq_getElem?_getD, List.getElem?_eq_getElem h]
  rfl
theorem rows_at {nss : List (List Int)} {a : Nat} (h : a < nss.length) : atI (nss.map rowD) (a : Int) = some (rowD (nss.getD a [])) := at_map (getD_at h)
theorem compL_gen {g : DTG} {te : DTE} {r : DEnv} {Q : List D → DSt → Prop} {st : DSt} {xs : List D} {α : Type} (f : α → D) (h : α → D) :
    ∀ (items : List α) (acc : List D), (∀ a ∈ items, ∀ Q' : DEnv → DSt → Prop, (∀ r2, Ev te r2 st (h a) → Q' r2 st) → g (f a) r st Q') → Q (acc ++ items.map h) st → compL ⟨xs, none⟩ g dtYes te r Q (items.map f) acc st
  | [], acc, _, q => by
    have q' : Q acc st := by simpa using q
    exact q'
  | a :: as, acc, hh, q => by
    show g (f a) r st _
    refine hh a List.mem_cons_self _ fun r2 e2 => ?_
    show te r2 st _
    refine e2 _ (compL_gen f h as _ (fun b hb => hh b (List.mem_cons_of_mem _ hb)) ?_)
    simpa using q
@[simp] theorem e_lc2 {f f1 : DTI} {g g1 : DTG} {tt tt1 : DTT} {te : DTE} {vs vs1 : List Nat} {fin : DK → List D → DSt → Prop} {r : DEnv} {st : DSt} {Q : DK} : dLc2G f g tt f1 g1 tt1 te vs vs1 fin r st Q = f r st fun I st1 => comp2 I g tt f1 g1 tt1 te (wipeD r vs) vs1 (fin Q) I.items [] st1 := rfl
structure Tb (n : Nat) (nss : List (List Int)) : Prop where
  len : nss.length = n
  asc : ∀ a : Nat, a < n → (nss.getD a []).Pairwise (· < ·)
  inr : ∀ a : Nat, a < n → ∀ x ∈ nss.getD a [], 0 ≤ x ∧ x < (n : Int)
  one : ∀ a b : Nat, a < n → b < n → dec nss a b = true
theorem Tb.row {n : Nat} {nss : List (List Int)} (t : Tb n nss) {ns : List Int} (h : ns ∈ nss) : ns.Pairwise (· < ·) ∧ ∀ x ∈ ns, 0 ≤ x ∧ x < (n : Int) := by
  obtain ⟨a, ha⟩ := List.mem_iff_getElem?.mp h
  have lt : a < n := by rw [← t.len]; exact (List.getElem?_eq_some_iff.mp ha).1
  have e : nss.getD a [] = ns := by rw [List.getD_eq_getElem?_getD, ha]; rfl
  rw [← e]
  exact ⟨t.asc a lt, t.inr a lt⟩
theorem asc_len {n : Nat} : ∀ {ns : List Int} {lo : Int}, ns.Pairwise (· < ·) → (∀ x ∈ ns, lo ≤ x ∧ x < (n : Int)) → (ns.length : Int) ≤ (n : Int) - lo ∨ ns = []
  | [], lo, _, _ => .inr rfl
  | a :: r, lo, h, hx => by
    have h1 := List.pairwise_cons.mp h
    have ha := hx a List.mem_cons_self
    rcases asc_len (lo := a + 1) h1.2 (fun x m => ⟨by have := h1.1 x m; omega, (hx x (List.mem_cons_of_mem _ m)).2⟩) with z | z
    · left; rw [List.length_cons]; omega
    · left; rw [z]; simp; omega
theorem Tb.few {n : Nat} {nss : List (List Int)} (t : Tb n nss) {ns : List Int} (h : ns ∈ nss) : ns.length ≤ n := by
  obtain ⟨a, b⟩ := t.row h
  rcases asc_len (lo := 0) a b with z | z
  · omega
  · rw [z]; simp
end DL
namespace DL
open PySem PySem.Spec PyProof.Rows L2 LamX PySem.W SL
def sortI (ns : List Int) : List Int := ns.mergeSort fun a b => decide (a ≤ b)
theorem sortI_perm (ns : List Int) : (sortI ns).Perm ns := List.mergeSort_perm _ _
theorem sortI_sorted (ns : List Int) : (sortI ns).Pairwise (· ≤ ·) := by
  have h := List.pairwise_mergeSort (le := fun a b : Int => decide (a ≤ b)) (fun a b c h1 h2 => by simp at h1 h2 ⊢; omega) (fun a b => by simp; omega) ns
  exact h.imp fun h => by simpa using h
theorem asc_one : ∀ {xs ys : List Int}, xs.Pairwise (· < ·) → ys.Pairwise (· < ·) → (∀ a, a ∈ xs ↔ a ∈ ys) → xs = ys
  | [], [], _, _, _ => rfl
  | [], y :: ys, _, _, h => by have := (h y).mpr List.mem_cons_self; cases this
  | x :: xs, [], _, _, h => by have := (h x).mp List.mem_cons_self; cases this
  | x :: xs, y :: ys, h1, h2, h => by
    have h1' := List.pairwise_cons.mp h1
    have h2' := List.pairwise_cons.mp h2
    have e : x = y := by
      rcases List.mem_cons.mp ((h x).mp List.mem_cons_self) with z | z
      · exact z
      · rcases List.mem_cons.mp ((h y).mpr List.mem_cons_self) with w | w
        · exact w.symm
        · have := h2'.1 x z
          have := h1'.1 y w
          omega
    subst e
    rw [asc_one h1'.2 h2'.2 fun a => ?_]
    constructor
    · intro ha
      rcases List.mem_cons.mp ((h a).mp (List.mem_cons_of_mem _ ha)) with z | z
      · have := h1'.1 a ha; omega
      · exact z
    · intro ha
      rcases List.mem_cons.mp ((h a).mpr (List.mem_cons_of_mem _ ha)) with z | z
      · have := h2'.1 a ha; omega
      · exact z
def R (n : Nat) : List Int := (List.range n).map fun i : Nat => (i : Int)
theorem R_mem {n : Nat} {x : Int} : x ∈ R n ↔ 0 ≤ x ∧ x < n := by
  unfold R
  rw [List.mem_map]
  constructor
  · rintro ⟨i, hi, rfl⟩
    have := List.mem_range.mp hi
    omega
  · rintro ⟨h0, h1⟩
    exact ⟨x.toNat, List.mem_range.mpr (by omega), by omega⟩
theorem R_nodup (n : Nat) : (R n).Nodup := by
  unfold R
  refine List.Pairwise.map _ (fun a b h => ?_) List.nodup_range
  omega
theorem R_length (n : Nat) : (R n).length = n := by unfold R; rw [List.length_map, List.length_range]
def pos (ns : List Int) (x : Int) : Nat := (ixOf x ns).getD 0
theorem pos_at {ns : List Int} {x : Int} (h : x ∈ ns) : ns[pos ns x]? = some x ∧ ixOf x ns = some (pos ns x) := by
  obtain ⟨j, e⟩ := ixOf_mem h
  unfold pos
  rw [e]
  exact ⟨(ixOf_spec e).1, rfl⟩
theorem nd_at {α : Type} {ns : List α} (nd : ns.Nodup) {i j : Nat} {x : α} (h1 : ns[i]? = some x) (h2 : ns[j]? = some x) : i = j := by
  obtain ⟨l1, q1⟩ := List.getElem?_eq_some_iff.mp h1
  obtain ⟨l2, q2⟩ := List.getElem?_eq_some_iff.mp h2
  exact (List.getElem_inj nd).mp (q1.trans q2.symm)
theorem mem_behind {ns : List Int} (nd : ns.Nodup) {x : Int} {i : Nat} : x ∈ ns.drop (i + 1) ↔ x ∈ ns ∧ i < pos ns x := by
  constructor
  · intro h
    have hx := List.mem_of_mem_drop h
    obtain ⟨j, hj⟩ := List.mem_iff_getElem?.mp h
    rw [List.getElem?_drop] at hj
    have := nd_at nd (pos_at hx).1 hj
    exact ⟨hx, by omega⟩
  · rintro ⟨hx, lt⟩
    refine List.mem_iff_getElem?.mpr ⟨pos ns x - (i + 1), ?_⟩
    rw [List.getElem?_drop, show i + 1 + (pos ns x - (i + 1)) = pos ns x by omega]
    exact (pos_at hx).1
theorem pos_inj {ns : List Int} {x y : Int} (hx : x ∈ ns) (hy : y ∈ ns) (e : pos ns x = pos ns y) : x = y := by
  have h1 := (pos_at hx).1
  rw [e, (pos_at hy).1] at h1
  exact (Option.some.inj h1).symm
def ordT (ns : List Int) : List (List Int) := (List.range ns.length).map fun k : Nat => sortI (ns.drop (pos ns (k : Int) + 1))
theorem ordT_length (ns : List Int) : (ordT ns).length = ns.length := by unfold ordT; rw [List.length_map, List.length_range]
theorem ordT_at {ns : List Int} {a : Nat} (h : a < ns.length) : (ordT ns).getD a [] = sortI (ns.drop (pos ns (a : Int) + 1)) := by
  unfold ordT
  rw [List.getD_eq_getElem?_getD, List.getElem?_map, List.getElem?_eq_getElem (by rw [List.length_range]; exact h), List.getElem_range]
  rfl
structure Ord (n : Nat) (ns : List Int) : Prop where
  perm : ns.Perm (R n)
theorem Ord.len {n : Nat} {ns : List Int} (o : Ord n ns) : ns.length = n := by rw [o.perm.length_eq, R_length]
theorem Ord.nd {n : Nat} {ns : List Int} (o : Ord n ns) : ns.Nodup := o.perm.nodup_iff.mpr (R_nodup n)
theorem Ord.mem {n : Nat} {ns : List Int} (o : Ord n ns) {x : Int} : x ∈ ns ↔ 0 ≤ x ∧ x < n := by rw [o.perm.mem_iff, R_mem]
theorem Ord.beats {n : Nat} {ns : List Int} (o : Ord n ns) {a : Nat} (h : a < n) {x : Int} : x ∈ (ordT ns).getD a [] ↔ (0 ≤ x ∧ x < n) ∧ pos ns a < pos ns x := by
  rw [ordT_at (by rw [o.len]; exact h), (sortI_perm _).mem_iff, mem_behind o.nd, o.mem]
theorem sort_asc {ns : List Int} (nd : ns.Nodup) : (sortI ns).Pairwise (· < ·) := by
  have h1 := sortI_sorted ns
  have h2 : (sortI ns).Nodup := (sortI_perm ns).nodup_iff.mpr nd
  have h3 := h1.and h2
  exact h3.imp fun h => by have := h.1; have := h.2; omega
theorem Ord.tb {n : Nat} {ns : List Int} (o : Ord n ns) : Tb n (ordT ns) := by
  refine ⟨by rw [ordT_length, o.len], fun a ha => ?_, fun a ha x hx => ?_, fun a b ha hb => ?_⟩
  · rw [ordT_at (by rw [o.len]; exact ha)]
    exact sort_asc (List.Nodup.sublist (List.drop_sublist _ _) o.nd)
  · exact ((o.beats ha).mp hx).1
  · unfold dec
    by_cases e : a = b
    · rw [if_pos e]
      have z : ¬ (a : Int) ∈ (ordT ns).getD a [] := fun h => by
        have := ((o.beats ha).mp h).2
        omega
      rw [decide_eq_false z]
      rfl
    · rw [if_neg e]
      have ma : (a : Int) ∈ ns := o.mem.mpr (by omega)
      have mb : (b : Int) ∈ ns := o.mem.mpr (by omega)
      have ne : pos ns a ≠ pos ns b := fun z => by
        have := pos_inj ma mb z
        omega
      rcases Nat.lt_or_gt_of_ne ne with z | z
      · have h1 : (b : Int) ∈ (ordT ns).getD a [] := (o.beats ha).mpr ⟨by omega, z⟩
        have h2 : ¬ (a : Int) ∈ (ordT ns).getD b [] := fun h => by have := ((o.beats hb).mp h).2; omega
        rw [decide_eq_true h1, decide_eq_false h2]
        rfl
      · have h1 : ¬ (b : Int) ∈ (ordT ns).getD a [] := fun h => by have := ((o.beats ha).mp h).2; omega
        have h2 : (a : Int) ∈ (ordT ns).getD b [] := (o.beats hb).mpr ⟨by omega, z⟩
        rw [decide_eq_false h1, decide_eq_true h2]
        rfl
end DL
namespace DL
open PySem PySem.Spec PyProof.Rows L2 LamX PySem.W SL
def Ring (t : List (List Int)) (a b c : Int) : Prop := 0 ≤ a ∧ a < t.length ∧ b ∈ t.getD a.toNat [] ∧ c ∈ t.getD b.toNat [] ∧ a ∈ t.getD c.toNat []
def noRing (t : List (List Int)) : Bool := (List.range t.length).all fun a => (t.getD a []).all fun b => (t.getD b.toNat []).all fun c => !decide ((a : Int) ∈ t.getD c.toNat [])
theorem noRing_iff {t : List (List Int)} : noRing t = true ↔ ∀ a b c, ¬ Ring t a b c := by
  unfold noRing
  simp only [List.all_eq_true, List.mem_range, Bool.not_eq_true', decide_eq_false_iff_not]
  constructor
  · rintro h a b c ⟨a0, a1, hb, hc, ha⟩
    refine h a.toNat (by omega) b hb c hc ?_
    rw [Int.toNat_of_nonneg a0]
    exact ha
  · intro h a la b hb c hc ha
    exact h a b c ⟨by omega, by omega, by simpa using hb, hc, ha⟩
theorem Tb.at_ {n : Nat} {t : List (List Int)} (tb : Tb n t) {x : Int} (h0 : 0 ≤ x) (h1 : x < n) : atI (t.map rowD) x = some (rowD (t.getD x.toNat [])) := by
  have z := rows_at (nss := t) (a := x.toNat) (by rw [tb.len]; omega)
  rw [Int.toNat_of_nonneg h0] at z
  exact z
theorem Tb.mem {n : Nat} {t : List (List Int)} (tb : Tb n t) {x y : Int} (h0 : 0 ≤ x) (h1 : x < n) (h : y ∈ t.getD x.toNat []) : 0 ≤ y ∧ y < n := tb.inr x.toNat (by omega) y h
theorem Ord.noRing {n : Nat} {ns : List Int} (o : Ord n ns) : DL.noRing (ordT ns) = true := by
  refine noRing_iff.mpr fun a b c h => ?_
  obtain ⟨a0, a1, hb, hc, ha⟩ := h
  rw [ordT_length, o.len] at a1
  have b1 := (o.beats (a := a.toNat) (by omega)).mp hb
  have c1 := (o.beats (a := b.toNat) (by omega)).mp hc
  have d1 := (o.beats (a := c.toNat) (by omega)).mp ha
  rw [Int.toNat_of_nonneg a0] at b1
  rw [Int.toNat_of_nonneg b1.1.1] at c1
  rw [Int.toNat_of_nonneg c1.1.1] at d1
  omega
end DL
namespace DL
open PySem PySem.Spec PyProof.Rows L2 LamX PySem.W SL
def ixP (ps : List (List Int)) (s : Int) (k : Nat) : Nat := pos (ps.getD k []) s
def farLe (ps : List (List Int)) (s : Int) (a b : Nat) : Bool := decide (-(ixP ps s a : Int) < -(ixP ps s b : Int) ∨ (-(ixP ps s a : Int) = -(ixP ps s b : Int) ∧ (a : Int) ≤ (b : Int)))
def farN (ps : List (List Int)) (s : Int) : List Nat := (List.range ps.length).mergeSort (farLe ps s)
def farO (ps : List (List Int)) (s : Int) : List Int := (farN ps s).map fun i : Nat => (i : Int)
theorem farO_ord (ps : List (List Int)) (s : Int) : Ord ps.length (farO ps s) := by
  refine ⟨?_⟩
  unfold farO R
  exact (List.mergeSort_perm _ _).map _
theorem farO_pair (ps : List (List Int)) (s : Int) : (farN ps s).Pairwise fun a b => farLe ps s a b = true := by
  refine List.pairwise_mergeSort (fun a b c h1 h2 => ?_) (fun a b => ?_) _
  · unfold farLe at h1 h2 ⊢
    simp only [decide_eq_true_eq] at h1 h2 ⊢
    omega
  · unfold farLe
    simp only [Bool.or_eq_true, decide_eq_true_eq]
    omega
def Far (ps : List (List Int)) (s : Int) (a b : Nat) : Prop := ixP ps s b < ixP ps s a ∨ (ixP ps s a = ixP ps s b ∧ a < b)
theorem far_pos {ps : List (List Int)} {s : Int} {a b : Nat} (ha : a < ps.length) (hb : b < ps.length) (ne : a ≠ b) : pos (farO ps s) a < pos (farO ps s) b ↔ Far ps s a b := by
  have o := farO_ord ps s
  have ma : (a : Int) ∈ farO ps s := o.mem.mpr (by omega)
  have mb : (b : Int) ∈ farO ps s := o.mem.mpr (by omega)
  have up : ∀ x y : Nat, (x : Int) ∈ farO ps s → (y : Int) ∈ farO ps s → pos (farO ps s) x < pos (farO ps s) y → farLe ps s x y = true := by
    intro x y hx hy lt
    have px := (pos_at hx).1
    have py := (pos_at hy).1
    unfold farO at px py
    rw [List.getElem?_map] at px py
    cases ex : (farN ps s)[pos (farO ps s) x]? with
    | none => unfold farO at ex; rw [ex] at px; cases px
    | some u =>
      cases ey : (farN ps s)[pos (farO ps s) y]? with
      | none => unfold farO at ey; rw [ey] at py; cases py
      | some v =>
        have ex' := ex
        have ey' := ey
        unfold farO at ex ey
        rw [ex] at px
        rw [ey] at py
        have e1 : u = x := by
          have h : (u : Int) = x := Option.some.inj px
          omega
        have e2 : v = y := by
          have h : (v : Int) = y := Option.some.inj py
          omega
        subst e1
        subst e2
        obtain ⟨l1, q1⟩ := List.getElem?_eq_some_iff.mp ex'
        obtain ⟨l2, q2⟩ := List.getElem?_eq_some_iff.mp ey'
        have z := List.pairwise_iff_getElem.mp (farO_pair ps s) _ _ l1 l2 lt
        rw [q1, q2] at z
        exact z
  constructor
  · intro lt
    have z := up a b ma mb lt
    unfold farLe at z
    simp only [decide_eq_true_eq] at z
    unfold Far
    omega
  · intro f
    rcases Nat.lt_trichotomy (pos (farO ps s) a) (pos (farO ps s) b) with z | z | z
    · exact z
    · have := pos_inj ma mb z
      omega
    · have y := up b a mb ma z
      unfold farLe at y
      simp only [decide_eq_true_eq] at y
      unfold Far at f
      omega
theorem line_ord {n : Nat} {b : Int} (n0 : 0 < n) : Ord n (lineI n b) := by
  refine ⟨(List.perm_ext_iff_of_nodup ?_ (R_nodup n)).mpr fun x => ?_⟩
  · unfold lineI
    refine List.Pairwise.map _ (fun (i : Nat) (j : Nat) (h : i < n ∧ j < n ∧ i ≠ j) => ?_) (List.Pairwise.imp_of_mem (fun {i j} hi hj h => (⟨List.mem_range.mp hi, List.mem_range.mp hj, h⟩ : i < n ∧ j < n ∧ i ≠ j)) List.nodup_range)
    intro e
    have z : ((b + (i : Int)) - (b + (j : Int))) % (n : Int) = 0 := Int.emod_eq_emod_iff_emod_sub_eq_zero.mp e
    have z2 := Int.dvd_of_emod_eq_zero z
    obtain ⟨c, hc⟩ := z2
    have hij : (i : Int) - (j : Int) = (n : Int) * c := by omega
    have c0 : c = 0 := by
      rcases Int.lt_trichotomy c 0 with w | w | w
      · have : (n : Int) * c ≤ (n : Int) * (-1) := Int.mul_le_mul_of_nonneg_left (by omega) (by omega)
        omega
      · exact w
      · have : (n : Int) * 1 ≤ (n : Int) * c := Int.mul_le_mul_of_nonneg_left (by omega) (by omega)
        omega
    rw [c0] at hij
    omega
  · rw [R_mem]
    unfold lineI
    rw [List.mem_map]
    constructor
    · rintro ⟨i, _, rfl⟩
      exact ⟨Int.emod_nonneg _ (by omega), Int.emod_lt_of_pos _ (by omega)⟩
    · rintro ⟨h0, h1⟩
      have m0 := Int.emod_nonneg (x - b) (b := (n : Int)) (by omega)
      have m1 := Int.emod_lt_of_pos (x - b) (b := (n : Int)) (by omega)
      refine ⟨((x - b) % (n : Int)).toNat, List.mem_range.mpr (by omega), ?_⟩
      rw [Int.toNat_of_nonneg m0, Int.add_emod_emod]
      rw [show b + (x - b) = x by omega]
      exact Int.emod_eq_of_lt h0 h1
end DL
namespace DL
open PySem PySem.Spec PyProof.Rows L2 LamX PySem.W SL
def Beats (t : List (List Int)) (a b : Nat) : Prop := (b : Int) ∈ t.getD a []
theorem Tb.dec2 {n : Nat} {t : List (List Int)} (tb : Tb n t) {a b : Nat} (ha : a < n) (hb : b < n) (ne : a ≠ b) : Beats t a b ↔ ¬ Beats t b a := by
  have z := tb.one a b ha hb
  unfold dec at z
  rw [if_neg ne] at z
  unfold Beats
  by_cases h1 : (b : Int) ∈ t.getD a []
  · by_cases h2 : (a : Int) ∈ t.getD b []
    · rw [decide_eq_true h1, decide_eq_true h2] at z; cases z
    · exact ⟨fun _ => h2, fun _ => h1⟩
  · by_cases h2 : (a : Int) ∈ t.getD b []
    · exact ⟨fun w => absurd w h1, fun w => absurd h2 w⟩
    · rw [decide_eq_false h1, decide_eq_false h2] at z; cases z
theorem Tb.irr {n : Nat} {t : List (List Int)} (tb : Tb n t) {a : Nat} (ha : a < n) : ¬ Beats t a a := by
  have z := tb.one a a ha ha
  unfold dec at z
  rw [if_pos rfl] at z
  unfold Beats
  simpa using z
theorem Tb.trans {n : Nat} {t : List (List Int)} (tb : Tb n t) (no : noRing t = true) {a b c : Nat} (ha : a < n) (hb : b < n) (hc : c < n) (h1 : Beats t a b) (h2 : Beats t b c) : Beats t a c := by
  by_cases e : a = c
  · subst e
    have ne : a ≠ b := fun z => by subst z; exact tb.irr ha h1
    exact absurd h2 ((tb.dec2 ha hb ne).mp h1)
  · refine (tb.dec2 ha hc e).mpr fun h3 => noRing_iff.mp no a b c ⟨by omega, by rw [tb.len]; omega, ?_, ?_, ?_⟩
    · rw [Int.toNat_natCast]; exact h1
    · rw [Int.toNat_natCast]; exact h2
    · rw [Int.toNat_natCast]; exact h3
theorem sub_len {xs ys : List Int} (hx : xs.Nodup) (h : ∀ x ∈ xs, x ∈ ys) : xs.length ≤ ys.length := by
  induction xs generalizing ys with
  | nil => simp
  | cons a r ih =>
    have ha := h a List.mem_cons_self
    have z := ih (ys := ys.erase a) (List.nodup_cons.mp hx).2 fun x hx' => by
      have ne : x ≠ a := fun e => (List.nodup_cons.mp hx).1 (e ▸ hx')
      exact (List.mem_erase_of_ne ne).mpr (h x (List.mem_cons_of_mem _ hx'))
    rw [List.length_erase_of_mem ha] at z
    have := List.length_pos_of_mem ha
    rw [List.length_cons]
    omega
theorem asc_nodup {xs : List Int} (h : xs.Pairwise (· < ·)) : xs.Nodup := h.imp fun h => by omega
theorem Tb.more {n : Nat} {t : List (List Int)} (tb : Tb n t) (no : noRing t = true) {a b : Nat} (ha : a < n) (hb : b < n) (h : Beats t a b) : (t.getD b []).length < (t.getD a []).length := by
  have nb : (b : Int) ∉ t.getD b [] := tb.irr hb
  have z := sub_len (xs := (b : Int) :: t.getD b []) (ys := t.getD a []) (List.nodup_cons.mpr ⟨nb, asc_nodup (tb.asc b hb)⟩) fun x hx => by
    rcases List.mem_cons.mp hx with e | e
    · rw [e]; exact h
    · have r := tb.inr b hb x e
      have w := tb.trans no ha hb (c := x.toNat) (by omega) h (by unfold Beats; rw [Int.toNat_of_nonneg r.1]; exact e)
      unfold Beats at w
      rw [Int.toNat_of_nonneg r.1] at w
      exact w
  rw [List.length_cons] at z
  omega
def ordN (t : List (List Int)) : List Nat := (List.range t.length).mergeSort fun a b => decide (-((t.getD a []).length : Int) ≤ -((t.getD b []).length : Int))
def ordOf (t : List (List Int)) : List Int := (ordN t).map fun i : Nat => (i : Int)
theorem ordOf_ord {n : Nat} {t : List (List Int)} (l : t.length = n) : Ord n (ordOf t) := by
  refine ⟨?_⟩
  unfold ordOf R
  rw [← l]
  exact (List.mergeSort_perm _ _).map _
theorem ordOf_pos {n : Nat} {t : List (List Int)} (tb : Tb n t) (no : noRing t = true) {a b : Nat} (ha : a < n) (hb : b < n) (ne : a ≠ b) : pos (ordOf t) a < pos (ordOf t) b ↔ Beats t a b := by
  have o := ordOf_ord tb.len
  have ma : (a : Int) ∈ ordOf t := o.mem.mpr (by omega)
  have mb : (b : Int) ∈ ordOf t := o.mem.mpr (by omega)
  have pw : (ordN t).Pairwise fun a b => decide (-((t.getD a []).length : Int) ≤ -((t.getD b []).length : Int)) = true := by
    refine List.pairwise_mergeSort (fun a b c h1 h2 => ?_) (fun a b => ?_) _
    · simp only [decide_eq_true_eq] at h1 h2 ⊢
      omega
    · simp only [Bool.or_eq_true, decide_eq_true_eq]
      omega
  have up : ∀ x y : Nat, (x : Int) ∈ ordOf t → (y : Int) ∈ ordOf t → pos (ordOf t) x < pos (ordOf t) y → (t.getD y []).length ≤ (t.getD x []).length := by
    intro x y hx hy lt
    have px := (pos_at hx).1
    have py := (pos_at hy).1
    unfold ordOf at px py
    rw [List.getElem?_map] at px py
    cases ex : (ordN t)[pos (ordOf t) x]? with
    | none => unfold ordOf at ex; rw [ex] at px; cases px
    | some u =>
      cases ey : (ordN t)[pos (ordOf t) y]? with
      | none => unfold ordOf at ey; rw [ey] at py; cases py
      | some v =>
        have ex' := ex
        have ey' := ey
        unfold ordOf at ex ey
        rw [ex] at px
        rw [ey] at py
        have e1 : u = x := by
          have h : (u : Int) = x := Option.some.inj px
          omega
        have e2 : v = y := by
          have h : (v : Int) = y := Option.some.inj py
          omega
        subst e1
        subst e2
        obtain ⟨l1, q1⟩ := List.getElem?_eq_some_iff.mp ex'
        obtain ⟨l2, q2⟩ := List.getElem?_eq_some_iff.mp ey'
        have z := List.pairwise_iff_getElem.mp pw _ _ l1 l2 lt
        rw [q1, q2] at z
        simp only [decide_eq_true_eq] at z
        omega
  constructor
  · intro lt
    have z := up a b ma mb lt
    refine (tb.dec2 ha hb ne).mpr fun h => ?_
    have := tb.more no hb ha h
    omega
  · intro h
    have m := tb.more no ha hb h
    rcases Nat.lt_trichotomy (pos (ordOf t) a) (pos (ordOf t) b) with z | z | z
    · exact z
    · have := pos_inj ma mb z
      omega
    · have := up b a mb ma z
      omega
theorem Tb.ordT {n : Nat} {t : List (List Int)} (tb : Tb n t) (no : noRing t = true) : t = DL.ordT (ordOf t) := by
  have o := ordOf_ord tb.len
  refine List.ext_getElem (by rw [ordT_length, o.len, tb.len]) fun a h1 h2 => ?_
  have ha : a < n := by rw [← tb.len]; exact h1
  have e1 : t[a] = t.getD a [] := by rw [List.getD_eq_getElem?_getD, List.getElem?_eq_getElem h1]; rfl
  have e2 : (DL.ordT (ordOf t))[a] = (DL.ordT (ordOf t)).getD a [] := by rw [List.getD_eq_getElem?_getD, List.getElem?_eq_getElem h2]; rfl
  rw [e1, e2]
  refine asc_one (tb.asc a ha) (o.tb.asc a ha) fun x => ?_
  rw [o.beats ha]
  constructor
  · intro hx
    have r := tb.inr a ha x hx
    have e : ((x.toNat : Nat) : Int) = x := Int.toNat_of_nonneg r.1
    refine ⟨r, ?_⟩
    rw [← e] at hx ⊢
    have ne : a ≠ x.toNat := fun z => by
      rw [← z] at hx
      exact tb.irr ha hx
    exact (ordOf_pos tb no ha (by omega) ne).mpr hx
  · rintro ⟨r, lt⟩
    have e : ((x.toNat : Nat) : Int) = x := Int.toNat_of_nonneg r.1
    rw [← e] at lt ⊢
    have ne : a ≠ x.toNat := fun z => by
      rw [← z] at lt
      omega
    exact (ordOf_pos tb no ha (by omega) ne).mp lt
end DL
namespace DL
open PySem PySem.Spec PyProof.Rows L2 LamX PySem.W SL
def At (sl : List Int) (s k : Nat) : Prop := sl[s]? = some (k : Int)
structure Lay (m n : Nat) (sl : List Int) : Prop where
  len : sl.length = n
  rng : ∀ x ∈ sl, -1 ≤ x ∧ x < m
  inj : ∀ s t k, At sl s k → At sl t k → s = t
theorem At.one {sl : List Int} {s j k : Nat} (h : At sl s j) (q : At sl s k) : j = k := by
  unfold At at h q
  rw [h] at q
  have := Option.some.inj q
  omega
theorem At.lt {sl : List Int} {s k : Nat} (h : At sl s k) : s < sl.length := (List.getElem?_eq_some_iff.mp h).1
theorem Lay.key {m n : Nat} {sl : List Int} (L : Lay m n sl) {s k : Nat} (h : At sl s k) : k < m ∧ s < n := by
  have := L.rng _ (List.mem_of_getElem? h)
  have := h.lt
  have := L.len
  omega
theorem Lay.either {m n : Nat} {sl : List Int} (L : Lay m n sl) {s : Nat} (h : s < n) : sl[s]? = some (-1) ∨ ∃ k, At sl s k := by
  have lt : s < sl.length := by rw [L.len]; exact h
  have e := List.getElem?_eq_getElem lt
  have r := L.rng _ (List.getElem_mem lt)
  by_cases z : sl[s] = -1
  · left; rw [e, z]
  · right
    refine ⟨sl[s].toNat, ?_⟩
    unfold At
    rw [e]
    congr 1
    omega
theorem At.ne {sl : List Int} {s k : Nat} (h : At sl s k) : sl[s]? ≠ some (-1) := by
  unfold At at h
  rw [h]
  intro z
  have := Option.some.inj z
  omega
theorem at_set {sl : List Int} {s t a k : Nat} (h : s < sl.length) : At (sl.set s (a : Int)) t k ↔ (t = s ∧ k = a) ∨ (t ≠ s ∧ At sl t k) := by
  unfold At
  by_cases e : t = s
  · subst e
    rw [List.getElem?_set_self h]
    constructor
    · intro z
      have := Option.some.inj z
      exact .inl ⟨rfl, by omega⟩
    · rintro (⟨_, z⟩ | ⟨z, _⟩)
      · rw [z]
      · exact absurd rfl z
  · rw [List.getElem?_set_ne (fun z => e z.symm)]
    constructor
    · exact fun z => .inr ⟨e, z⟩
    · rintro (⟨z, _⟩ | ⟨_, z⟩)
      · exact absurd z e
      · exact z
theorem Lay.set {m n : Nat} {sl : List Int} (L : Lay m n sl) {s a : Nat} (hs : s < n) (ha : a < m) (fr : ∀ t, ¬ At sl t a) : Lay m n (sl.set s (a : Int)) := by
  have ls : s < sl.length := by rw [L.len]; exact hs
  refine ⟨by rw [List.length_set]; exact L.len, fun x hx => ?_, fun u t k h1 h2 => ?_⟩
  · rcases List.mem_or_eq_of_mem_set hx with z | z
    · exact L.rng x z
    · omega
  · rcases (at_set ls).mp h1 with ⟨e1, e2⟩ | ⟨n1, q1⟩ <;> rcases (at_set ls).mp h2 with ⟨e3, e4⟩ | ⟨n2, q2⟩
    · omega
    · subst e2; exact absurd q2 (fr t)
    · subst e4; exact absurd q1 (fr u)
    · exact L.inj _ _ _ q1 q2
structure Setg (m n : Nat) (P : List (List Int)) (R : List (List (List Int))) : Prop where
  pl : P.length = m
  po : ∀ o ∈ P, Ord n o
  rl : R.length = n
  rt : ∀ t ∈ R, Tb m t
def pr (P : List (List Int)) (a i : Nat) : Nat := ((P.getD a []).getD i 0).toNat
def rk (P : List (List Int)) (a s : Nat) : Nat := pos (P.getD a []) (s : Int)
def bt (R : List (List (List Int))) (s a b : Nat) : Bool := decide ((b : Int) ∈ (R.getD s []).getD a [])
section
variable {m n : Nat} {P : List (List Int)} {R : List (List (List Int))}
theorem getD_memL {α : Type} {l : List α} {i : Nat} {d : α} (h : i < l.length) : l.getD i d ∈ l := by
  rw [List.getD_eq_getElem?_getD, List.getElem?_eq_getElem h]
  exact List.getElem_mem h
theorem Setg.ord (S : Setg m n P R) {a : Nat} (h : a < m) : Ord n (P.getD a []) := S.po _ (getD_memL (by rw [S.pl]; exact h))
theorem Setg.tb (S : Setg m n P R) {s : Nat} (h : s < n) : Tb m (R.getD s []) := S.rt _ (getD_memL (by rw [S.rl]; exact h))
theorem Setg.pr_at (S : Setg m n P R) {a i : Nat} (ha : a < m) (hi : i < n) : (P.getD a [])[i]? = some (pr P a i : Int) ∧ pr P a i < n := by
  have o := S.ord ha
  have li : i < (P.getD a []).length := by rw [o.len]; exact hi
  have e := List.getElem?_eq_getElem li
  have r := o.mem.mp (List.getElem_mem li)
  unfold pr
  rw [List.getD_eq_getElem?_getD (l := P.getD a []), e]
  exact ⟨by congr 1; show _ = (((P.getD a [])[i].toNat : Nat) : Int); omega, by show (P.getD a [])[i].toNat < n; omega⟩
theorem Setg.rk_at (S : Setg m n P R) {a s : Nat} (ha : a < m) (hs : s < n) : (P.getD a [])[rk P a s]? = some (s : Int) ∧ rk P a s < n ∧ ixOf (s : Int) (P.getD a []) = some (rk P a s) := by
  have o := S.ord ha
  have h := pos_at (ns := P.getD a []) (x := (s : Int)) (o.mem.mpr (by omega))
  have l := (List.getElem?_eq_some_iff.mp h.1).1
  rw [o.len] at l
  exact ⟨h.1, l, h.2⟩
theorem Setg.rk_pr (S : Setg m n P R) {a i : Nat} (ha : a < m) (hi : i < n) : rk P a (pr P a i) = i := by
  obtain ⟨e, l⟩ := S.pr_at ha hi
  exact nd_at (S.ord ha).nd (S.rk_at ha l).1 e
theorem Setg.pr_rk (S : Setg m n P R) {a s : Nat} (ha : a < m) (hs : s < n) : pr P a (rk P a s) = s := by
  obtain ⟨e, l, _⟩ := S.rk_at ha hs
  have z := (S.pr_at ha l).1
  rw [e] at z
  have := Option.some.inj z
  omega
theorem Setg.rk_inj (S : Setg m n P R) {a s t : Nat} (ha : a < m) (hs : s < n) (ht : t < n) (e : rk P a s = rk P a t) : s = t := by
  rw [← S.pr_rk ha hs, e, S.pr_rk ha ht]
theorem Setg.bt_not (S : Setg m n P R) {s a b : Nat} (hs : s < n) (ha : a < m) (hb : b < m) (ne : a ≠ b) : bt R s a b = !bt R s b a := by
  have z := (S.tb hs).dec2 ha hb ne
  unfold Beats at z
  unfold bt
  by_cases h : (a : Int) ∈ (R.getD s []).getD b []
  · rw [decide_eq_true h, decide_eq_false fun q => z.mp q h]; rfl
  · rw [decide_eq_false h, decide_eq_true (z.mpr h)]; rfl
def Ahead (P : List (List Int)) (sl : List Int) : Prop := ∀ s k, At sl s k → ∀ j, j < rk P k s → ∃ k', At sl (pr P k j) k'
structure Good (m n : Nat) (P : List (List Int)) (sl : List Int) : Prop where
  lay : Lay m n sl
  ah : Ahead P sl
structure Go (m n : Nat) (P : List (List Int)) (sl : List Int) (a i : Nat) : Prop where
  g : Good m n P sl
  ha : a < m
  hi : i < n
  fr : ∀ t, ¬ At sl t a
  ask : ∀ j, j < i → ∃ k', At sl (pr P a j) k'
  room : ∃ t, t < n ∧ sl[t]? = some (-1)
theorem next_lt (S : Setg m n P R) {sl : List Int} {a i : Nat} (ha : a < m) (hi : i < n) (ask : ∀ j, j < i → ∃ k', At sl (pr P a j) k') (room : ∃ t, t < n ∧ sl[t]? = some (-1)) {k : Nat} (tk : At sl (pr P a i) k) : i + 1 < n := by
  obtain ⟨t, lt, e⟩ := room
  have l := (S.rk_at ha lt).2.1
  have p := S.pr_rk ha lt
  rcases Nat.lt_trichotomy (rk P a t) i with q | q | q
  · obtain ⟨k', h⟩ := ask _ q
    rw [p] at h
    exact absurd e h.ne
  · rw [← q, p] at tk
    exact absurd e tk.ne
  · omega
theorem Go.on (S : Setg m n P R) {sl : List Int} {a i k : Nat} (G : Go m n P sl a i) (tk : At sl (pr P a i) k) : Go m n P sl a (i + 1) := by
  refine ⟨G.g, G.ha, next_lt S G.ha G.hi G.ask G.room tk, G.fr, fun j lj => ?_, G.room⟩
  rcases Nat.lt_or_ge j i with q | q
  · exact G.ask j q
  · rw [show j = i by omega]; exact ⟨k, tk⟩
theorem taken_set {sl : List Int} {s a : Nat} (h : s < sl.length) {t k : Nat} (tk : At sl t k) : ∃ k', At (sl.set s (a : Int)) t k' := by
  by_cases e : t = s
  · exact ⟨a, (at_set h).mpr (.inl ⟨e, rfl⟩)⟩
  · exact ⟨k, (at_set h).mpr (.inr ⟨e, tk⟩)⟩
theorem Good.put (S : Setg m n P R) {sl : List Int} {a i : Nat} (g : Good m n P sl) (ha : a < m) (hi : i < n) (fr : ∀ t, ¬ At sl t a) (ask : ∀ j, j < i → ∃ k', At sl (pr P a j) k') : Good m n P (sl.set (pr P a i) (a : Int)) := by
  have ls := (S.pr_at ha hi).2
  have ls' : pr P a i < sl.length := by rw [g.lay.len]; exact ls
  refine ⟨g.lay.set ls ha fr, fun s k h j lj => ?_⟩
  rcases (at_set ls').mp h with ⟨e1, e2⟩ | ⟨e1, q⟩
  · subst e1
    subst e2
    rw [S.rk_pr ha hi] at lj
    obtain ⟨k', h'⟩ := ask j lj
    exact taken_set ls' h'
  · obtain ⟨k', h'⟩ := g.ah s k q j lj
    exact taken_set ls' h'
theorem Go.swap (S : Setg m n P R) {sl : List Int} {a i k : Nat} (G : Go m n P sl a i) (tk : At sl (pr P a i) k) : Go m n P (sl.set (pr P a i) (a : Int)) k (rk P k (pr P a i) + 1) := by
  have ls := (S.pr_at G.ha G.hi).2
  have ls' : pr P a i < sl.length := by rw [G.g.lay.len]; exact ls
  have hk := (G.g.lay.key tk).1
  have lr := (S.rk_at hk ls).2.1
  have pk := S.pr_rk hk ls
  have nx := next_lt S (sl := sl) hk lr (G.g.ah _ _ tk) G.room (k := k) (by rw [pk]; exact tk)
  refine ⟨G.g.put S G.ha G.hi G.fr G.ask, hk, nx, fun t h => ?_, fun j lj => ?_, ?_⟩
  · rcases (at_set ls').mp h with ⟨_, e2⟩ | ⟨ne, q⟩
    · subst e2; exact G.fr _ tk
    · exact ne (G.g.lay.inj _ _ _ q tk)
  · rcases Nat.lt_or_ge j (rk P k (pr P a i)) with q | q
    · obtain ⟨k', h'⟩ := G.g.ah _ _ tk j q
      exact taken_set ls' h'
    · rw [show j = rk P k (pr P a i) by omega, pk]
      exact taken_set ls' tk
  · obtain ⟨t, lt, e⟩ := G.room
    refine ⟨t, lt, ?_⟩
    have ne : t ≠ pr P a i := fun z => by rw [z] at e; exact tk.ne e
    rw [List.getElem?_set_ne (fun z => ne z.symm)]
    exact e
def insG (P : List (List Int)) (R : List (List (List Int))) : Nat → List Int → Nat → Nat → Option (List Int × List (Nat × Nat))
  | 0, _, _, _ => none
  | f + 1, sl, a, i => match sl.getD (pr P a i) (-1) with
    | Int.ofNat k => if bt R (pr P a i) a k = true then (insG P R f (sl.set (pr P a i) (a : Int)) k (rk P k (pr P a i) + 1)).map fun x => (x.1, (a, pr P a i) :: x.2) else insG P R f sl a (i + 1)
    | Int.negSucc _ => some (sl.set (pr P a i) (a : Int), [(a, pr P a i)])
theorem insG_free {f : Nat} {sl : List Int} {a i : Nat} (h : sl[pr P a i]? = some (-1)) : insG P R (f + 1) sl a i = some (sl.set (pr P a i) (a : Int), [(a, pr P a i)]) := by
  unfold insG
  rw [List.getD_eq_getElem?_getD, h]
  rfl
theorem insG_taken {f : Nat} {sl : List Int} {a i k : Nat} (h : At sl (pr P a i) k) : insG P R (f + 1) sl a i = if bt R (pr P a i) a k = true then (insG P R f (sl.set (pr P a i) (a : Int)) k (rk P k (pr P a i) + 1)).map fun x => (x.1, (a, pr P a i) :: x.2) else insG P R f sl a (i + 1) := by
  conv => lhs; unfold insG
  unfold At at h
  rw [List.getD_eq_getElem?_getD, h]
  rfl
def wt (P : List (List Int)) (n : Nat) (t : Nat) (x : Int) : Nat := if x < 0 then 0 else n - rk P x.toNat t
def pot (P : List (List Int)) (n : Nat) (sl : List Int) : Nat := ((List.range sl.length).map fun t => wt P n t (sl.getD t (-1))).sum
theorem sum_set_nat : ∀ (l : List Nat) (i x : Nat), i < l.length → (l.set i x).sum + l.getD i 0 = l.sum + x
  | y :: r, 0, x, _ => by simp; omega
  | y :: r, i + 1, x, h => by
    have z := sum_set_nat r i x (by simpa using h)
    simp at z ⊢
    omega
theorem pot_set {sl : List Int} {s : Nat} (h : s < sl.length) (x : Int) : pot P n (sl.set s x) + wt P n s (sl.getD s (-1)) = pot P n sl + wt P n s x := by
  unfold pot
  rw [List.length_set]
  have e : (List.range sl.length).map (fun t => wt P n t ((sl.set s x).getD t (-1))) = ((List.range sl.length).map fun t => wt P n t (sl.getD t (-1))).set s (wt P n s x) := by
    refine List.ext_getElem (by simp) fun i h1 h2 => ?_
    rw [List.getElem_set, List.getElem_map, List.getElem_range, List.getElem_map, List.getElem_range]
    by_cases q : s = i
    · subst q
      rw [if_pos rfl, List.getD_eq_getElem?_getD, List.getElem?_set_self h]
      rfl
    · rw [if_neg q, List.getD_eq_getElem?_getD, List.getElem?_set_ne q, ← List.getD_eq_getElem?_getD]
  rw [e]
  have z := sum_set_nat ((List.range sl.length).map fun t => wt P n t (sl.getD t (-1))) s (wt P n s x) (by simpa using h)
  have z2 : ((List.range sl.length).map fun t => wt P n t (sl.getD t (-1))).getD s 0 = wt P n s (sl.getD s (-1)) := by
    rw [List.getD_eq_getElem?_getD, List.getElem?_map, List.getElem?_eq_getElem (by simpa using h), List.getElem_range]
    rfl
  rw [z2] at z
  exact z
theorem insG_total (S : Setg m n P R) : ∀ (f : Nat) (sl : List Int) (a i : Nat), Go m n P sl a i → pot P n sl + (n - i) < f → ∃ r, insG P R f sl a i = some r
  | 0, sl, a, i, G, h => absurd h (Nat.not_lt_zero _)
  | f + 1, sl, a, i, G, h => by
    have hi := G.hi
    have ls := (S.pr_at G.ha G.hi).2
    have ls' : pr P a i < sl.length := by rw [G.g.lay.len]; exact ls
    rcases G.g.lay.either ls with e | ⟨k, tk⟩
    · exact ⟨_, insG_free e⟩
    · rw [insG_taken tk]
      by_cases b : bt R (pr P a i) a k = true
      · rw [if_pos b]
        have G2 := G.swap S tk
        have hk := (G.g.lay.key tk).1
        have lr := (S.rk_at hk ls).2.1
        have z := pot_set (P := P) (n := n) ls' (a : Int)
        have e1 : wt P n (pr P a i) (sl.getD (pr P a i) (-1)) = n - rk P k (pr P a i) := by
          unfold At at tk
          rw [List.getD_eq_getElem?_getD, tk]
          unfold wt
          rw [if_neg (by show ¬ (k : Int) < 0; omega)]
          rfl
        have e2 : wt P n (pr P a i) (a : Int) = n - i := by
          unfold wt
          rw [if_neg (by omega), Int.toNat_natCast, S.rk_pr G.ha G.hi]
        rw [e1, e2] at z
        obtain ⟨r, hr⟩ := insG_total S f _ _ _ G2 (by omega)
        rw [hr]
        exact ⟨_, rfl⟩
      · rw [if_neg b]
        exact insG_total S f _ _ _ (G.on S tk) (by omega)
theorem insG_good (S : Setg m n P R) : ∀ (f : Nat) (sl : List Int) (a i : Nat) (L : List Int) (p : List (Nat × Nat)), Go m n P sl a i → insG P R f sl a i = some (L, p) → Good m n P L ∧ (∀ k, (∃ s, At L s k) ↔ k = a ∨ ∃ s, At sl s k) ∧ ∀ x ∈ p, x.1 < m ∧ x.2 < n
  | 0, sl, a, i, L, p, G, h => by cases h
  | f + 1, sl, a, i, L, p, G, h => by
    have ls := (S.pr_at G.ha G.hi).2
    have ls' : pr P a i < sl.length := by rw [G.g.lay.len]; exact ls
    rcases G.g.lay.either ls with e | ⟨k, tk⟩
    · rw [insG_free e] at h
      cases h
      refine ⟨G.g.put S G.ha G.hi G.fr G.ask, fun k => ?_, fun x hx => ?_⟩
      · constructor
        · rintro ⟨s, hs⟩
          rcases (at_set ls').mp hs with ⟨_, z⟩ | ⟨_, z⟩
          · exact .inl z
          · exact .inr ⟨s, z⟩
        · rintro (rfl | ⟨s, hs⟩)
          · exact ⟨_, (at_set ls').mpr (.inl ⟨rfl, rfl⟩)⟩
          · refine ⟨s, (at_set ls').mpr (.inr ⟨fun z => ?_, hs⟩)⟩
            rw [z] at hs
            exact hs.ne e
      · rw [List.mem_singleton.mp hx]
        exact ⟨G.ha, ls⟩
    · rw [insG_taken tk] at h
      by_cases b : bt R (pr P a i) a k = true
      · rw [if_pos b] at h
        obtain ⟨⟨L2, p2⟩, h2, h3⟩ := Option.map_eq_some_iff.mp h
        cases h3
        obtain ⟨g, ks, pr_⟩ := insG_good S f _ _ _ _ p2 (G.swap S tk) h2
        refine ⟨g, fun j => ?_, fun x hx => ?_⟩
        · rw [ks]
          constructor
          · rintro (rfl | ⟨s, hs⟩)
            · exact .inr ⟨_, tk⟩
            · rcases (at_set ls').mp hs with ⟨_, z⟩ | ⟨_, z⟩
              · exact .inl z
              · exact .inr ⟨s, z⟩
          · rintro (rfl | ⟨s, hs⟩)
            · exact .inr ⟨_, (at_set ls').mpr (.inl ⟨rfl, rfl⟩)⟩
            · by_cases e : s = pr P a i
              · rw [e] at hs
                exact .inl (hs.one tk)
              · exact .inr ⟨s, (at_set ls').mpr (.inr ⟨e, hs⟩)⟩
        · rcases List.mem_cons.mp hx with z | z
          · rw [z]; exact ⟨G.ha, ls⟩
          · exact pr_ x z
      · rw [if_neg b] at h
        exact insG_good S f _ _ _ L p (G.on S tk) h
def ins (P : List (List Int)) (R : List (List (List Int))) (sl : List Int) (a : Nat) : List Int × List (Nat × Nat) := (insG P R (pot P R.length sl + R.length + 1) sl a 0).getD (sl, [])
theorem Go.start {sl : List Int} {a : Nat} (g : Good m n P sl) (ha : a < m) (fr : ∀ t, ¬ At sl t a) (room : ∃ t, t < n ∧ sl[t]? = some (-1)) : Go m n P sl a 0 := by
  have r := room
  obtain ⟨t, lt, _⟩ := r
  exact ⟨g, ha, by omega, fr, fun j lj => absurd lj (Nat.not_lt_zero _), room⟩
theorem ins_eq (S : Setg m n P R) {sl : List Int} {a : Nat} (G : Go m n P sl a 0) : insG P R (pot P R.length sl + R.length + 1) sl a 0 = some (ins P R sl a) := by
  obtain ⟨r, h⟩ := insG_total S (pot P R.length sl + R.length + 1) sl a 0 G (by rw [S.rl]; omega)
  unfold ins
  rw [h]
  rfl
end
end DL
namespace DL
open PySem PySem.Spec PyProof.Rows L2 LamX PySem.W SL
def F__law_pot_of : DTS := (sSeq (sSet 2 (dIf (dTest (dOp dLtG (dVar 1) (dCB dLen (daCons (dVar 0) daNil)))) (dOp dIx (dVar 0) (dVar 1)) (dOp dAdd (dOp dMul (dC (.int 31)) (dVar 1)) (dC (.int 6))))) (sSeq (sSet 3 (dOp dMul (dOp dMod (dCB dAbs (daCons (dVar 2) daNil)) (dOp dPow (dOp dPow (dC (.int 10)) (dC (.int 60))) (dC (.int 5)))) (dCB dInt (daCons (dOp dGe (dCB dAbs (daCons (dVar 2) daNil)) (dOp dPow (dC (.int 10)) (dC (.int 18)))) daNil)))) (sRet (dLstN (daCons (dVar 3) (daCons (dOp dMod (dOp dAdd (dOp dAdd (dOp dMul (dOp dMod (dVar 2) (dC (.int 2305843009213693951))) (dC (.int 48271))) (dOp dMul (dOp dMul (dC (.int 7919)) (dVar 1)) (dVar 1))) (dC (.int 13))) (dC (.int 2305843009213693921))) (daCons (dC (.int 0)) daNil)))))))
def F__law_take_v3 : DTS := (sSeq (sIf (dTest (dOp dGt (dOp dIx (dVar 0) (dC (.int 0))) (dC (.int 0)))) (sSeq (sSet 2 (dOp dMod (dOp dIx (dVar 0) (dC (.int 0))) (dVar 1))) (sSeq (sAsg (dOp dDiv (dOp dIx (dVar 0) (dC (.int 0))) (dVar 1)) (gSb (dVar 0) (dC (.int 0)))) (sRet (dVar 2)))) sNext) (sSeq (sAsg (dOp dAdd (dOp dIx (dVar 0) (dC (.int 2))) (dC (.int 1))) (gSb (dVar 0) (dC (.int 2)))) (sSeq (sSet 3 (dOp dIx (dLst (daCons (dC (.int 2147483647)) (daCons (dC (.int 2147483629)) (daCons (dC (.int 2147483587)) (daCons (dC (.int 2147483579)) (daCons (dC (.int 2147483563)) daNil)))))) (dOp dMod (dOp dIx (dVar 0) (dC (.int 2))) (dC (.int 5))))) (sSeq (sSet 4 (dOp dMod (dOp dPow (dOp dAdd (dOp dAdd (dOp dIx (dVar 0) (dC (.int 1))) (dOp dMul (dOp dMul (dC (.int 65537)) (dOp dIx (dVar 0) (dC (.int 2)))) (dOp dIx (dVar 0) (dC (.int 2))))) (dC (.int 29))) (dC (.int 3))) (dVar 3))) (sRet (dOp dMod (dOp dDiv (dOp dMod (dOp dMul (dVar 4) (dOp dAdd (dOp dMod (dVar 4) (dC (.int 10007))) (dOp dMul (dC (.int 97)) (dOp dIx (dVar 0) (dC (.int 2)))))) (dC (.int 2305843009213693907))) (dC (.int 97))) (dVar 1)))))))
end DL
namespace DL
open PySem PySem.Spec PyProof.Rows L2 LamX PySem.W SL
end DL
namespace DL
open PySem PySem.Spec PyProof.Rows L2 LamX PySem.W SL
theorem sm_row {ns : List Int} {m : Nat} (h : ∀ x ∈ ns, -100 ≤ x ∧ x ≤ 1000) (l : ns.length ≤ m) : Sm 1 (m * 22 + 3) (rowD ns) := by
  unfold rowD
  refine sm_tup (k := 0) (c := 20) (fun d hd => ?_) (by rw [List.length_map]; exact l)
  obtain ⟨i, hi, rfl⟩ := List.mem_map.mp hd
  exact sm_int (h i hi).1 (h i hi).2
theorem sm_rows {nss : List (List Int)} {m k : Nat} (h : ∀ ns ∈ nss, (∀ x ∈ ns, -100 ≤ x ∧ x ≤ 1000) ∧ ns.length ≤ m) (l : nss.length ≤ k) : Sm 2 (k * ((m * 22 + 3) + 2) + 3) (rowsD nss) := by
  unfold rowsD
  refine sm_tup (k := 1) (fun d hd => ?_) (by rw [List.length_map]; exact l)
  obtain ⟨i, hi, rfl⟩ := List.mem_map.mp hd
  exact sm_row (h i hi).1 (h i hi).2
theorem Ord.sm {n : Nat} {ns : List Int} (o : Ord n ns) (h : n ≤ 16) : Sm 1 355 (rowD ns) := by
  have z := sm_row (ns := ns) (m := 16) (fun x hx => by have := o.mem.mp hx; omega) (by rw [o.len]; exact h)
  exact z
theorem Tb.sm {n : Nat} {t : List (List Int)} (o : Tb n t) (h : n ≤ 16) : Sm 2 5715 (rowsD t) := by
  have z := sm_rows (nss := t) (m := 16) (k := 16) (fun ns hn => ⟨fun x hx => by have := (o.row hn).2 x hx; omega, by have := o.few hn; omega⟩) (by rw [o.len]; exact h)
  exact z
end DL
namespace DL
open PySem PySem.Spec PyProof.Rows L2 LamX PySem.W SL
theorem set_same {st : DSt} {p : Nat} {o : O} (e : st[p]? = some o) : st.set p o = st := by
  refine List.ext_getElem? fun i => ?_
  by_cases w : i = p
  · subst w; rw [List.getElem?_set_self (List.getElem?_eq_some_iff.mp e).1, e]
  · rw [List.getElem?_set_ne (fun w' => w w'.symm)]
instance {ps : List (List Int)} {s : Int} {a b : Nat} : Decidable (Far ps s a b) := by unfold Far; infer_instance
end DL
namespace DL
open PySem PySem.Spec PyProof.Rows L2 LamX PySem.W SL
theorem compL_inv {te : DTE} {r : DEnv} {Q : List D → DSt → Prop} {xs : List D} {i : Nat} (K : Nat) (W : Nat → List D → DSt → Prop)
    (step : ∀ (k : Nat) (d : D) (acc : List D) (st : DSt) (N : DK), k < K → W k acc st → (∀ y st4, W (k + 1) (acc ++ [y]) st4 → N y st4) → te (r.set i (some d)) st N) (fin : ∀ acc st, W K acc st → Q acc st) :
    ∀ (items acc : List D) (k : Nat) (st : DSt), k + items.length = K → W k acc st → compL ⟨xs, none⟩ (gNm i) dtYes te r Q items acc st
  | [], acc, k, st, e, w => by
    have e' : k = K := e
    subst e'
    exact fin acc st w
  | d :: ds, acc, k, st, e, w => by
    rw [List.length_cons] at e
    show te (r.set i (some d)) st _
    exact step k d acc st _ (by omega) w fun y st4 w4 => compL_inv K W step fin ds _ (k + 1) st4 (by omega) w4
end DL
namespace DL
open PySem PySem.Spec PyProof.Rows L2 LamX PySem.W SL
def g_law : DRs := fun ds st Q => ∃ (ns : List Int) (x : D), ds = [x] ∧ Scr ns x ∧ ns.length ≤ 63 ∧ ∀ st' : DSt, Q (.bl true) st'
theorem ar_law (ds : List D) (st : DSt) (Q : DK) (h : g_law ds st Q) : ds.length = 1 := by
  obtain ⟨_, _, rfl, _⟩ := h
  rfl
end DL
namespace DL
open PySem PySem.Spec PyProof.Rows L2 LamX PySem.W SL
mutual
theorem pdT_eqv : ∀ {d : D} {p : PyData}, pdT d = some p → PyData.eqv p p = true
  | .non, _, e => by simp [pdT] at e; subst e; simp [PyData.eqv]
  | .bl b, _, e => by simp [pdT] at e; subst e; simp [PyData.eqv]
  | .int b, _, e => by simp [pdT] at e; subst e; simp [PyData.eqv]
  | .str b, _, e => by simp [pdT] at e; subst e; simp [PyData.eqv]
  | .tup ds, _, e => by
    simp only [pdT, Option.map_eq_some_iff] at e
    obtain ⟨ps, e, rfl⟩ := e
    simp only [PyData.eqv]
    exact pdTs_eqv e
  | .tuk ds, _, e => by
    simp only [pdT, Option.map_eq_some_iff] at e
    obtain ⟨ps, e, rfl⟩ := e
    simp only [PyData.eqv]
    exact pdTs_eqv e
  | .lst ds, _, e => by
    simp only [pdT, Option.map_eq_some_iff] at e
    obtain ⟨ps, e, rfl⟩ := e
    simp only [PyData.eqv]
    exact pdTs_eqv e
  | .scr ds, _, e => by
    simp only [pdT, Option.map_eq_some_iff] at e
    obtain ⟨ps, e, rfl⟩ := e
    simp only [PyData.eqv]
    exact pdTs_eqv e
  | .ref n, _, e => by simp [pdT] at e
theorem pdTs_eqv : ∀ {d : List D} {p : List PyData}, pdTs d = some p → PyData.eqvAll p p = true
  | [], _, e => by simp [pdTs] at e; subst e; simp [PyData.eqvAll]
  | d :: ds, _, e => by
    unfold pdTs at e
    cases q : pdT d with
    | none => rw [q] at e; cases e
    | some y =>
      rw [q] at e
      simp only [Option.map_eq_some_iff] at e
      obtain ⟨ps, e, rfl⟩ := e
      simp only [PyData.eqvAll, pdT_eqv q, pdTs_eqv e, Bool.and_self]
end
theorem eq_tup {st : DSt} {k c : Nat} {xs : List D} {Q : DK} (sm : Sm k c (.tup xs)) (hk : k ≤ 50) (q : Q (.bl true) st) : dEqG false (.tup xs) (.tup xs) st Q := by
  obtain ⟨p, e1, el⟩ := sm
  have p1 : pdS st (.tup xs) = some p := by rw [← e1]; rfl
  show dEqD false (.tup xs) (.tup xs) st Q
  unfold dEqD
  rw [p1]
  refine ⟨⟨Sm.shaped el hk, Sm.shaped el hk⟩, ?_⟩
  show Q (.bl (PyData.eqv p p)) st
  rw [pdT_eqv e1]
  exact q
theorem ne_tup {st : DSt} {k c : Nat} {xs : List D} {Q : DK} (sm : Sm k c (.tup xs)) (hk : k ≤ 50) (q : Q (.bl false) st) : dEqG true (.tup xs) (.tup xs) st Q := by
  obtain ⟨p, e1, el⟩ := sm
  have p1 : pdS st (.tup xs) = some p := by rw [← e1]; rfl
  show dEqD true (.tup xs) (.tup xs) st Q
  unfold dEqD
  rw [p1]
  refine ⟨⟨Sm.shaped el hk, Sm.shaped el hk⟩, ?_⟩
  show Q (.bl (!PyData.eqv p p)) st
  rw [pdT_eqv e1]
  exact q
theorem sem_linear (ds : List D) (st : DSt) (Q : DK) (h : g_line ds st Q) : F_linear { nx := fun _ st' => Rt st Q .non st', rt := Rt st Q } (startD 3 ds) st := by
  obtain ⟨n, b, rfl, n0, n1, q⟩ := h
  have st3 : startD 3 [D.int (n : Int), D.int b] = [some (.int n), some (.int b), none] := rfl
  simp [F_linear, st3, rgD_length]
  refine ⟨by omega, Nat.le_of_lt (small1000 n1), lc_rng (fun k => .int ((b + (k : Int)) % (n : Int))) (fun k lt Q' q' => ?_) ?_⟩
  · simp
    exact ⟨n0, q'⟩
  · simp
    refine .inl ?_
    unfold lineI at q
    rw [List.map_map] at q
    exact q
def g_pow2 : DRs := fun ds st Q => ∃ n : Int, ds = [.int n] ∧ n ∈ [1, 2, 4, 8, 16, 32, 64] ∧ Q (.bl true) st
theorem ar_pow2 (ds : List D) (st : DSt) (Q : DK) (h : g_pow2 ds st Q) : ds.length = 1 := by
  obtain ⟨_, rfl, _⟩ := h
  rfl
theorem sem_pow2 (ds : List D) (st : DSt) (Q : DK) (h : g_pow2 ds st Q) : F_is_power_of_two { nx := fun _ st' => Rt st Q .non st', rt := Rt st Q } (startD 1 ds) st := by
  obtain ⟨n, rfl, m, q⟩ := h
  have st1 : startD 1 [D.int n] = [some (.int n)] := rfl
  have a : Builtin.bitAnd n (n - 1) = 0 ∧ 0 < n := by
    simp only [List.mem_cons, List.not_mem_nil, or_false] at m
    rcases m with rfl | rfl | rfl | rfl | rfl | rfl | rfl <;> exact ⟨by decide +kernel, by decide⟩
  simp only [F_is_power_of_two, st1, e_var, e_C, e_op, e_neg, e_isN, e_notN, e_and, e_or, e_not, e_test, e_tAnd, e_tOr, e_tNot, e_tYes, e_if, e_aNil, e_aCons, e_tup, e_lst, e_lstN, e_len0, e_len1, e_len2, e_len3, e_len4, e_len5, e_cb, e_on1, e_on2, e_onI, e_onB, e_onO, e_onO0, e_onOO, e_I0, e_I, e_add, e_addT, e_addS, e_addL, e_addLR, e_addRL, e_addRR, e_mul, e_mulL, e_mulT, e_rev, e_revT, e_ix, e_eqI, e_eqS, e_eqB, e_neI, e_neS, e_neB, e_ltI, e_chain, e_len, e_abs, e_2I, e_tuple1, e_tuple2, e_tuple3, e_listT, e_listN, e_allR, e_seqT, e_seqK, e_seqL, e_isi, e_isB, e_notB, e_truth, e_next, e_seq, e_drop, e_ret, e_retN, e_ifS, e_set, e_asg, e_par, e_nm, e_gsN, e_gsC, e_gTpK, e_gTpL, e_sum, e_maxL, e_minL, e_maxDef, e_int, e_intB, e_aug, e_on3, e_par3, e_newK, e_getK, e_keyI, e_keyS, e_inK, e_ninK, e_putK, e_lenK, e_lstS, e_seqX, e_gTpT, e_oN, e_oS, e_sl, e_slT, e_slL, e_finT, e_finN, e_index, e_idxT, e_idxL, e_mIx, e_ixST, e_ixSL, e_mtL, e_w, e_w1, e_w2, e_wE, e_wZ, e_itK, e_itT, e_itL, e_itT2, e_itL2, e_lc, e_for, e_wipe0, e_wipe, e_okI, e_okR, e_gSb, List.getElem?_cons_zero, List.getElem?_cons_succ, List.set_cons_zero, List.set_cons_succ, a.1]
  refine iteT' (decide_eq_true a.2) ?_
  exact .inl q
def triI (n : Nat) (b : Int) : List Int := (List.range n).map fun i : Nat => (b + ((i : Int) * ((i : Int) + 1)) / 2) % (n : Int)
def g_tri : DRs := fun ds st Q => ∃ (n : Nat) (b : Int), ds = [.int n, .int b] ∧ (n : Int) ∈ [(1 : Int), 2, 4, 8, 16, 32, 64] ∧ 0 < n ∧ n ≤ 64 ∧ Q (rowD (triI n b)) st
theorem ar_tri (ds : List D) (st : DSt) (Q : DK) (h : g_tri ds st Q) : ds.length = 2 := by
  obtain ⟨_, _, rfl, _⟩ := h
  rfl
theorem sem_tri (ds : List D) (st : DSt) (Q : DK) (h : g_tri ds st Q) : F_triangular g_pow2 { nx := fun _ st' => Rt st Q .non st', rt := Rt st Q } (startD 3 ds) st := by
  obtain ⟨n, b, rfl, m, n0, n1, q⟩ := h
  have st3 : startD 3 [D.int (n : Int), D.int b] = [some (.int n), some (.int b), none] := rfl
  have big : (1000 : Nat) ≤ sizeLine := by decide
  simp only [F_triangular, st3, e_var, e_C, e_op, e_neg, e_isN, e_notN, e_and, e_or, e_not, e_test, e_tAnd, e_tOr, e_tNot, e_tYes, e_if, e_aNil, e_aCons, e_tup, e_lst, e_lstN, e_len0, e_len1, e_len2, e_len3, e_len4, e_len5, e_cb, e_on1, e_on2, e_onI, e_onB, e_onO, e_onO0, e_onOO, e_I0, e_I, e_add, e_addT, e_addS, e_addL, e_addLR, e_addRL, e_addRR, e_mul, e_mulL, e_mulT, e_rev, e_revT, e_ix, e_eqI, e_eqS, e_eqB, e_neI, e_neS, e_neB, e_ltI, e_chain, e_len, e_abs, e_2I, e_tuple1, e_tuple2, e_tuple3, e_listT, e_listN, e_allR, e_seqT, e_seqK, e_seqL, e_isi, e_isB, e_notB, e_truth, e_next, e_drop, e_ret, e_retN, e_ifS, e_set, e_asg, e_par, e_nm, e_gsN, e_gsC, e_gTpK, e_gTpL, e_sum, e_maxL, e_minL, e_maxDef, e_int, e_intB, e_aug, e_on3, e_par3, e_newK, e_getK, e_keyI, e_keyS, e_inK, e_ninK, e_putK, e_lenK, e_lstS, e_seqX, e_gTpT, e_oN, e_oS, e_sl, e_slT, e_slL, e_finT, e_finN, e_index, e_idxT, e_idxL, e_mIx, e_ixST, e_ixSL, e_mtL, e_w, e_w1, e_w2, e_wE, e_wZ, e_itK, e_itT, e_itL, e_itT2, e_itL2, e_lc, e_for, e_wipe0, e_wipe, e_okI, e_okR, e_gSb, List.getElem?_cons_zero, List.getElem?_cons_succ, List.set_cons_zero, List.set_cons_succ]
  rw [e_seq]
  simp only [e_var, e_C, e_op, e_neg, e_isN, e_notN, e_and, e_or, e_not, e_test, e_tAnd, e_tOr, e_tNot, e_tYes, e_if, e_aNil, e_aCons, e_tup, e_lst, e_lstN, e_len0, e_len1, e_len2, e_len3, e_len4, e_len5, e_cb, e_on1, e_on2, e_onI, e_onB, e_onO, e_onO0, e_onOO, e_I0, e_I, e_add, e_addT, e_addS, e_addL, e_addLR, e_addRL, e_addRR, e_mul, e_mulL, e_mulT, e_rev, e_revT, e_ix, e_eqI, e_eqS, e_eqB, e_neI, e_neS, e_neB, e_ltI, e_chain, e_len, e_abs, e_2I, e_tuple1, e_tuple2, e_tuple3, e_listT, e_listN, e_allR, e_seqT, e_seqK, e_seqL, e_isi, e_isB, e_notB, e_truth, e_next, e_drop, e_ret, e_retN, e_ifS, e_set, e_asg, e_par, e_nm, e_gsN, e_gsC, e_gTpK, e_gTpL, e_sum, e_maxL, e_minL, e_maxDef, e_int, e_intB, e_aug, e_on3, e_par3, e_newK, e_getK, e_keyI, e_keyS, e_inK, e_ninK, e_putK, e_lenK, e_lstS, e_seqX, e_gTpT, e_oN, e_oS, e_sl, e_slT, e_slL, e_finT, e_finN, e_index, e_idxT, e_idxL, e_mIx, e_ixST, e_ixSL, e_mtL, e_w, e_w1, e_w2, e_wE, e_wZ, e_itK, e_itT, e_itL, e_itT2, e_itL2, e_lc, e_for, e_wipe0, e_wipe, e_okI, e_okR, e_gSb, List.getElem?_cons_zero, List.getElem?_cons_succ, List.set_cons_zero, List.set_cons_succ]
  refine ⟨_, rfl, m, ?_⟩
  simp only [e_var, e_C, e_op, e_neg, e_isN, e_notN, e_and, e_or, e_not, e_test, e_tAnd, e_tOr, e_tNot, e_tYes, e_if, e_aNil, e_aCons, e_tup, e_lst, e_lstN, e_len0, e_len1, e_len2, e_len3, e_len4, e_len5, e_cb, e_on1, e_on2, e_onI, e_onB, e_onO, e_onO0, e_onOO, e_I0, e_I, e_add, e_addT, e_addS, e_addL, e_addLR, e_addRL, e_addRR, e_mul, e_mulL, e_mulT, e_rev, e_revT, e_ix, e_eqI, e_eqS, e_eqB, e_neI, e_neS, e_neB, e_ltI, e_chain, e_len, e_abs, e_2I, e_tuple1, e_tuple2, e_tuple3, e_listT, e_listN, e_allR, e_seqT, e_seqK, e_seqL, e_isi, e_isB, e_notB, e_truth, e_next, e_drop, e_ret, e_retN, e_ifS, e_set, e_asg, e_par, e_nm, e_gsN, e_gsC, e_gTpK, e_gTpL, e_sum, e_maxL, e_minL, e_maxDef, e_int, e_intB, e_aug, e_on3, e_par3, e_newK, e_getK, e_keyI, e_keyS, e_inK, e_ninK, e_putK, e_lenK, e_lstS, e_seqX, e_gTpT, e_oN, e_oS, e_sl, e_slT, e_slL, e_finT, e_finN, e_index, e_idxT, e_idxL, e_mIx, e_ixST, e_ixSL, e_mtL, e_w, e_w1, e_w2, e_wE, e_wZ, e_itK, e_itT, e_itL, e_itT2, e_itL2, e_lc, e_for, e_wipe0, e_wipe, e_okI, e_okR, e_gSb, List.getElem?_cons_zero, List.getElem?_cons_succ, List.set_cons_zero, List.set_cons_succ, Bool.not_true]
  refine iteF ?_
  simp only [e_var, e_C, e_op, e_neg, e_isN, e_notN, e_and, e_or, e_not, e_test, e_tAnd, e_tOr, e_tNot, e_tYes, e_if, e_aNil, e_aCons, e_tup, e_lst, e_lstN, e_len0, e_len1, e_len2, e_len3, e_len4, e_len5, e_cb, e_on1, e_on2, e_onI, e_onB, e_onO, e_onO0, e_onOO, e_I0, e_I, e_add, e_addT, e_addS, e_addL, e_addLR, e_addRL, e_addRR, e_mul, e_mulL, e_mulT, e_rev, e_revT, e_ix, e_eqI, e_eqS, e_eqB, e_neI, e_neS, e_neB, e_ltI, e_chain, e_len, e_abs, e_2I, e_tuple1, e_tuple2, e_tuple3, e_listT, e_listN, e_allR, e_seqT, e_seqK, e_seqL, e_isi, e_isB, e_notB, e_truth, e_next, e_drop, e_ret, e_retN, e_ifS, e_set, e_asg, e_par, e_nm, e_gsN, e_gsC, e_gTpK, e_gTpL, e_sum, e_maxL, e_minL, e_maxDef, e_int, e_intB, e_aug, e_on3, e_par3, e_newK, e_getK, e_keyI, e_keyS, e_inK, e_ninK, e_putK, e_lenK, e_lstS, e_seqX, e_gTpT, e_oN, e_oS, e_sl, e_slT, e_slL, e_finT, e_finN, e_index, e_idxT, e_idxL, e_mIx, e_ixST, e_ixSL, e_mtL, e_w, e_w1, e_w2, e_wE, e_wZ, e_itK, e_itT, e_itL, e_itT2, e_itL2, e_lc, e_for, e_wipe0, e_wipe, e_okI, e_okR, e_gSb, List.getElem?_cons_zero, List.getElem?_cons_succ, List.set_cons_zero, List.set_cons_succ, rgD_length, Int.toNat_natCast]
  refine ⟨⟨by omega, by omega⟩, by omega, lc_rng (fun k => .int ((b + ((k : Int) * ((k : Int) + 1)) / 2) % (n : Int))) (fun k lt Q' q' => ?_) ?_⟩
  · simp only [e_var, e_C, e_op, e_neg, e_isN, e_notN, e_and, e_or, e_not, e_test, e_tAnd, e_tOr, e_tNot, e_tYes, e_if, e_aNil, e_aCons, e_tup, e_lst, e_lstN, e_len0, e_len1, e_len2, e_len3, e_len4, e_len5, e_cb, e_on1, e_on2, e_onI, e_onB, e_onO, e_onO0, e_onOO, e_I0, e_I, e_add, e_addT, e_addS, e_addL, e_addLR, e_addRL, e_addRR, e_mul, e_mulL, e_mulT, e_rev, e_revT, e_ix, e_eqI, e_eqS, e_eqB, e_neI, e_neS, e_neB, e_ltI, e_chain, e_len, e_abs, e_2I, e_tuple1, e_tuple2, e_tuple3, e_listT, e_listN, e_allR, e_seqT, e_seqK, e_seqL, e_isi, e_isB, e_notB, e_truth, e_next, e_drop, e_ret, e_retN, e_ifS, e_set, e_asg, e_par, e_nm, e_gsN, e_gsC, e_gTpK, e_gTpL, e_sum, e_maxL, e_minL, e_maxDef, e_int, e_intB, e_aug, e_on3, e_par3, e_newK, e_getK, e_keyI, e_keyS, e_inK, e_ninK, e_putK, e_lenK, e_lstS, e_seqX, e_gTpT, e_oN, e_oS, e_sl, e_slT, e_slL, e_finT, e_finN, e_index, e_idxT, e_idxL, e_mIx, e_ixST, e_ixSL, e_mtL, e_w, e_w1, e_w2, e_wE, e_wZ, e_itK, e_itT, e_itL, e_itT2, e_itL2, e_lc, e_for, e_wipe0, e_wipe, e_okI, e_okR, e_gSb, List.getElem?_cons_zero, List.getElem?_cons_succ, List.set_cons_zero, List.set_cons_succ]
    exact ⟨.inl ⟨by omega, by omega⟩, (by unfold CDiv; omega), by omega, q'⟩
  · refine tuple_end (.inl ?_)
    unfold rowD triI at q
    rw [List.map_map] at q
    exact q
end DL
namespace DL
open PySem PySem.Spec PyProof.Rows L2 LamX PySem.W SL
theorem R_ord (n : Nat) : Ord n (R n) := ⟨.refl _⟩
theorem o1 : Ord 1 [0] := R_ord 1
theorem t1 : ordT [0] = [[]] := by
  have tb := o1.tb
  have l := tb.len
  obtain ⟨r, e⟩ := List.length_eq_one_iff.mp l
  have rr : r = [] := by
    refine List.eq_nil_iff_forall_not_mem.mpr fun x hx => ?_
    have m := tb.inr 0 (by omega) x (by rw [e]; exact hx)
    have ii := tb.irr (a := 0) (by omega)
    refine ii ?_
    unfold Beats
    rw [e]
    have : x = 0 := by omega
    rw [this] at hx
    exact hx
  rw [e, rr]
end DL
namespace DL
open PySem PySem.Spec PyProof.Rows L2 LamX PySem.W SL
theorem tri_moved (n : Nat) (f : Int) : (triI n 0).map (fun x => (x + f) % (n : Int)) = triI n f := by
  unfold triI
  rw [List.map_map]
  refine List.map_congr_left fun i _ => ?_
  show ((0 + ((i : Int) * ((i : Int) + 1)) / 2) % (n : Int) + f) % (n : Int) = _
  rw [Int.emod_add_emod, Int.zero_add, Int.add_comm]
end DL
namespace DL
open PySem PySem.Spec PyProof.Rows L2 LamX PySem.W SL
end DL
namespace DL
open PySem PySem.Spec PyProof.Rows L2 LamX PySem.W SL
end DL
namespace ML
def step (f c : Int) : Int := if f + c - 1 > 0 then f + c - 1 else 0
def run (f : Int) (c : List Int) : Int := c.foldl step f
theorem step_mono {f g c : Int} (h : f ≤ g) : step f c ≤ step g c := by unfold step; split <;> split <;> omega
def sumL (c : List Int) : Int := c.foldr (· + ·) 0
theorem sumL_cons (x : Int) (r : List Int) : sumL (x :: r) = x + sumL r := rfl
structure Flow (n : Nat) (c f : Nat → Int) : Prop where
  per : ∀ i, f (i + n) = f i
  nn : ∀ i, 0 ≤ f i
  rec_ : ∀ i, f (i + 1) = step (f i) (c (i + 1))
  zero : ∃ z, f z = 0
theorem per_mul {n : Nat} {f : Nat → Int} (h : ∀ i, f (i + n) = f i) (i : Nat) : ∀ m, f (i + n * m) = f i
  | 0 => rfl
  | m + 1 => by rw [Nat.mul_succ, ← Nat.add_assoc, h, per_mul h i m]
theorem Flow.le {n : Nat} {c f g : Nat → Int} (F : Flow n c f) (G : Flow n c g) (n0 : 0 < n) (i : Nat) : f i ≤ g i := by
  obtain ⟨z, hz⟩ := F.zero
  have up : ∀ k, f (z + k) ≤ g (z + k) := by
    intro k
    induction k with
    | zero => rw [Nat.add_zero, hz]; exact G.nn z
    | succ k ih => rw [← Nat.add_assoc, F.rec_, G.rec_]; exact step_mono ih
  have e : i + n * (z + 1) = z + (i + n * (z + 1) - z) := by
    have : z + 1 ≤ n * (z + 1) := Nat.le_mul_of_pos_left _ n0
    omega
  rw [← per_mul F.per i (z + 1), ← per_mul G.per i (z + 1), e]
  exact up _
theorem Flow.one {n : Nat} {c f g : Nat → Int} (F : Flow n c f) (G : Flow n c g) (n0 : 0 < n) (i : Nat) : f i = g i := by
  have := F.le G n0 i
  have := G.le F n0 i
  omega
end ML
namespace ML
def sumN (n : Nat) (g : Nat → Int) : Int := match n with
  | 0 => 0
  | n + 1 => sumN n g + g n
theorem sumN_first (n : Nat) (g : Nat → Int) : sumN (n + 1) g = g 0 + sumN n (fun i => g (i + 1)) := by
  induction n with
  | zero => show (0 : Int) + g 0 = g 0 + 0; omega
  | succ n ih =>
    show sumN (n + 1) g + g (n + 1) = g 0 + (sumN n (fun i => g (i + 1)) + g (n + 1))
    rw [ih]
    omega
theorem sumN_shift {n : Nat} {g : Nat → Int} (per : g n = g 0) : sumN n (fun i => g (i + 1)) = sumN n g := by
  have a := sumN_first n g
  have b : sumN (n + 1) g = sumN n g + g n := rfl
  omega
def dist (n a i : Nat) : Nat := (i + (n - a)) % n
theorem dist_lt {n a i : Nat} (h : 0 < n) : dist n a i < n := Nat.mod_lt _ h
theorem dist_succ {n a i : Nat} (h : 0 < n) : dist n a (i + 1) = if dist n a i + 1 = n then 0 else dist n a i + 1 := by
  unfold dist
  have lt := Nat.mod_lt (i + (n - a)) h
  have e : (i + 1 + (n - a)) % n = ((i + (n - a)) % n + 1) % n := by
    rw [show i + 1 + (n - a) = (i + (n - a)) + 1 by omega]
    rw [Nat.add_mod]; simp
  rw [e]
  split
  · rename_i q; rw [q, Nat.mod_self]
  · exact Nat.mod_eq_of_lt (by omega)
theorem dist_add {n a k : Nat} (ha : a < n) (hk : k < n) : dist n a (a + k) = k := by
  unfold dist
  rw [show a + k + (n - a) = k + n by omega, Nat.add_mod_right, Nat.mod_eq_of_lt hk]
theorem dist_per {n a i : Nat} : dist n a (i + n) = dist n a i := by
  unfold dist
  rw [show i + n + (n - a) = i + (n - a) + n by omega, Nat.add_mod_right]
theorem dist_eq {n a i k : Nat} (ha : a < n) (hi : i < n) (hk : k < n) : dist n a i = k ↔ i = (a + k) % n := by
  unfold dist
  rcases Nat.lt_or_ge i a with q | q
  · rw [show i + (n - a) = n - a + i by omega, Nat.mod_eq_of_lt (by omega)]
    constructor
    · intro h
      rw [show a + k = i + n by omega, Nat.add_mod_right, Nat.mod_eq_of_lt hi]
    · intro h
      rcases Nat.lt_or_ge (a + k) n with w | w
      · rw [Nat.mod_eq_of_lt w] at h; omega
      · rw [show a + k = (a + k - n) + n by omega, Nat.add_mod_right, Nat.mod_eq_of_lt (by omega)] at h; omega
  · rw [show i + (n - a) = (i - a) + n by omega, Nat.add_mod_right, Nat.mod_eq_of_lt (by omega)]
    constructor
    · intro h
      rw [show a + k = i by omega, Nat.mod_eq_of_lt hi]
    · intro h
      rcases Nat.lt_or_ge (a + k) n with w | w
      · rw [Nat.mod_eq_of_lt w] at h; omega
      · rw [show a + k = (a + k - n) + n by omega, Nat.add_mod_right, Nat.mod_eq_of_lt (by omega)] at h; omega
def tk (c f : Nat → Int) (i : Nat) : Prop := 0 < f i + c (i + 1)
def addC (n a : Nat) (c : Nat → Int) : Nat → Int := fun i => c i + if dist n a i = 0 then 1 else 0
def addF (n a L : Nat) (f : Nat → Int) : Nat → Int := fun i => f i + if dist n a i < L then 1 else 0
theorem Flow.at_ {n : Nat} {c f : Nat → Int} (F : Flow n c f) {i : Nat} (h : tk c f i) : f (i + 1) = f i + c (i + 1) - 1 := by
  unfold tk at h
  rw [F.rec_]
  unfold step
  split <;> omega
theorem Flow.off {n : Nat} {c f : Nat → Int} (F : Flow n c f) {i : Nat} (h : ¬ tk c f i) : f (i + 1) = 0 := by
  unfold tk at h
  rw [F.rec_]
  unfold step
  split <;> omega
structure Passed (n a L : Nat) (c f : Nat → Int) : Prop where
  ha : a < n
  lt : L < n
  yes : ∀ i, dist n a (i + 1) < L → tk c f i
  no : ∀ i, dist n a (i + 1) = L → ¬ tk c f i
theorem Flow.more {n a L : Nat} {c f : Nat → Int} (F : Flow n c f) (c0 : ∀ i, 0 ≤ c i) (P : Passed n a L c f) : Flow n (addC n a c) (addF n a L f) := by
  have n0 : 0 < n := Nat.lt_of_le_of_lt (Nat.zero_le _) P.ha
  refine ⟨fun i => ?_, fun i => ?_, fun i => ?_, ?_⟩
  · unfold addF; rw [F.per, dist_per]
  · unfold addF; have := F.nn i; split <;> omega
  · unfold addF addC
    have ds := dist_succ (n := n) (a := a) (i := i) n0
    have lt0 := dist_lt (n := n) (a := a) (i := i) n0
    have ci := c0 (i + 1)
    have fi := F.nn i
    rcases Nat.lt_trichotomy (dist n a (i + 1)) L with q | q | q
    · have t := P.yes i q
      have e := F.at_ t
      unfold tk at t
      unfold step
      by_cases z : dist n a i + 1 = n
      · rw [if_pos z] at ds
        rw [if_pos q, e, if_neg (show ¬ dist n a i < L by have := P.lt; omega), if_pos ds]
        split <;> omega
      · rw [if_neg z] at ds
        rw [if_pos q, e, if_pos (show dist n a i < L by omega), if_neg (show ¬ dist n a (i + 1) = 0 by omega)]
        split <;> omega
    · have t := P.no i q
      have e := F.off t
      unfold tk at t
      unfold step
      by_cases z : dist n a i + 1 = n
      · rw [if_pos z] at ds
        rw [if_neg (show ¬ dist n a (i + 1) < L by omega), e, if_neg (show ¬ dist n a i < L by have := P.lt; omega), if_pos ds]
        split <;> omega
      · rw [if_neg z] at ds
        rw [if_neg (show ¬ dist n a (i + 1) < L by omega), e, if_pos (show dist n a i < L by omega), if_neg (show ¬ dist n a (i + 1) = 0 by omega)]
        split <;> omega
    · have z : ¬ dist n a i + 1 = n := fun z => by rw [if_pos z] at ds; omega
      rw [if_neg z] at ds
      rw [if_neg (show ¬ dist n a (i + 1) < L by omega), if_neg (show ¬ dist n a i < L by omega), if_neg (show ¬ dist n a (i + 1) = 0 by omega), F.rec_]
      simp
  · refine ⟨a + L + n, ?_⟩
    have e : a + L + n = (a + L + (n - 1)) + 1 := by omega
    have d : dist n a ((a + L + (n - 1)) + 1) = L := by rw [← e, dist_per, dist_add P.ha P.lt]
    unfold addF
    rw [e, d, F.off (P.no _ d), if_neg (Nat.lt_irrefl _)]
    rfl
theorem Flow.room {n : Nat} {c f : Nat → Int} (F : Flow n c f) (cp : ∀ i, c (i + n) = c i) (n0 : 0 < n) (h : sumN n c < n) : ∃ i, i < n ∧ ¬ tk c f i := by
  apply Classical.byContradiction
  intro no
  have all : ∀ i, i < n → tk c f i := fun i hi => Classical.byContradiction fun q => no ⟨i, hi, q⟩
  have tel : ∀ m, m ≤ n → sumN m (fun i => c (i + 1)) = f m - f 0 + m := by
    intro m
    induction m with
    | zero => intro _; show (0 : Int) = f 0 - f 0 + ((0 : Nat) : Int); omega
    | succ m ih =>
      intro hm
      show sumN m (fun i => c (i + 1)) + c (m + 1) = _
      rw [ih (by omega), F.at_ (all m (by omega))]
      omega
  have a := tel n (Nat.le_refl n)
  have b := sumN_shift (n := n) (g := c) (by have := cp 0; rw [Nat.zero_add] at this; exact this)
  have p := F.per 0
  rw [Nat.zero_add] at p
  omega
theorem Flow.way {n a : Nat} {c f : Nat → Int} (F : Flow n c f) (cp : ∀ i, c (i + n) = c i) (ha : a < n) (h : sumN n c < n) : ∃ L, Passed n a L c f := by
  have n0 : 0 < n := by omega
  obtain ⟨i, hi, no⟩ := F.room cp n0 h
  have per : ∀ j, tk c f (j + n) ↔ tk c f j := fun j => by unfold tk; rw [F.per, show j + n + 1 = j + 1 + n by omega, cp]
  -- the least distance at which a slot is not taken
  have ex : ∃ k, k < n ∧ ∃ i, dist n a (i + 1) = k ∧ ¬ tk c f i := ⟨dist n a (i + 1), dist_lt n0, i, rfl, no⟩
  have least : ∀ k, (k < n ∧ ∃ i, dist n a (i + 1) = k ∧ ¬ tk c f i) → ∃ L, (L < n ∧ ∃ i, dist n a (i + 1) = L ∧ ¬ tk c f i) ∧ ∀ j, j < L → ¬ (∃ i, dist n a (i + 1) = j ∧ ¬ tk c f i) := by
    intro k
    induction k using Nat.strongRecOn with
    | _ k ih =>
      intro hk
      by_cases q : ∃ j, j < k ∧ ∃ i, dist n a (i + 1) = j ∧ ¬ tk c f i
      · obtain ⟨j, lj, hj⟩ := q
        exact ih j lj ⟨by omega, hj⟩
      · exact ⟨k, hk, fun j lj hj => q ⟨j, lj, hj⟩⟩
  obtain ⟨k, hk⟩ := ex
  obtain ⟨L, ⟨lL, i0, e0, n0'⟩, lst⟩ := least k hk
  refine ⟨L, ha, lL, fun i q => ?_, fun i q t => ?_⟩
  · exact Classical.byContradiction fun z => lst _ q ⟨i, rfl, z⟩
  · -- the same slot, but for rounds
    have same : (i + 1) % n = (i0 + 1) % n := by
      have m1 := (dist_eq (n := n) (a := a) (i := (i + 1) % n) (k := L) ha (Nat.mod_lt _ n0) lL).mp (by
        rw [← q]; unfold dist; rw [Nat.mod_add_mod])
      have m2 := (dist_eq (n := n) (a := a) (i := (i0 + 1) % n) (k := L) ha (Nat.mod_lt _ n0) lL).mp (by
        rw [← e0]; unfold dist; rw [Nat.mod_add_mod])
      rw [m1, m2]
    have pm : ∀ (j m : Nat), tk c f (j + n * m) ↔ tk c f j := by
      intro j m
      induction m with
      | zero => exact Iff.rfl
      | succ m ih => rw [Nat.mul_succ, ← Nat.add_assoc, per]; exact ih
    have e1 := Nat.mod_add_div (i + 1) n
    have e2 := Nat.mod_add_div (i0 + 1) n
    rcases Nat.le_total ((i + 1) / n) ((i0 + 1) / n) with w | w
    · obtain ⟨m, hm⟩ := Nat.exists_eq_add_of_le w
      have : i0 = i + n * m := by
        rw [hm, Nat.mul_add] at e2
        omega
      rw [this] at n0'
      exact n0' ((pm i m).mpr t)
    · obtain ⟨m, hm⟩ := Nat.exists_eq_add_of_le w
      have : i = i0 + n * m := by
        rw [hm, Nat.mul_add] at e1
        omega
      rw [this] at t
      exact n0' ((pm i0 m).mp t)
end ML
namespace ML
end ML
namespace DL
open PySem PySem.Spec PyProof.Rows L2 LamX PySem.W SL
theorem for_list {α : Type} {I : DIt} {g : DTG} {F : DTS} {E : DEnds} {b : DSt} (enc : α → D) (W : List α → DEnv → DSt → Prop)
    (turn : ∀ x xs r st (N : DEnv → DSt → Prop), (∀ r st, Wk b (W xs) r st → N r st) → W (x :: xs) r st → okI I st (g (enc x) r st fun r1 st1 => F { nx := N, rt := E.rt, bk := E.nx, ct := N } r1 st1)) (done : ∀ r st, W [] r st → okI I st (E.nx r st)) :
    ∀ (items : List α) (r : DEnv) (st : DSt), W items r st → forL I g F E b (items.map enc) r st
  | [], r, st, h => done r st h
  | d :: ds, r, st, h => by
    refine turn d ds r st _ (fun r st w => ?_) h
    rcases w with w | ⟨r', n, h1, h2, h3, h4, h5, w⟩
    · exact .inl (for_list enc W turn done ds r st w)
    · exact .inr ⟨r', n, h1, h2, h3, h4, h5, for_list enc W turn done ds r' _ w⟩
def pairD (p : Int × Int) : D := .tup [.int p.1, .int p.2]
def Runs (rs : List (Int × Int)) (d : D) : Prop := d = .lst (rs.map pairD) ∨ d = .tup (rs.map pairD)
theorem Runs.it {rs : List (Int × Int)} {d : D} (h : Runs rs d) (st : DSt) : itOf st d = some ⟨rs.map pairD, none⟩ := by rcases h with rfl | rfl <;> rfl
theorem Runs.clo {rs : List (Int × Int)} {d : D} (h : Runs rs d) (n : Nat) : DL.clo n d = true := by
  have z : ∀ rs : List (Int × Int), clos n (rs.map pairD) = true := by
    intro rs
    induction rs with
    | nil => rfl
    | cons p r ih => rw [List.map_cons]; simp [clos, DL.clo, pairD, ih]
  rcases h with rfl | rfl <;> simp only [DL.clo] <;> exact z rs
end DL
namespace DL
open PySem PySem.Spec PyProof.Rows L2 LamX PySem.W SL
structure Cnt (c : List Int) : Prop where
  ne : c ≠ []
  few : c.length ≤ 900
  nn : ∀ x ∈ c, 0 ≤ x
  room : ML.sumL c ≤ c.length
theorem Cnt.pos {c : List Int} (h : Cnt c) : 0 < c.length := List.length_pos_iff.mpr h.ne
theorem sum_mem_le : ∀ {l : List Int}, (∀ x ∈ l, 0 ≤ x) → ∀ x ∈ l, x ≤ ML.sumL l
  | y :: r, h, x, hx => by
    have s0 : 0 ≤ ML.sumL r := by
      have : ∀ {l : List Int}, (∀ x ∈ l, 0 ≤ x) → 0 ≤ ML.sumL l := by
        intro l
        induction l with
        | nil => intro _; exact Int.le_refl 0
        | cons z l ih => intro h; rw [ML.sumL_cons]; have := ih fun x hx => h x (List.mem_cons_of_mem _ hx); have := h z List.mem_cons_self; omega
      exact this fun x hx => h x (List.mem_cons_of_mem _ hx)
    rw [ML.sumL_cons]
    rcases List.mem_cons.mp hx with z | z
    · omega
    · have := sum_mem_le (fun x hx => h x (List.mem_cons_of_mem _ hx)) x z
      have := h y List.mem_cons_self
      omega
theorem Cnt.le {c : List Int} (h : Cnt c) {x : Int} (hx : x ∈ c) : x ≤ c.length := Int.le_trans (sum_mem_le h.nn x hx) h.room
end DL
namespace DL
open PySem PySem.Spec PyProof.Rows L2 LamX PySem.W SL
section
variable {st : DSt} {p : Nat} {o o2 : O} {junk : List O} {x y z : O}
theorem pot_app (lt : p < st.length) : (st.set p o ++ junk).set p o2 = st.set p o2 ++ junk := by
  rw [List.set_append_left _ _ (by rw [List.length_set]; exact lt), List.set_set]
theorem pot_at {k : Nat} (lt : p < st.length) (h : PotO k o) : Pot k p (st.set p o ++ junk) := (Pot.set lt h).app
theorem own0 : (st.set p o ++ x :: junk)[st.length]? = some x := by
  rw [List.getElem?_append_right (by rw [List.length_set]; exact Nat.le_refl _), List.length_set, Nat.sub_self]
  rfl
theorem own1 : (st.set p o ++ x :: y :: junk)[st.length + 1]? = some y := by
  rw [List.getElem?_append_right (by rw [List.length_set]; omega), List.length_set, show st.length + 1 - st.length = 1 by omega]
  rfl
theorem put0 : (st.set p o ++ x :: junk).set st.length y = st.set p o ++ y :: junk := by
  rw [List.set_append_right _ _ (by rw [List.length_set]; exact Nat.le_refl _), List.length_set, Nat.sub_self]
  rfl
theorem put1 {w : O} : (st.set p o ++ x :: y :: junk).set (st.length + 1) w = st.set p o ++ x :: w :: junk := by
  rw [List.set_append_right _ _ (by rw [List.length_set]; omega), List.length_set, show st.length + 1 - st.length = 1 by omega]
  rfl
theorem put2 {w : O} : (st.set p o ++ x :: y :: z :: junk).set (st.length + 2) w = st.set p o ++ x :: y :: w :: junk := by
  rw [List.set_append_right _ _ (by rw [List.length_set]; omega), List.length_set, show st.length + 2 - st.length = 2 by omega]
  rfl
end
theorem ixN_lt {n j : Nat} (h : j < n) : ixN n (j : Int) = some j := by
  unfold ixN
  rw [if_pos (by omega), if_pos (by omega)]
  simp
theorem take_ev {p : Nat} {z : Int} {n : Nat} {st : DSt} {Q : DK} (pot : Pot (n + 1) p st) (z0 : 0 < z) (z1 : z ≤ 1000) (q : ∀ (r : Nat) (o : O), (r : Int) < z → PotO n o → Q (.int r) (st.set p o)) : g_take [.ref p, .int z] st Q :=
  ⟨p, z, n, rfl, pot, z0, z1, fun r o r0 r1 po => by
    obtain ⟨k, rfl⟩ := Int.eq_ofNat_of_zero_le r0
    exact q k o r1 po⟩
theorem rep_flat {α : Type} (n : Nat) (a : α) : (List.replicate n [a]).flatten = List.replicate n a := by
  induction n with
  | zero => rfl
  | succ n ih => rw [List.replicate_succ, List.flatten_cons, ih, List.replicate_succ]; rfl
end DL
namespace DL
open PySem PySem.Spec PyProof.Rows L2 LamX PySem.W SL
theorem lay_at {sl : List Int} {s : Nat} {x : Int} (h : sl[s]? = some x) : atI (sl.map D.int) (s : Int) = some (.int x) := atI_nat (by rw [List.getElem?_map, h]; rfl)
theorem At.d {sl : List Int} {s k : Nat} (h : At sl s k) : atI (sl.map D.int) (s : Int) = some (.int (k : Nat)) := lay_at h
section
variable {m n : Nat} {P : List (List Int)} {R : List (List (List Int))}
theorem Setg.s_at (S : Setg m n P R) {a i : Nat} (ha : a < m) (hi : i < n) : atI ((P.getD a []).map D.int) (i : Int) = some (.int (pr P a i : Nat)) := lay_at (S.pr_at ha hi).1
end
end DL
namespace DL
open PySem PySem.Spec PyProof.Rows L2 LamX PySem.W SL
structure Hist (m n : Nat) (h : List Nat) : Prop where
  nd : h.Nodup
  lt : ∀ k ∈ h, k < m
  few : h.length ≤ n
def layG (P : List (List Int)) (R : List (List (List Int))) (sl : List Int) (h : List Nat) : List Int := h.foldl (fun sl a => (ins P R sl a).1) sl
def emp (n : Nat) : List Int := List.replicate n (-1)
def layF (P : List (List Int)) (R : List (List (List Int))) (h : List Nat) : List Int := layG P R (emp R.length) h
section
variable {m n : Nat} {P : List (List Int)} {R : List (List (List Int))}
theorem emp_at {n s k : Nat} : ¬ At (emp n) s k := by
  unfold At emp
  rw [List.getElem?_replicate]
  split
  · intro z
    have := Option.some.inj z
    omega
  · intro z
    cases z
theorem emp_good (m n : Nat) (P : List (List Int)) : Good m n P (emp n) := by
  refine ⟨⟨by unfold emp; simp, fun x hx => ?_, fun s t k h _ => absurd h emp_at⟩, fun s k h => absurd h emp_at⟩
  unfold emp at hx
  rw [List.eq_of_mem_replicate hx]
  omega
theorem lay_room {sl : List Int} {q : List Nat} (L : Lay m n sl) (ks : ∀ s k, At sl s k → k ∈ q) (lt : q.length < n) : ∃ t, t < n ∧ sl[t]? = some (-1) := by
  apply Classical.byContradiction
  intro no
  have all : ∀ t, t < n → ∃ k, At sl t k := fun t ht => by
    rcases L.either ht with e | h
    · exact absurd ⟨t, ht, e⟩ no
    · exact h
  have nd : sl.Nodup := by
    refine List.pairwise_iff_getElem.mpr fun i j hi hj lt => ?_
    intro e
    rw [L.len] at hi hj
    obtain ⟨k, hk⟩ := all i hi
    have h2 : At sl j k := by
      unfold At at hk ⊢
      rw [List.getElem?_eq_getElem (by rw [L.len]; exact hj), ← e, ← hk, List.getElem?_eq_getElem (by rw [L.len]; exact hi)]
    have := L.inj _ _ _ hk h2
    omega
  have z := sub_len (ys := q.map fun k : Nat => (k : Int)) nd fun x hx => by
    obtain ⟨i, hi⟩ := List.mem_iff_getElem?.mp hx
    have li := (List.getElem?_eq_some_iff.mp hi).1
    rw [L.len] at li
    obtain ⟨k, hk⟩ := all i li
    have : x = (k : Int) := by
      unfold At at hk
      rw [hi] at hk
      exact Option.some.inj hk
    rw [this]
    exact List.mem_map.mpr ⟨k, ks _ _ hk, rfl⟩
  rw [List.length_map, L.len] at z
  omega
theorem step_go (S : Setg m n P R) {sl : List Int} {q : List Nat} {a : Nat} (g : Good m n P sl) (ks : ∀ k, (∃ s, At sl s k) ↔ k ∈ q) (ha : a < m) (na : a ∉ q) (lt : q.length < n) : Go m n P sl a 0 :=
  Go.start g ha (fun t h => na ((ks a).mp ⟨t, h⟩)) (lay_room g.lay (fun s k h => (ks k).mp ⟨s, h⟩) lt)
theorem step_good (S : Setg m n P R) {sl : List Int} {q : List Nat} {a : Nat} (G : Go m n P sl a 0) (ks : ∀ k, (∃ s, At sl s k) ↔ k ∈ q) : Good m n P (ins P R sl a).1 ∧ ∀ k, (∃ s, At (ins P R sl a).1 s k) ↔ k ∈ q ++ [a] := by
  have e := ins_eq S G
  obtain ⟨g, k2, _⟩ := insG_good S _ _ _ _ (ins P R sl a).1 (ins P R sl a).2 G e
  refine ⟨g, fun k => ?_⟩
  rw [k2, List.mem_append, List.mem_singleton, ks]
  exact ⟨fun h => h.elim .inr .inl, fun h => h.elim .inr .inl⟩
theorem layG_good (S : Setg m n P R) : ∀ (h q : List Nat) (sl : List Int), Good m n P sl → (∀ k, (∃ s, At sl s k) ↔ k ∈ q) → Hist m n (q ++ h) → Good m n P (layG P R sl h) ∧ ∀ k, (∃ s, At (layG P R sl h) s k) ↔ k ∈ q ++ h
  | [], q, sl, g, ks, H => by
    rw [List.append_nil]
    exact ⟨g, ks⟩
  | a :: h, q, sl, g, ks, H => by
    have nd := H.nd
    rw [List.nodup_append] at nd
    have fw := H.few
    rw [List.length_append, List.length_cons] at fw
    have G := step_go S g ks (H.lt a (by simp)) (fun z => nd.2.2 a z a (by simp) rfl) (by omega)
    obtain ⟨g2, k2⟩ := step_good S G ks
    have z := layG_good S h (q ++ [a]) _ g2 k2 (by rw [List.append_assoc]; exact H)
    rw [List.append_assoc] at z
    exact z
theorem layF_good (S : Setg m n P R) {h : List Nat} (H : Hist m n h) : Good m n P (layF P R h) ∧ ∀ k, (∃ s, At (layF P R h) s k) ↔ k ∈ h := by
  have z := layG_good S h [] (emp R.length) (by rw [S.rl]; exact emp_good m n P) (fun k => ⟨fun ⟨s, hs⟩ => absurd hs emp_at, fun h => by cases h⟩) H
  exact z
theorem layG_app (sl : List Int) (a b : List Nat) : layG P R sl (a ++ b) = layG P R (layG P R sl a) b := by unfold layG; rw [List.foldl_append]
end
end DL
namespace DL
open PySem PySem.Spec PyProof.Rows L2 LamX PySem.W SL
def Trn (m n : Nat) (R : List (List (List Int))) : Prop := ∀ s a b c, s < n → a < m → b < m → c < m → bt R s a b = true → bt R s b c = true → bt R s a c = true
section
variable {m n : Nat} {P : List (List Int)} {R : List (List (List Int))}
theorem Setg.trn (S : Setg m n P R) (all : ∀ t ∈ R, noRing t = true) : Trn m n R := fun s a b c hs ha hb hc h1 h2 => by
  have tb := S.tb hs
  have no := all _ (getD_memL (d := []) (by rw [S.rl]; exact hs) : R.getD s [] ∈ R)
  unfold bt at h1 h2 ⊢
  have h1' := of_decide_eq_true h1
  have h2' := of_decide_eq_true h2
  exact decide_eq_true (tb.trans no ha hb hc h1' h2')
def Stb (P : List (List Int)) (R : List (List (List Int))) (sl : List Int) : Prop := ∀ s k, At sl s k → ∀ j, j < rk P k s → ∀ k', At sl (pr P k j) k' → bt R (pr P k j) k' k = true
def AskB (P : List (List Int)) (R : List (List (List Int))) (sl : List Int) (a i : Nat) : Prop := ∀ j, j < i → ∀ k', At sl (pr P a j) k' → bt R (pr P a j) k' a = true
theorem pr_ne (S : Setg m n P R) {a i j : Nat} (ha : a < m) (hi : i < n) (hj : j < n) (ne : j ≠ i) : pr P a j ≠ pr P a i := fun e => by
  have := S.rk_pr ha hj
  rw [e, S.rk_pr ha hi] at this
  exact ne this.symm
theorem insG_stb (S : Setg m n P R) (T : Trn m n R) : ∀ (f : Nat) (sl : List Int) (a i : Nat) (L : List Int) (p : List (Nat × Nat)), Go m n P sl a i → Stb P R sl → AskB P R sl a i → insG P R f sl a i = some (L, p) → Stb P R L
  | 0, sl, a, i, L, p, G, _, _, h => by cases h
  | f + 1, sl, a, i, L, p, G, st, ak, h => by
    have ls := (S.pr_at G.ha G.hi).2
    have ls' : pr P a i < sl.length := by rw [G.g.lay.len]; exact ls
    rcases G.g.lay.either ls with e | ⟨k, tk⟩
    · rw [insG_free e] at h
      cases h
      intro s x hx j lj x' hx'
      rcases (at_set ls').mp hx with ⟨rfl, rfl⟩ | ⟨ne, hx⟩
      · rw [S.rk_pr G.ha G.hi] at lj
        rcases (at_set ls').mp hx' with ⟨z, _⟩ | ⟨_, hx'⟩
        · exact absurd z (pr_ne S G.ha G.hi (by have := G.hi; omega) (by omega))
        · exact ak j lj x' hx'
      · rcases (at_set ls').mp hx' with ⟨z, _⟩ | ⟨_, hx'⟩
        · obtain ⟨y, hy⟩ := G.g.ah s x hx j lj
          rw [z] at hy
          exact absurd e hy.ne
        · exact st s x hx j lj x' hx'
    · have hk := (G.g.lay.key tk).1
      have ak' : a ≠ k := fun z => by subst z; exact G.fr _ tk
      rw [insG_taken tk] at h
      by_cases b : bt R (pr P a i) a k = true
      · rw [if_pos b] at h
        obtain ⟨⟨L2, p2⟩, h2, h3⟩ := Option.map_eq_some_iff.mp h
        cases h3
        have pk := S.pr_rk hk ls
        have lr := (S.rk_at hk ls).2.1
        refine insG_stb S T f _ _ _ _ p2 (G.swap S tk) ?_ ?_ h2
        · intro s x hx j lj x' hx'
          rcases (at_set ls').mp hx with ⟨rfl, rfl⟩ | ⟨ne, hy⟩
          · rw [S.rk_pr G.ha G.hi] at lj
            rcases (at_set ls').mp hx' with ⟨z, _⟩ | ⟨_, hx'⟩
            · exact absurd z (pr_ne S G.ha G.hi (by have := G.hi; omega) (by omega))
            · exact ak j lj x' hx'
          · rcases (at_set ls').mp hx' with ⟨z, ex⟩ | ⟨_, hx'⟩
            · rw [z, ex]
              have q := st s x hy j lj k (by rw [z]; exact tk)
              rw [z] at q
              exact T _ _ _ _ ls G.ha hk (G.g.lay.key hy).1 b q
            · exact st s x hy j lj x' hx'
        · intro j lj x' hx'
          rcases Nat.lt_or_ge j (rk P k (pr P a i)) with w | w
          · rcases (at_set ls').mp hx' with ⟨z, _⟩ | ⟨_, hx'⟩
            · have := S.rk_pr hk (i := j) (by omega)
              rw [z] at this
              omega
            · exact st _ k tk j w x' hx'
          · rw [show j = rk P k (pr P a i) by omega, pk] at hx' ⊢
            rcases (at_set ls').mp hx' with ⟨_, rfl⟩ | ⟨z, _⟩
            · exact b
            · exact absurd rfl z
      · rw [if_neg b] at h
        refine insG_stb S T f _ _ _ L p (G.on S tk) st ?_ h
        intro j lj x' hx'
        rcases Nat.lt_or_ge j i with w | w
        · exact ak j w x' hx'
        · rw [show j = i by omega] at hx' ⊢
          rw [hx'.one tk, S.bt_not ls hk G.ha ak'.symm]
          simpa using b
structure Fix (m n : Nat) (P : List (List Int)) (R : List (List (List Int))) (K : Nat → Prop) (M : List Int) : Prop where
  g : Good m n P M
  ks : ∀ k, K k → ∃ s, At M s k
  st : Stb P R M
def Below (P : List (List Int)) (K : Nat → Prop) (M sl : List Int) : Prop := ∀ s k, At sl s k → K k ∧ ∀ u, At M u k → rk P k s ≤ rk P k u
theorem lose (S : Setg m n P R) {K : Nat → Prop} {M : List Int} (F : Fix m n P R K M) {t w x : Nat} (ht : t < n) (hw : w < m) (hx : x < m) (ne : w ≠ x) (kw : K w) (b : bt R t w x = true) (lw : ∀ u, At M u w → rk P w t ≤ rk P w u) : ¬ At M t x := fun hM => by
  obtain ⟨v, hv⟩ := F.ks w kw
  have hvn := (F.g.lay.key hv).2
  have vt : v ≠ t := fun z => by rw [z] at hv; exact ne (hv.one hM)
  have l1 := lw v hv
  have l2 : rk P w t ≠ rk P w v := fun z => vt (S.rk_inj hw ht hvn z).symm
  have q := F.st v w hv (rk P w t) (by omega) x (by rw [S.pr_rk hw ht]; exact hM)
  rw [S.pr_rk hw ht, S.bt_not ht hx hw ne.symm, b] at q
  cases q
theorem insG_below (S : Setg m n P R) {K : Nat → Prop} {M : List Int} (F : Fix m n P R K M) : ∀ (f : Nat) (sl : List Int) (a i : Nat) (L : List Int) (p : List (Nat × Nat)), Go m n P sl a i → Below P K M sl → K a → (∀ u, At M u a → i ≤ rk P a u) → insG P R f sl a i = some (L, p) → Below P K M L
  | 0, sl, a, i, L, p, G, _, _, _, h => by cases h
  | f + 1, sl, a, i, L, p, G, bl, ka, la, h => by
    have ls := (S.pr_at G.ha G.hi).2
    have ls' : pr P a i < sl.length := by rw [G.g.lay.len]; exact ls
    have ra := S.rk_pr G.ha G.hi
    have put : Below P K M (sl.set (pr P a i) (a : Int)) := fun s x hx => by
      rcases (at_set ls').mp hx with ⟨rfl, rfl⟩ | ⟨_, hx⟩
      · rw [ra]; exact ⟨ka, la⟩
      · exact bl s x hx
    rcases G.g.lay.either ls with e | ⟨k, tk⟩
    · rw [insG_free e] at h
      cases h
      exact put
    · have hk := (G.g.lay.key tk).1
      have ak' : a ≠ k := fun z => by subst z; exact G.fr _ tk
      obtain ⟨kk, lk⟩ := bl _ _ tk
      rw [insG_taken tk] at h
      by_cases b : bt R (pr P a i) a k = true
      · rw [if_pos b] at h
        obtain ⟨⟨L2, p2⟩, h2, h3⟩ := Option.map_eq_some_iff.mp h
        cases h3
        refine insG_below S F f _ _ _ _ p2 (G.swap S tk) put kk (fun u hu => ?_) h2
        have l1 := lk u hu
        have no := lose S F ls G.ha hk ak' ka b (fun u hu => by rw [ra]; exact la u hu)
        have l2 : rk P k (pr P a i) ≠ rk P k u := fun z => no (by rw [S.rk_inj hk ls (F.g.lay.key hu).2 z]; exact hu)
        omega
      · rw [if_neg b] at h
        refine insG_below S F f _ _ _ L p (G.on S tk) bl ka (fun u hu => ?_) h
        have l1 := la u hu
        have b2 : bt R (pr P a i) k a = true := by
          rw [S.bt_not ls hk G.ha ak'.symm]
          simpa using b
        have no := lose S F ls hk G.ha ak'.symm kk b2 lk
        have l2 : i ≠ rk P a u := fun z => no (by
          have : rk P a (pr P a i) = rk P a u := by rw [ra]; exact z
          rw [S.rk_inj G.ha ls (F.g.lay.key hu).2 this]
          exact hu)
        omega
theorem emp_stb : Stb P R (emp n) := fun s k h => absurd h emp_at
theorem layG_stb (S : Setg m n P R) (T : Trn m n R) : ∀ (h q : List Nat) (sl : List Int), Good m n P sl → (∀ k, (∃ s, At sl s k) ↔ k ∈ q) → Hist m n (q ++ h) → Stb P R sl → Stb P R (layG P R sl h)
  | [], q, sl, g, ks, H, st => st
  | a :: h, q, sl, g, ks, H, st => by
    have nd := H.nd
    rw [List.nodup_append] at nd
    have fw := H.few
    rw [List.length_append, List.length_cons] at fw
    have G := step_go S g ks (H.lt a (by simp)) (fun z => nd.2.2 a z a (by simp) rfl) (by omega)
    obtain ⟨g2, k2⟩ := step_good S G ks
    exact layG_stb S T h (q ++ [a]) _ g2 k2 (by rw [List.append_assoc]; exact H) (insG_stb S T _ _ _ _ _ _ G st (fun j lj => absurd lj (Nat.not_lt_zero _)) (ins_eq S G))
theorem layF_stb (S : Setg m n P R) (T : Trn m n R) {h : List Nat} (H : Hist m n h) : Stb P R (layF P R h) :=
  layG_stb S T h [] (emp R.length) (by rw [S.rl]; exact emp_good m n P) (fun k => ⟨fun ⟨s, hs⟩ => absurd hs emp_at, fun h => by cases h⟩) H (by rw [S.rl]; exact emp_stb)
theorem layG_below (S : Setg m n P R) {K : Nat → Prop} {M : List Int} (F : Fix m n P R K M) : ∀ (h q : List Nat) (sl : List Int), Good m n P sl → (∀ k, (∃ s, At sl s k) ↔ k ∈ q) → Hist m n (q ++ h) → (∀ k ∈ h, K k) → Below P K M sl → Below P K M (layG P R sl h)
  | [], q, sl, g, ks, H, _, st => st
  | a :: h, q, sl, g, ks, H, hK, bl => by
    have nd := H.nd
    rw [List.nodup_append] at nd
    have fw := H.few
    rw [List.length_append, List.length_cons] at fw
    have G := step_go S g ks (H.lt a (by simp)) (fun z => nd.2.2 a z a (by simp) rfl) (by omega)
    obtain ⟨g2, k2⟩ := step_good S G ks
    exact layG_below S F h (q ++ [a]) _ g2 k2 (by rw [List.append_assoc]; exact H) (fun k hk => hK k (List.mem_cons_of_mem _ hk)) (insG_below S F _ _ _ _ _ _ G bl (hK a List.mem_cons_self) (fun _ _ => Nat.zero_le _) (ins_eq S G))
theorem layF_fix (S : Setg m n P R) (T : Trn m n R) {h : List Nat} (H : Hist m n h) : Fix m n P R (· ∈ h) (layF P R h) := ⟨(layF_good S H).1, fun k hk => ((layF_good S H).2 k).mpr hk, layF_stb S T H⟩
theorem layF_below (S : Setg m n P R) {K : Nat → Prop} {M : List Int} (F : Fix m n P R K M) {h : List Nat} (H : Hist m n h) (hK : ∀ k ∈ h, K k) : Below P K M (layF P R h) :=
  layG_below S F h [] (emp R.length) (by rw [S.rl]; exact emp_good m n P) (fun k => ⟨fun ⟨s, hs⟩ => absurd hs emp_at, fun h => by cases h⟩) H hK (fun s k hk => by rw [S.rl] at hk; exact absurd hk emp_at)
theorem layF_any (S : Setg m n P R) (T : Trn m n R) {h h2 : List Nat} (H : Hist m n h) (H2 : Hist m n h2) (same : ∀ k, k ∈ h ↔ k ∈ h2) : layF P R h = layF P R h2 := by
  have b1 := layF_below S (layF_fix S T H2) H (fun k hk => (same k).mp hk)
  have b2 := layF_below S (layF_fix S T H) H2 (fun k hk => (same k).mpr hk)
  obtain ⟨g1, k1⟩ := layF_good S H
  obtain ⟨g2, k2⟩ := layF_good S H2
  have half : ∀ s k, At (layF P R h) s k → At (layF P R h2) s k := fun s k hs => by
    obtain ⟨u, hu⟩ := (k2 k).mpr ((same k).mp ((k1 k).mp ⟨s, hs⟩))
    have l1 := (b1 s k hs).2 u hu
    have l2 := (b2 u k hu).2 s hs
    have hk := (g1.lay.key hs).1
    have e := S.rk_inj hk (g1.lay.key hs).2 (g2.lay.key hu).2 (by omega)
    rw [e]
    exact hu
  refine List.ext_getElem? fun s => ?_
  by_cases ls : s < n
  · rcases g1.lay.either ls with e | ⟨k, hk⟩
    · rcases g2.lay.either ls with e2 | ⟨k, hk⟩
      · rw [e, e2]
      · obtain ⟨u, hu⟩ := (k1 k).mpr ((same k).mpr ((k2 k).mp ⟨s, hk⟩))
        have := g2.lay.inj _ _ _ (half u k hu) hk
        rw [this] at hu
        exact absurd e hu.ne
    · have := half s k hk
      unfold At at hk this
      rw [hk, this]
  · rw [List.getElem?_eq_none (by rw [g1.lay.len]; omega), List.getElem?_eq_none (by rw [g2.lay.len]; omega)]
end
end DL
namespace DL
open PySem PySem.Spec PyProof.Rows L2 LamX PySem.W SL
section
variable {T : List (Addr × Str)} {X : Cx} {a b : Expr} {fa fb : DTE} {pos : Pos}
end
end DL
namespace DL
open PySem PySem.Spec PyProof.Rows L2 LamX PySem.W SL
def onT (x : D) (k : List D → Prop) : Prop := match x with | .tup xs => k xs | _ => False
theorem onT.of {x : D} {k : List D → Prop} (h : onT x k) : ∃ xs, x = .tup xs ∧ k xs := by
  cases x with
  | tup xs => exact ⟨xs, rfl, h⟩
  | _ => exact h.elim
theorem e_onT {xs : List D} {k : List D → Prop} : onT (.tup xs) k = k xs := rfl
section
variable {T : List (Addr × Str)} {X : Cx}
end
end DL
namespace DL
open PySem PySem.Spec PyProof.Rows L2 LamX PySem.W SL
section
variable {T : List (Addr × Str)} {X : Cx} {K : Frag} {a b : Expr} {fa fb : DTE} {pos : Pos}
end
end DL
namespace SL
open PySem PySem.Spec PyProof.Rows L2
section
variable {prog : Program} {w : World} {A : Around} {R : Result → Shared → Prop} {itr : Addr} {seen mv : List Addr} {n : Nat} {Pk : Nat → Value → Prop} {Stt : Nat → Heap → Prop}
end
section
variable {prog : Program} {w : World} {A : Around} {E : Value → Shared → Prop} {s : Shared}
end
end SL
namespace DL
open PySem PySem.Spec PyProof.Rows L2 LamX PySem.W SL
section
variable {X : Cx}
end
end DL
namespace SL
open PySem PySem.Spec PyProof.Rows L2
section
variable {prog : Program} {w : World} {A : Around} {E : Value → Shared → Prop} {s : Shared}
end
section
variable {prog : Program} {w : World} {A : Around} {R : Result → Shared → Prop}
end
section
variable {prog : Program} {w : World} {A : Around} {E : Value → Shared → Prop} {s : Shared}
end
end SL
namespace SL
open PySem PySem.Spec PyProof.Rows L2
structure NewE (H H2 : Hp) (box : Addr) (xs : List V) (ps : List Addr) : Prop where
  len : ps.length = xs.length
  nd : ps.Nodup
  nb : H box = none
  np : ∀ p ∈ ps, p ≠ box ∧ H p = none
  box_ : H2 box = some (.lst (ps.map V.ref))
  pair : ∀ (j : Nat) (p : Addr) (x : V), ps[j]? = some p → xs[j]? = some x → H2 p = some (.tup [.int (j : Nat), x])
  old : ∀ b, b ≠ box → b ∉ ps → H2 b = H b
theorem NewE.ext {H H2 : Hp} {box : Addr} {xs : List V} {ps : List Addr} (N : NewE H H2 box xs ps) {b : Addr} {o : HO} (e : H b = some o) : H2 b = some o := by
  rw [N.old b (fun z => by rw [z, N.nb] at e; cases e) (fun z => by rw [(N.np b z).2] at e; cases e)]
  exact e
section
variable {X : Cx} {pins : List (Addr × Obj)} {σ : L2.St} {H : Hp} {s : Shared}
end
end SL
namespace DL
open PySem PySem.Spec PyProof.Rows L2 LamX PySem.W SL
def dLEnum (fs : DTA) : DTE := fun r st Q => fs r st fun ds st1 => on1 ds fun x => match x with
  | .tup xs => Q (.lst (enumD xs)) st1
  | _ => False
@[simp] theorem e_lenum {fs : DTA} {r : DEnv} {st : DSt} {Q : DK} : dLEnum fs r st Q = fs r st fun ds st1 => on1 ds fun x => match x with
  | .tup xs => Q (.lst (enumD xs)) st1
  | _ => False := rfl
section
variable {T : List (Addr × Str)} {X : Cx}
end
end DL
set_option maxHeartbeats 2000000
namespace SL
open PySem PySem.Spec PyProof.Rows L2
def ExK (cls : Value) (d : Option Addr) (a : Addr) : HO := .ext fun h => ∃ (oe : Obj) (vs : Array Value), h.get? a = some oe ∧ Zc cls d oe ∧ oe.data = .fields vs
section
variable {X : Cx} {pins : List (Addr × Obj)} {σ : L2.St} {H : Hp} {s : Shared} {a : Addr} {oe : Obj} {cls : Value} {d : Option Addr}
end
section
variable {X : Cx} {x n m : Str} {c : Value} {i j : Nat} {body : List Stmt} {np pos pos' p1 p2 p3 : Pos} {tb : WX → TS}
end
end SL
set_option maxHeartbeats 2000000
namespace DL
open PySem PySem.Spec PyProof.Rows L2 LamX PySem.W SL
abbrev Fld := Option (Str × Int)
def ExD (H : Hp) (fld : Fld) (d : Option Addr) : Prop := match fld with
  | none => d = none
  | some (n, i) => ∃ dd, d = some dd ∧ H dd = some (.xd [(n, .int i)])
def Wish (T : List (Addr × Str)) (K : Frag) (mg : Str → Option Value) (M : Pl) (H : Hp) (st : DSt) (C : Str) (fld : Fld) (E : XK) : Prop :=
  ∀ (M' : Pl) (H' : Hp) (cls : Value) (d : Option Addr), Grow M H M' H' → RS T K M' st H' → mg C = some cls → ExD H' fld d → E cls d H'
theorem Wish.grow {T : List (Addr × Str)} {K : Frag} {mg : Str → Option Value} {M M1 : Pl} {H H1 : Hp} {st : DSt} {C : Str} {fld : Fld} {E : XK} (w : Wish T K mg M H st C fld E) (g : Grow M H M1 H1) : Wish T K mg M1 H1 st C fld E :=
  fun M' H' cls d g1 s m x => w M' H' cls d (g.trans g1) s m x
section
variable {T : List (Addr × Str)} {X : Cx} {M0 : Pl} {H0 : Hp} {s1 : Stmt} {rest a b : List Stmt} {F1 : DTS} {B B2 : DEnv → DSt → Prop} {c : Expr} {t : DTT} {pos : Pos}
end
section
variable {P : Program} {w : World} {K : Frag} {mg : Str → Option Value} {base : Heap}
end
section
variable {T : List (Addr × Str)} {X : Cx} {M0 : Pl} {H0 : Hp} {st0 : DSt} {C n : Str} {i : Int} {E : XK} {e : Expr} {f : DTE} {p pos rpos : Pos}
end
section
variable {P : Program} {w : World} {K : Frag} {mg : Str → Option Value} {base : Heap}
end
section
variable {P : Program} {w : World} {K : Frag} {mg : Str → Option Value} {base : Heap} {T : List (Addr × Str)}
end
end DL
set_option maxHeartbeats 2000000
namespace SL
open PySem PySem.Spec PyProof.Rows L2 LamX
def Kept (H : Hp) (a C : Addr) (d : Option Addr) : Prop := H a = some (ExK (.ref C) d a) ∧ (d = none ∨ ∃ dd fs, d = some dd ∧ H dd = some (.xd fs))
structure Kcl (K : PySem.W.Frag) (C : Addr) : Prop where
  is_ : ExcC K C
  xf : XfC K C
section
variable {X : Cx}
structure Sit (σ : L2.St) (H : Hp) (a C : Addr) (d : Option Addr) (p : Addr) (xs : List V) : Prop where
  s1 : σ[1]? = some (some (.ref a))
  s2 : σ[2]? = some (some (.ref p))
  kept : Kept H a C d
  lst : H p = some (.lst xs)
  few : xs.length ≤ 9
section
variable {cN fN Cj lab fld : Str} {v1 : Vis X.env.scope cN} {q1 q2 q3 q4 q5 q6 q7 q8 q9 pos : Pos} {kk : Nat} {cj : Addr}
end
end
end SL
set_option maxHeartbeats 2000000
namespace SL
open PySem PySem.Spec PyProof.Rows L2 LamX
section
variable {X : Cx} {pins : List (Addr × Obj)} {σ : L2.St} {H HZ : Hp} {s s1 : Shared} {W : WX} {E : XK}
end
end SL
set_option maxHeartbeats 2000000
namespace SL
open PySem PySem.Spec PyProof.Rows L2 LamX
open DL (Fld PS.imp PSs.imp PE.imp)
def fHeld (H : Hp) (d : Option Addr) : Fld → Prop
  | none => True
  | some (n, i) => ∃ dd, d = some dd ∧ H dd = some (.xd [(n, .int i)])
def fVal : Fld → V
  | none => .non
  | some (_, i) => .int i
def T0 (K : PySem.W.Frag) (C : Addr) (lab : Str) (fld : Fld) : TS := fun D σ H => ∃ a d p, Sit σ H a C d p [] ∧ Kcl K C ∧ fHeld H d fld ∧ ∀ q, H q = none → D.rt (.ref q) (upd (upd H q (.tup [.str lab, fVal fld])) p (.lst [.ref q]))
def T1 (K : PySem.W.Frag) (C : Addr) : TS := fun D σ H => ∃ a d p q, Sit σ H a C d p [.ref q] ∧ Kcl K C ∧ D.rt (.ref q) H
section
variable {X : Cx} {C : Addr} {lab : Str} {fld : Fld} {rest body : List Stmt} {pos q1 q2 q3 q4 q5 q6 q7 q8 q9 : Pos} {cN fN : Str} {e e2 : Expr} {c : V} {cv : Value}
end
section
variable {X : Cx} {C CS : Addr} {lab : Str} {fld : Fld}
end
end SL
set_option maxHeartbeats 2000000
namespace DL
open PySem PySem.Spec PyProof.Rows L2 LamX PySem.W SL
section
variable {T : List (Addr × Str)} {X : Cx}
end
end DL
set_option maxHeartbeats 2000000
namespace DL
open PySem PySem.Spec PyProof.Rows L2 LamX PySem.W SL
section
variable {T : List (Addr × Str)} {X : Cx}
end
section
variable {K : Frag}
theorem kit_ty {c : Addr} {T : String} {b : Bool} (hm : kitMeta T = true) (h3 : subIn K (.ref c) (.type T) = some b) : kitOne K (.ref c) (.type T) = some b := by
  have n2 : ((Value.ref c) == Value.type T) = false := by
    cases h : ((Value.ref c) == Value.type T) with
    | false => rfl
    | true => exact absurd (beq_iff_eq.mp h) (fun z => nomatch z)
  unfold kitOne
  rw [n2, if_neg Bool.false_ne_true]
  show (if kitMeta T = true then subIn K (.ref c) (.type T) else none) = some b
  rw [if_pos hm]
  exact h3
end
end DL
set_option maxHeartbeats 2000000
namespace DL
open PySem PySem.Spec PyProof.Rows L2 LamX PySem.W SL
section
variable {T : List (Addr × Str)} {X : Cx} {M0 : Pl} {H0 : Hp} {B : DEnv → DSt → Prop} {e : Expr} {pos : Pos}
end
end DL
namespace SL
open PySem PySem.Spec PyProof.Rows L2 LamX DL
def T2 (K : PySem.W.Frag) (C : Addr) (n : Str) (i : Int) : TS := fun D σ H => ∃ a dd, σ[1]? = some (some (.ref a)) ∧ H a = some (ExK (.ref C) (some dd) a) ∧ H dd = some (.xd [(n, .int i)]) ∧ Kcl K C ∧ D.rt (.int i) H
section
variable {X : Cx} {C CS : Addr} {n : Str} {i : Int}
end
end SL
set_option maxHeartbeats 2000000
namespace SL
open PySem PySem.Spec PyProof.Rows L2 LamX DL
section
variable {X : Cx} {C : Addr} {n : Str} {i : Int}
end
end SL
namespace DL
open PySem PySem.Spec PyProof.Rows L2 LamX PySem.W SL
section
variable {T : List (Addr × Str)} {X : Cx}
end
end DL
set_option maxHeartbeats 2000000
namespace DL
open PySem PySem.Spec PyProof.Rows L2 LamX PySem.W SL
section
variable {T : List (Addr × Str)} {X : Cx} {M0 : Pl} {H0 : Hp} {st : Stmt} {rest a b : List Stmt} {F G : DTS} {c : Expr} {t : DTT} {pos : Pos}
end
end DL
set_option maxHeartbeats 2000000
namespace DL
open PySem PySem.Spec PyProof.Rows L2 LamX PySem.W SL
section
variable {T : List (Addr × Str)} {X : Cx} {M0 : Pl} {H0 : Hp} {B : DEnv → DSt → Prop} {e : Expr} {es : List Expr} {f : DTE} {pos : Pos}
end
end DL
set_option maxHeartbeats 2000000
namespace SL
open PySem PySem.Spec PyProof.Rows L2
theorem type_kw {M : Model} {A : Around} {E : Value → Shared → Prop} {s : Shared} {env : Env} {pos : Pos} {T : String} {e : Expr} {rest : List Expr} {kws : List Keyword} {Q : Value → Shared → Prop}
    (h : wpAny M A (spliced (backTo pos (starEach (e :: rest) env))) (fun vs s₁ => wpAny M A (evalAll ((backToKw pos (keywordEach kws env)).map (·.2)))
      (fun kvs s₂ => wpAny M A (call (.type T) vs (((backToKw pos (keywordEach kws env)).filterMap (·.1)).zip kvs)) Q E s₂) E s₁) E s)
    (he : backTo pos (starEach (e :: rest) env) = (false, eval e env) :: backTo pos (starEach rest env) := by rfl)
    (hplain : (backTo pos (starEach (e :: rest) env)).any (·.1) = false := by rfl)
    (hall : (backToKw pos (keywordEach kws env)).all (·.1.isSome) = true := by rfl)
    (hkw : (backToKw pos (keywordEach kws env)).any (·.1.isNone) = false := by rfl) :
    wpAny M A (callWith pos (.type T) [] (backTo pos (starEach (e :: rest) env)) (backToKw pos (keywordEach kws env))) Q E s := by
  have h2 : wpAny M A (evalArgs (.type T) true (backTo pos (starEach (e :: rest) env)) (backToKw pos (keywordEach kws env))) (fun a s₁ => wpAny M A (call (.type T) ([] ++ a.pos) a.kw) Q E s₁) E s := by
    rw [he] at h ⊢
    exact evalArgs_kwB hall h
  unfold callWith
  refine wpAny_bind (wpAny_holding (wpAny_mono h2 (fun a s₁ h₁ => wpAny_bind (wpAny_standAt ?_)) fun _ _ x => x))
  simp only [hplain, hkw, Bool.or_false]
  refine wpAny_bind (wpAny_pure ?_)
  exact wpAny_bind (wpAny_mono h₁ (fun r s₂ hr => wpAny_bind (wpAny_holding (wpAny_point (wpAny_pure hr)))) fun _ _ x => x)
def IteK (K : PySem.W.Frag) (a : Addr) (k : Nat) : It :=
  ⟨fun i H => ∃ (xs : List V) (x : V), SqT K H a xs ∧ xs[i]? = some x, fun i H v H' => ∃ T x, v = .ref T ∧ H T = none ∧ H' = upd H T (.tup [.int ((i + k : Nat) : Int), x]) ∧ ∀ xs, SqT K H a xs → xs[i]? = some x,
    fun i H => ∃ xs : List V, SqT K H a xs ∧ xs.length = i⟩
theorem turn_enumK {P : Program} {w : World} {K : PySem.W.Frag} {elts : List Expr} {kk : Nat} {tpos : Pos} (a e it : Addr) (k : Nat) :
    Turn P w K (.Tuple elts kk tpos) (IteK K a k) [e, it] e (fun i h => (∃ old, IsEnum h e it ((i + k : Nat) : Int) old) ∧ h.IsTupleIter it a i ∧ e ≠ it ∧ a ≠ it ∧ a ≠ e) where
  mem := by simp
  obj := by
    rintro i h ⟨⟨old, he⟩, ⟨o, ho, hc, hd⟩, _⟩ b hb
    have cs : b = e ∨ b = it := by simpa using hb
    rcases cs with z | z
    · rw [z]
      exact ⟨_, he, fun v q => nomatch q⟩
    · rw [z]
      exact ⟨o, ho, fun v q => by rw [hd] at q; cases q⟩
  keep := by
    rintro i h h' ⟨⟨old, he⟩, hi, r⟩ k
    exact ⟨⟨old, k e (by simp) _ he⟩, hi.at fun o q => k it (by simp) o q, r⟩
  item := by
    rintro X rfl rfl rfl calm i pins s σ H E I hf ⟨⟨old, he⟩, hit, hne, ai, ae⟩ ⟨xs, x, hq, hx⟩
    obtain ⟨its, rv, ht, hz⟩ := I.tuple hq
    obtain ⟨u, hu, ru⟩ := rv.get hx
    have hel : e < s.heap.objs.size := Heap.lt_size he
    have hil : it < s.heap.objs.size := by
      obtain ⟨_, q, _⟩ := hit
      exact Heap.lt_size q
    have li : i < its.toArray.size := by
      rw [List.size_toArray]
      exact (List.getElem?_eq_some_iff.mp hu).1
    have dr := Draws.tuple (prog := X.prog) (w := X.w) (A := X.A.in1) (show X.A.in1.handled = none from I.ok.hd calm) it a ai its.toArray
    refine wpAny_pyNext_enum_itemC dr he ⟨hit, ht⟩ li hne (by simp [hne, Ne.symm ae]) fun y h' tk hy ho st' hT hsz hk => ?_
    have ey : y = u := by
      have z : its[i]? = some y := by simpa using hy
      rw [hu] at z
      exact (Option.some.inj z).symm
    subst ey
    refine ⟨_, rfl, wpAny_letOwnedTupleGo_enum (s := { s with heap := h', toks := tk + 1 }) ho fun h'' he' sb => ?_⟩
    have hT2 : h''.get? s.heap.objs.size = some { cls := .type "tuple", data := .seq #[.int ((i + k : Nat) : Int) tk, y] } := (sb.2 _ (Nat.ne_of_gt hel)).trans hT
    have fresh : ObjOk X.prog X.w (upd H s.heap.objs.size (.tup [.int ((i + k : Nat) : Int), x])) h'' s.heap.objs.size (.tup [.int ((i + k : Nat) : Int), x]) :=
      ⟨by show 2 ≤ sizeLine; decide, [.int ((i + k : Nat) : Int) tk, y], .cons ⟨_, rfl⟩ (.cons ru .nil), ⟨_, hT2, rfl, _, rfl⟩⟩
    have I1 : Inv X pins σ (upd H s.heap.objs.size (.tup [.int ((i + k : Nat) : Int), x])) { s with heap := h'', toks := tk + 1 } :=
      I.turnedNew (ch := [e, it]) (fun b ob hb q => (sb.2 b (fun z => hb (by simp [z]))).trans (hk b ob (fun z => hb (by simp [z])) (fun z => hb (by simp [z])) q)) hf (Nat.le_refl _) fresh
    refine ⟨.ref s.heap.objs.size, _, I1, rfl, ⟨_, x, rfl, I.hok.fresh (Nat.le_refl _), rfl, fun ys hy => by rw [I.tuple_inj hy hq]; exact hx⟩, ⟨⟨y, ?_⟩, st'.1.at fun o q => (sb.2 it (Ne.symm hne)).trans q, hne, ai, ae⟩, fun b hb => ?_⟩
    · rw [show ((i + 1 + k : Nat) : Int) = ((i + k : Nat) : Int) + 1 by omega]
      exact he'
    · have hb' : b < s.heap.objs.size := by
        have cs : b = e ∨ b = it := by simpa using hb
        rcases cs with z | z
        · rw [z]
          exact hel
        · rw [z]
          exact hil
      rw [upd_ne (Nat.ne_of_lt hb')]
      exact (hf b hb).1
  done := by
    rintro X rfl rfl rfl calm i pins s σ H E I hf ⟨⟨old, he⟩, hit, hne, ai, ae⟩ ⟨xs, hq, hx⟩
    obtain ⟨its, rv, ht, hz⟩ := I.tuple hq
    obtain ⟨f0, f1, f2, f3, f4, f5⟩ := hf it (by simp)
    have si : its.toArray.size = i := by rw [List.size_toArray, ← rv.length]; exact hx
    have dr := Draws.tuple (prog := X.prog) (w := X.w) (A := X.A.in1) (show X.A.in1.handled = none from I.ok.hd calm) it a ai its.toArray
    exact wpAny_pyNext_enum_endD dr he ⟨by rw [si]; exact hit, ht⟩ fun h' eb => ⟨rfl, I.turned (t' := s.toks) (fun b o hb q => eb b o hb q) f0 f1 f3 f4 f5⟩
  self := fun A i s Q E st h => let ⟨⟨_, he⟩, _⟩ := st; wpAny_pyIter_enum he h
def iEnumK (K : PySem.W.Frag) (k : Nat) (ta : TA) : TI := fun σ H R => ta σ H fun vs H1 => ∃ a, vs = [.ref a] ∧ (∃ xs, SqT K H1 a xs) ∧ R (IteK K a k) H1
theorem pi_enumK {X : Cx} {e : Expr} {ta : TA} {k : Nat} {j0 : Nat} {p pos tpos kp cp : Pos} {elts : List Expr} {kk : Nat} (k9 : (k : Int) < 2 ^ 63) (g1 : Gl X "enumerate") (m1 : X.mg "enumerate" = none) (ha : PA X [e] ta) (one : starEach [e] X.env = [(false, eval e X.env)] := by rfl) :
    PI X (.Tuple elts kk tpos) (.Call (.Name "enumerate" p) [e] [⟨some "start", .Constant (.int (k : Nat)) j0 cp, kp⟩] pos) (iEnumK X.K k ta) := by
  constructor
  intro pins s σ H R I h
  refine wpAny_Call_Name_kw (ld_blt I g1 m1 boot_enumerate (type_kw (thn (ha.run pos pins s σ H _ I h) ?_) (by rw [one]; rfl) (by rw [one]; rfl)))
  rintro us s1 ⟨vs, H1, I1, r1, a, rfl, ⟨xs, hq⟩, q⟩
  refine kws_cons (thn ((pe_int (i := (k : Int)) (j := j0) (pos := cp)).run pins s1 σ H1 (fun v H2 => v = .int (k : Int) ∧ H2 = H1) I1 ⟨rfl, rfl⟩) ?_)
  rintro u s2 ⟨v, H2, I2, rv2, rfl, rfl⟩
  obtain ⟨tk, rfl⟩ := rv2
  refine kws_nil ?_
  cases r1 with
  | cons r rr =>
    cases rr
    cases r
    obtain ⟨its, rv, ht, hz⟩ := I2.tuple hq
    have ht' : s2.heap.IsTuple a its.toArray := ht
    have al : a < s2.heap.objs.size := by obtain ⟨_, e, _⟩ := ht'; exact Heap.lt_size e
    refine enum_begins_start (begins_tuple a its.toArray) ht' (by omega) k9 fun h' he hit hsz kept => wpAny_pyIter_enum he ?_
    have I3 : Inv X pins σ H2 { s2 with heap := h' } := I2.kept (t' := s2.toks) kept
    refine ⟨s2.heap.objs.size + 1, [s2.heap.objs.size + 1, s2.heap.objs.size], _, _, H2, rfl, I3, turn_enumK a (s2.heap.objs.size + 1) s2.heap.objs.size k, ⟨⟨.none, by rw [Nat.zero_add]; exact he⟩, ⟨_, hit, rfl, rfl⟩, Nat.succ_ne_self _, Nat.ne_of_lt al, Nat.ne_of_lt (Nat.lt_succ_of_lt al)⟩, fun b hb => ?_, q⟩
    have cs : b = s2.heap.objs.size + 1 ∨ b = s2.heap.objs.size := by simpa using hb
    have hle : s2.heap.objs.size ≤ b := by
      rcases cs with z | z
      · rw [z]
        exact Nat.le_succ _
      · rw [z]
        exact Nat.le_refl _
    exact I2.fpOk hle (I2.hok.fresh hle)
end SL
namespace DL
open PySem PySem.Spec PyProof.Rows L2 LamX PySem.W SL RZ
def enumDK (k : Nat) (xs : List D) : List D := xs.zipIdx.map fun p => D.tuk [.int ((p.2 + k : Nat) : Int), p.1]
theorem enumDK_get {k : Nat} {xs : List D} {i : Nat} {d : D} (h : (enumDK k xs)[i]? = some d) : ∃ x, xs[i]? = some x ∧ d = .tuk [.int ((i + k : Nat) : Int), x] := by
  unfold enumDK at h
  rw [List.getElem?_map, List.getElem?_zipIdx] at h
  cases q : xs[i]? with
  | none => rw [q] at h; cases h
  | some x => rw [q] at h; cases h; exact ⟨x, rfl, by rw [Nat.zero_add]⟩
theorem enumDK_length (k : Nat) (xs : List D) : (enumDK k xs).length = xs.length := by unfold enumDK; rw [List.length_map, List.length_zipIdx]
def wEnumK (k : Nat) (fs : DTA) : DTI := fun r st R => fs r st fun ds st1 => on1 ds fun x => onO (itT x) fun I => R ⟨enumDK k I.items, none⟩ st1
section
variable {T : List (Addr × Str)} {K : Frag} {M : Pl} {H : Hp} {st : DSt} {I : DIt} {a : Addr}
theorem IsT.enumK (k : Nat) (e0 : I.src = none) (h : IsT T K M H I a) : ItOk T K M H (IteK K a k) ⟨enumDK k I.items, none⟩ := by
  refine ⟨fun M' H' st' l s ok i d e => ?_, fun M' H' st' l s ok => ?_⟩
  · obtain ⟨xs, r, q⟩ := h M' H' st' l s (.inl e0)
    obtain ⟨x, e1, rfl⟩ := enumDK_get e
    obtain ⟨v, e2, rv⟩ := r.get e1
    refine ⟨⟨xs, v, q, e2⟩, fun y H'' z => ?_⟩
    obtain ⟨p, w, rfl, np, rfl, z⟩ := z
    have zz := z xs q
    rw [e2] at zz
    cases zz
    have g : Grow M' H' M' (upd H' p (.tup [.int ((i + k : Nat) : Int), v])) := Grow.new s.hid np
    exact ⟨g, s.new np, .tuk (s.notin np) upd_same (.cons (.int _) (.cons (rv.grow g) .nil))⟩
  · obtain ⟨xs, r, q⟩ := h M' H' st' l s (.inl e0)
    exact ⟨xs, q, by rw [enumDK_length, r.length]⟩
end
section
variable {T : List (Addr × Str)} {X : Cx} {e : Expr} {fs : DTA} {j0 : Nat} {p pos tpos kp cp : Pos} {elts : List Expr} {kk k : Nat}
theorem di_enumK (k9 : (k : Int) < 2 ^ 63) (hg : Gl X "enumerate") (hm : X.mg "enumerate" = none) (ha : DA T X [e] fs) (hs : starEach [e] X.env = [(false, eval e X.env)] := by rfl) : DI T X (.Tuple elts kk tpos) (.Call (.Name "enumerate" p) [e] [⟨some "start", .Constant (.int (k : Nat)) j0 cp, kp⟩] pos) (wEnumK k fs) :=
  PI.imp (pi_enumK k9 hg hm ha hs) fun σ H R ⟨M, r, st, R', s, re, h, kn⟩ => ⟨M, r, st, _, s, re, h, fun M1 H1 st1 ds vs g1 s1 r1 q => by
    obtain ⟨x, rfl, q1⟩ := on1.of q
    obtain ⟨I, e, q2⟩ := onO.of q1
    obtain ⟨v, rfl, rv⟩ := r1.one
    obtain ⟨a, rfl, is, e0⟩ := itT.is (T := T) rv e
    obtain ⟨xs, _, sq⟩ := is M1 H1 st1 (Later.refl _ _) s1 (.inl e0)
    exact ⟨a, rfl, ⟨xs, sq⟩, kn M1 H1 st1 _ _ g1 s1 q2 (is.enumK k e0)⟩⟩
theorem e_wEK {k : Nat} {fs : DTA} {r : DEnv} {st : DSt} {R : DIt → DSt → Prop} : wEnumK k fs r st R = fs r st fun ds st1 => on1 ds fun x => onO (itT x) fun I => R ⟨enumDK k I.items, none⟩ st1 := rfl
end
end DL
set_option maxHeartbeats 2000000
namespace SL
open PySem PySem.Spec PyProof.Rows L2 LamX PySem.W
section
variable {X : Cx} {pins : List (Addr × Obj)} {σ : L2.St} {H : Hp} {s : Shared}
end
end SL
namespace DL
open PySem PySem.Spec PyProof.Rows L2 LamX PySem.W SL
end DL
namespace DL
open PySem PySem.Spec PyProof.Rows L2 LamX PySem.W SL
def DkD (st : DSt) (x : D) : Prop := onDk st x fun _ _ => True
def dGetD (fo fe ff : DTE) : DTE := fun r st Q => fo r st fun x st1 => DkD st1 x ∧ fe r st1 fun y st2 => ff r st2 fun z st3 => onDk st3 x fun n kvs => onO (keyD y) fun k => Q ((valD kvs k).getD z) st3
@[simp] theorem e_getD {fo fe ff : DTE} {r : DEnv} {st : DSt} {Q : DK} : dGetD fo fe ff r st Q = fo r st fun x st1 => DkD st1 x ∧ fe r st1 fun y st2 => ff r st2 fun z st3 => onDk st3 x fun n kvs => onO (keyD y) fun k => Q ((valD kvs k).getD z) st3 := rfl
end DL
namespace DL
open PySem PySem.Spec PyProof.Rows L2 LamX PySem.W SL
def dGet1 (fo fe : DTE) : DTE := fun r st Q => fo r st fun x st1 => DkD st1 x ∧ fe r st1 fun y st2 => onDk st2 x fun n kvs => onO (keyD y) fun k => Q ((valD kvs k).getD .non) st2
@[simp] theorem e_get1 {fo fe : DTE} {r : DEnv} {st : DSt} {Q : DK} : dGet1 fo fe r st Q = fo r st fun x st1 => DkD st1 x ∧ fe r st1 fun y st2 => onDk st2 x fun n kvs => onO (keyD y) fun k => Q ((valD kvs k).getD .non) st2 := rfl
end DL
namespace DL
open PySem PySem.Spec PyProof.Rows L2 LamX PySem.W SL
def onLk (st : DSt) (x : D) (k : Nat → Obj → List (Key × V) → List (Key × D) → Prop) : Prop := match x with
  | .ref n => match st[n]? with | some (.lk ob ys kvs) => k n ob ys kvs | _ => False
  | _ => False
theorem onLk_ref {st : DSt} {n : Nat} {ob : Obj} {ys : List (Key × V)} {kvs : List (Key × D)} {k : Nat → Obj → List (Key × V) → List (Key × D) → Prop} (h : st[n]? = some (.lk ob ys kvs)) : onLk st (.ref n) k = k n ob ys kvs := by unfold onLk; simp only [h]
theorem onLk.of {st : DSt} {d : D} {k : Nat → Obj → List (Key × V) → List (Key × D) → Prop} (h : onLk st d k) : ∃ n ob ys kvs, d = .ref n ∧ st[n]? = some (.lk ob ys kvs) ∧ k n ob ys kvs := by
  cases d with
  | ref n =>
    unfold onLk at h
    simp only at h
    split at h
    · rename_i ob ys kvs e
      exact ⟨n, ob, ys, kvs, rfl, e, h⟩
    · exact h.elim
  | _ => exact h.elim
def kD : Key → D
  | .inl i => .int i
  | .inr x => .str x
theorem RV.kD {K : Frag} {M : Pl} {H : Hp} (k : Key) : RV K M H (DL.kD k) (kV k) := by
  cases k with
  | inl i => exact .int i
  | inr x => exact .str x
def itemsK (kvs : List (Key × D)) : List D := kvs.map fun kv => .tuk [kD kv.1, kv.2]
def keysK (kvs : List (Key × D)) : List D := kvs.map fun kv => kD kv.1
def wItemsK (f : DTE) : DTI := fun r st R => f r st fun x st1 => onLk st1 x fun n ob ys kvs => R ⟨itemsK kvs, some (n, .lk ob ys kvs)⟩ st1
def wKeysK (f : DTE) : DTI := fun r st R => f r st fun x st1 => onLk st1 x fun n ob ys kvs => R ⟨keysK kvs, some (n, .lk ob ys kvs)⟩ st1
theorem kvs_get {K : Frag} {M : Pl} {H : Hp} {kvs : List (Key × D)} {ys : List (Key × V)} (ks : kvs.map (·.1) = ys.map (·.1)) (vs : RVs K M H (kvs.map (·.2)) (ys.map (·.2))) {i : Nat} {kd : Key × D} (h : kvs[i]? = some kd) : ∃ v, ys[i]? = some (kd.1, v) ∧ RV K M H kd.2 v := by
  have h2 : (kvs.map (·.2))[i]? = some kd.2 := by rw [List.getElem?_map, h]; rfl
  obtain ⟨v, e, rv⟩ := vs.get h2
  have h1 : (kvs.map (·.1))[i]? = some kd.1 := by rw [List.getElem?_map, h]; rfl
  rw [ks, List.getElem?_map] at h1
  rw [List.getElem?_map] at e
  obtain ⟨y, ey, e1⟩ := Option.map_eq_some_iff.mp h1
  rw [ey] at e
  cases e
  exact ⟨y.2, by rw [ey, ← e1], rv⟩
section
variable {T : List (Addr × Str)} {X : Cx} {K : Frag} {M : Pl} {H : Hp} {st : DSt} {n : Nat} {a : Addr} {ob : Obj} {ys : List (Key × V)} {kvs : List (Key × D)}
theorem itok_keys (hm : M.at_ n = some a) : ItOk T K M H (Itk a ob ys) ⟨keysK kvs, some (n, .lk ob ys kvs)⟩ := by
  refine ⟨fun M' H' st' l s ok i d e => ?_, fun M' H' st' l s ok => ?_⟩
  · rcases ok with z | ⟨n', o, z, q⟩
    · cases z
    · cases z
      obtain ⟨h1, h2, h3⟩ := s.obj _ a _ (l.get _ _ hm) q
      have e' : (kvs.map fun kv => kD kv.1)[i]? = some d := e
      rw [List.getElem?_map] at e'
      obtain ⟨kd, e1, rfl⟩ := Option.map_eq_some_iff.mp e'
      obtain ⟨v, e2, rv⟩ := kvs_get h2 h3 e1
      refine ⟨⟨h1, (List.getElem?_eq_some_iff.mp e2).1⟩, fun x H'' y => ?_⟩
      obtain ⟨rfl, k, w, e3, rfl⟩ := y
      rw [e2] at e3
      cases e3
      exact ⟨Grow.refl _ _, s, RV.kD _⟩
  · rcases ok with z | ⟨n', o, z, q⟩
    · cases z
    · cases z
      obtain ⟨h1, h2, h3⟩ := s.obj _ a _ (l.get _ _ hm) q
      refine ⟨h1, ?_⟩
      have l2 := congrArg List.length h2
      rw [List.length_map, List.length_map] at l2
      show ys.length ≤ (kvs.map _).length
      rw [List.length_map]
      omega
theorem di_keysK {tg : Expr} {e : Expr} {f : DTE} (he : DE T X e f) : DI T X tg e (wKeysK f) :=
  PI.imp (pi_keys he) fun σ H R ⟨M, r, st, R', s, re, h, k⟩ => ⟨M, r, st, _, s, re, h, fun M1 H1 st1 x vx g1 s1 r1 q => by
    obtain ⟨n, ob, ys, kvs, rfl, e1, q⟩ := onLk.of q
    cases r1 with
    | ref hm =>
      obtain ⟨h1, h2, h3⟩ := s1.obj _ _ _ hm e1
      exact ⟨_, ob, rfl, .inl ⟨ys, h1, k M1 H1 st1 _ _ g1 s1 q (itok_keys hm)⟩⟩⟩
def lkN (n : Nat) (o u : O) (N : DEnv → DSt → Prop) : DEnv → DSt → Prop := fun r st => st[n]? = some o ∧ N r (st.set n u)
def lkE (n : Nat) (o u : O) (E : DEnds) : DEnds := { nx := lkN n o u E.nx, rt := fun d st => st[n]? = some o ∧ E.rt d (st.set n u), bk := lkN n o u E.bk, ct := lkN n o u E.ct }
def sLockK (i : Nat) (F : DTS) : DTS := fun E r st => onOO r[i]? fun x => onDk st x fun n kvs => ∀ ob ys, F (lkE n (.lk ob ys kvs) (.dK kvs) E) r (st.set n (.lk ob ys kvs))
def dLockK (i : Nat) (f : DTE) : DTE := fun r st Q => onOO r[i]? fun x => onDk st x fun n kvs => ∀ ob ys, f r (st.set n (.lk ob ys kvs)) fun d st1 => st1[n]? = some (.lk ob ys kvs) ∧ Q d (st1.set n (.dK kvs))
theorem unlk {M M1 : Pl} {H H1 : Hp} {st1 : DSt} (hm : M.at_ n = some a) (nd : M.m.Nodup) (g : Grow M (L2.upd H a (.frz ob (.dK ys))) M1 H1) (s1 : RS T K M1 st1 H1) (e : st1[n]? = some (.lk ob ys kvs)) :
    H1 a = some (.frz ob (.dK ys)) ∧ Grow M H M1 (L2.upd H1 a (.dK ys)) ∧ Grow M1 H1 M1 (L2.upd H1 a (.dK ys)) ∧ RS T K M1 (st1.set n (.dK kvs)) (L2.upd H1 a (.dK ys)) := by
  have hm1 := g.get hm
  obtain ⟨h1, h2, h3⟩ := s1.obj _ _ _ hm1 e
  have gw : Grow M1 H1 M1 (L2.upd H1 a (.dK ys)) := Grow.write s1.nd hm1
  have g0 : Grow M H M (L2.upd H a (.frz ob (.dK ys))) := Grow.write nd hm
  exact ⟨h1, (g0.trans g).trans gw, gw, s1.write (u := .dK kvs) hm1 ⟨ys, upd_same, h2, h3.grow gw⟩⟩
theorem de_lockK {i : Nat} {e0 : Expr} {f : DTE} (h : DE T X e0 f) : DE T X e0 (dLockK i f) := PE.imp (pe_lock h) fun σ H Q ⟨M, r, st, Q', s, re, hf, k⟩ => by
  obtain ⟨x, ex, hf⟩ := onOO.of hf
  obtain ⟨n, kvs, rfl, e, hf⟩ := onDk.of hf
  obtain ⟨v, _, rv⟩ := re.at_ i _ ex
  obtain ⟨a, ys, rfl, hm, hp, kv⟩ := onDk.rd s rv e
  refine ⟨a, .dK ys, hp, trivial, fun od => ?_⟩
  have gw : Grow M H M (L2.upd H a (.frz od (.dK ys))) := Grow.write s.nd hm
  have s1 : RS T X.K M (st.set n (.lk od ys kvs)) (L2.upd H a (.frz od (.dK ys))) := s.write (u := .lk od ys kvs) hm ⟨upd_same, kv.ks, (kv.grow gw).vs⟩
  refine ⟨M, r, _, _, s1, re.grow gw, hf od ys, fun M1 H1 st1 d w g1 s1' r1 q => ?_⟩
  obtain ⟨z1, z2, z3, z4⟩ := unlk hm s.nd g1 s1' q.1
  exact ⟨z1, k M1 _ _ d w z2 z4 (r1.grow z3) q.2⟩
def onDr (st : DSt) (x : D) (k : List (Key × D) → Prop) : Prop := match x with
  | .ref n => match st[n]? with | some (.dK kvs) => k kvs | some (.lk _ _ kvs) => k kvs | _ => False
  | _ => False
theorem onDr_l {n : Nat} {k : List (Key × D) → Prop} (h : st[n]? = some (.lk ob ys kvs)) : onDr st (.ref n) k = k kvs := by unfold onDr; simp only [h]
theorem onDr.rd {d : D} {v : V} {k : List (Key × D) → Prop} (s : RS T K M st H) (r : RV K M H d v) (h : onDr st d k) : ∃ a kvs ys, v = .ref a ∧ Rd H a (.dK ys) ∧ KVs K M H kvs ys ∧ k kvs := by
  cases d with
  | ref n =>
    unfold onDr at h
    simp only at h
    cases r with
    | ref hm =>
      split at h
      · rename_i kvs e
        obtain ⟨ys, e1, e2, e3⟩ := s.obj n _ _ hm e
        exact ⟨_, kvs, ys, rfl, .inl e1, ⟨e2, e3⟩, h⟩
      · rename_i ob ys kvs e
        obtain ⟨e1, e2, e3⟩ := s.obj n _ _ hm e
        exact ⟨_, kvs, ys, rfl, .inr ⟨_, e1⟩, ⟨e2, e3⟩, h⟩
      · exact h.elim
  | _ => exact h.elim
theorem DGet.r {H : Hp} {a : Addr} {kvs : List (Key × V)} {k : Key} (e : Rd H a (.dK kvs)) : DGet H a (kV k) (valV kvs k) := .inl ⟨kvs, k, e, rfl, rfl⟩
def dGetR : DR2 := fun x y st Q => onDr st x fun kvs => onO (keyD y) fun k => onO (valD kvs k) fun d => Q d st
variable {b c : Expr} {fa fb fc : DTE} {pos : Pos} {aa : Expr}
theorem de_getR (hu : X.A.units + 1 < cLine) (ha : DE T X aa fa) (hb : DE T X b fb) (hs : NoSl b) : DE T X (.Subscript aa b pos) (dOp dGetR fa fb) := PE.imp (pe_dget hu ha hb hs) fun σ H Q ⟨M, r, st, Q', s, re, h, k⟩ =>
  ⟨M, r, st, _, s, re, h, fun M1 H1 st1 x vx g1 s1 r1 h1 => ⟨M1, r, st1, _, s1, re.grow g1, h1, fun M2 H2 st2 y vy g2 s2 r2 h2 => by
    obtain ⟨p, kvs, ys, rfl, hp, kv, h2⟩ := onDr.rd s2 (r1.grow g2) h2
    obtain ⟨kk, ek, h2⟩ := onO.of h2
    obtain ⟨d, ed, h2⟩ := onO.of h2
    have := r2.key ek
    subst this
    rcases kv.val (k := kk) with ⟨z, _⟩ | ⟨d', v, z, z2, rv⟩
    · rw [z] at ed; cases ed
    · rw [z] at ed
      cases ed
      refine ⟨p, v, rfl, ?_, ((k.grow g1).grow g2).here s2 rv h2⟩
      rw [← z2]
      exact DGet.r hp⟩⟩
def dInR (neg : Bool) (fy fd : DTE) : DTE := fun r st Q => fy r st fun y st1 => fd r st1 fun x st2 => onDr st2 x fun kvs => onO (keyD y) fun k => Q (.bl (if neg then !(valD kvs k).isSome else (valD kvs k).isSome)) st2
def prD : D → Option (Key × D)
  | .tup [k, v] => (keyD k).map fun q => (q, v)
  | .tuk [k, v] => (keyD k).map fun q => (q, v)
  | _ => none
def prsD : List D → Option (List (Key × D))
  | [] => some []
  | d :: ds => match prD d with | none => none | some p => (prsD ds).map (p :: ·)
def mergeD (kvs more : List (Key × D)) : List (Key × D) := more.foldl (fun acc kv => putD acc kv.1 kv.2) kvs
theorem RV.pair {d : D} {v : V} {kd : Key × D} (r : RV K M H d v) (e : prD d = some kd) : ∃ p w, v = .ref p ∧ SqT K H p [kV kd.1, w] ∧ RV K M H kd.2 w := by
  cases r with
  | tup nn h q rs =>
    unfold prD at e
    split at e
    · rename_i k w z
      cases z
      obtain ⟨kk, ek, rfl⟩ := Option.map_eq_some_iff.mp e
      cases rs with
      | cons r1 rs => cases rs with
        | cons r2 rs => cases rs; rw [r1.key ek] at h; exact ⟨_, _, rfl, .inl (.inr ⟨_, h⟩), r2⟩
    · rename_i z; cases z
    · cases e
  | tuk nn h rs =>
    unfold prD at e
    split at e
    · rename_i z; cases z
    · rename_i k w z
      cases z
      obtain ⟨kk, ek, rfl⟩ := Option.map_eq_some_iff.mp e
      cases rs with
      | cons r1 rs => cases rs with
        | cons r2 rs => cases rs; rw [r1.key ek] at h; exact ⟨_, _, rfl, .inl (.inl h), r2⟩
    · cases e
  | _ => cases e
def dDictP : DRs := fun ds st Q => on1 ds fun x => onO (seqL st x) fun xs => onO (prsD xs) fun kvs => Q (.ref st.length) (st ++ [.dK (mergeD [] kvs)])
where seqL (st : DSt) : D → Option (List D)
  | .lst ds => some ds
  | .ref n => match st[n]? with | some (.lst ds) => some ds | _ => none
  | _ => none
theorem seqL.rd {d : D} {v : V} {xs : List D} (s : RS T K M st H) (r : RV K M H d v) (e : dDictP.seqL st d = some xs) : ∃ a us, v = .ref a ∧ SqL K H a us ∧ RVs K M H xs us := by
  cases r with
  | lst nn h rs => cases e; exact ⟨_, _, rfl, .inl (.inl h), rs⟩
  | ref hm =>
    obtain ⟨o, e1, ro⟩ := s.atM hm
    unfold dDictP.seqL at e
    simp only [e1] at e
    cases o with
    | lst zs => cases e; obtain ⟨us, q, rs⟩ := ro; exact ⟨_, us, rfl, .inl (.inl q), rs⟩
    | dK _ => cases e
    | dT _ => cases e
    | lk _ _ _ => cases e
    | lkT _ _ _ => cases e
    | ins _ _ => cases e
  | _ => cases e
end
@[simp] theorem e_lockK {i : Nat} {F : DTS} {E : DEnds} {r : DEnv} {st : DSt} : sLockK i F E r st = onOO r[i]? fun x => onDk st x fun n kvs => ∀ ob ys, F (lkE n (.lk ob ys kvs) (.dK kvs) E) r (st.set n (.lk ob ys kvs)) := rfl
@[simp] theorem e_dlockK {i : Nat} {f : DTE} {Q : DK} {r : DEnv} {st : DSt} : dLockK i f r st Q = onOO r[i]? fun x => onDk st x fun n kvs => ∀ ob ys, f r (st.set n (.lk ob ys kvs)) fun d st1 => st1[n]? = some (.lk ob ys kvs) ∧ Q d (st1.set n (.dK kvs)) := rfl
@[simp] theorem e_wItemsK {f : DTE} {r : DEnv} {st : DSt} {R : DIt → DSt → Prop} : wItemsK f r st R = f r st fun x st1 => onLk st1 x fun n ob ys kvs => R ⟨itemsK kvs, some (n, .lk ob ys kvs)⟩ st1 := rfl
@[simp] theorem e_wKeysK {f : DTE} {r : DEnv} {st : DSt} {R : DIt → DSt → Prop} : wKeysK f r st R = f r st fun x st1 => onLk st1 x fun n ob ys kvs => R ⟨keysK kvs, some (n, .lk ob ys kvs)⟩ st1 := rfl
@[simp] theorem e_getR {x y : D} {st : DSt} {Q : DK} : dGetR x y st Q = onDr st x fun kvs => onO (keyD y) fun k => onO (valD kvs k) fun d => Q d st := rfl
@[simp] theorem e_inR {fa fb : DTE} {r : DEnv} {st : DSt} {Q : DK} : dInR false fa fb r st Q = fa r st fun y st1 => fb r st1 fun x st2 => onDr st2 x fun kvs => onO (keyD y) fun k => Q (.bl (valD kvs k).isSome) st2 := rfl
@[simp] theorem e_ninR {fa fb : DTE} {r : DEnv} {st : DSt} {Q : DK} : dInR true fa fb r st Q = fa r st fun y st1 => fb r st1 fun x st2 => onDr st2 x fun kvs => onO (keyD y) fun k => Q (.bl (!(valD kvs k).isSome)) st2 := rfl
@[simp] theorem e_dictP {x : D} {st : DSt} {Q : DK} : dDictP [x] st Q = onO (dDictP.seqL st x) fun xs => onO (prsD xs) fun kvs => Q (.ref st.length) (st ++ [.dK (mergeD [] kvs)]) := rfl
end DL
namespace DL
open PySem PySem.Spec PyProof.Rows L2 LamX PySem.W SL
def lexL : List Int → List Int → Bool
  | [], [] => false
  | [], _ :: _ => true
  | _ :: _, [] => false
  | p :: r, q :: s => if p = q then lexL r s else decide (p < q)
section
variable {prog : Program} {w : World} {A : Around} {E : Value → Shared → Prop} {s : Shared}
end
def numsD : D → Option (List Int)
  | .tup ds => intsD ds
  | .tuk ds => intsD ds
  | _ => none
def numOf (H : Hp) (v : V) : List Int := match v with
  | .ref a => match H a with
    | some (.tup xs) => xs.map fun x => match x with | .int i => i | _ => 0
    | some (.frz _ (.tup xs)) => xs.map fun x => match x with | .int i => i | _ => 0
    | _ => []
  | _ => []
def datOf (H : Hp) (v : V) : D := match v with
  | .ref a => match H a with
    | some (.tup xs) => .tuk (xs.map fun x => match x with | .int i => .int i | _ => .non)
    | some (.frz _ (.tup xs)) => .tup (xs.map fun x => match x with | .int i => .int i | _ => .non)
    | _ => .non
  | _ => .non
theorem back_i (ns : List Int) : (ns.map V.int).map (fun x => match x with | .int i => i | _ => 0) = ns := by
  rw [List.map_map]
  exact (List.map_congr_left fun i _ => rfl).trans (List.map_id ns)
theorem back_d (ns : List Int) : (ns.map V.int).map (fun x => match x with | .int i => D.int i | _ => .non) = ns.map D.int := by
  rw [List.map_map]
  exact List.map_congr_left fun i _ => rfl
theorem RV.nums {K : Frag} {M : Pl} {H : Hp} {d : D} {v : V} {ns : List Int} (r : RV K M H d v) (e : numsD d = some ns) : ∃ t, v = V.ref t ∧ SqT K H t (ns.map V.int) ∧ numOf H v = ns ∧ datOf H v = d := by
  cases r with
  | tup n h q rs =>
    have e' := intsD_of e
    subst e'
    have z := rs.ints
    subst z
    exact ⟨_, rfl, .inl (.inr ⟨_, h⟩), by simp only [numOf, h]; exact back_i ns, by simp only [datOf, h]; rw [back_d]⟩
  | tuk n h rs =>
    have e' := intsD_of e
    subst e'
    have z := rs.ints
    subst z
    exact ⟨_, rfl, .inl (.inl h), by simp only [numOf, h]; exact back_i ns, by simp only [datOf, h]; rw [back_d]⟩
  | _ => cases e
def dSortTs (fin : DK → List D → DSt → Prop) : DRs := fun ds st Q => on1 ds fun x => onO (dDictP.seqL st x) fun xs => ∃ d, 1 ≤ d ∧ (∀ x ∈ xs, ∃ ns, numsD x = some ns ∧ ns.length = d) ∧ ∀ out : List D, out.Perm xs → out.Pairwise (fun x y => lexL ((numsD y).getD []) ((numsD x).getD []) = false) → fin Q out st
@[simp] theorem e_sortTs {fin : DK → List D → DSt → Prop} {x : D} {st : DSt} {Q : DK} : dSortTs fin [x] st Q = onO (dDictP.seqL st x) fun xs => ∃ d, 1 ≤ d ∧ (∀ x ∈ xs, ∃ ns, numsD x = some ns ∧ ns.length = d) ∧ ∀ out : List D, out.Perm xs → out.Pairwise (fun x y => lexL ((numsD y).getD []) ((numsD x).getD []) = false) → fin Q out st := rfl
end DL
namespace DL
open PySem PySem.Spec PyProof.Rows L2 LamX PySem.W SL
def pdG (d : D) : PyData := (pdT d).getD .none
def srtD (xs : List D) : List D := xs.mergeSort (dataLe false pdG)
theorem RVs.zip {K : Frag} {M : Pl} {H : Hp} : ∀ {ds : List D} {vs : List V}, RVs K M H ds vs → (ds.zip vs).map (·.1) = ds ∧ (ds.zip vs).map (·.2) = vs ∧ ∀ t ∈ ds.zip vs, RV K M H t.1 t.2
  | _, _, .nil => ⟨rfl, rfl, fun t h => by cases h⟩
  | _, _, .cons (d := d) r rs => by
    obtain ⟨h1, h2, h3⟩ := RVs.zip rs
    refine ⟨by rw [List.zip_cons_cons, List.map_cons, h1], by rw [List.zip_cons_cons, List.map_cons, h2], fun t ht => ?_⟩
    rw [List.zip_cons_cons] at ht
    rcases List.mem_cons.mp ht with z | z
    · rw [z]; exact r
    · exact h3 t z
def dSortD (fin : DK → List D → DSt → Prop) : DRs := fun ds st Q => on1 ds fun x => onO (dDictP.seqL st x) fun xs => onO (pdTs xs) fun ps => (AllAlike ps ∧ Sortable ps ∧ ∀ p ∈ ps, p.depth ≤ 50) ∧ fin Q (srtD xs) st
@[simp] theorem e_sortD {fin : DK → List D → DSt → Prop} {x : D} {st : DSt} {Q : DK} : dSortD fin [x] st Q = onO (dDictP.seqL st x) fun xs => onO (pdTs xs) fun ps => (AllAlike ps ∧ Sortable ps ∧ ∀ p ∈ ps, p.depth ≤ 50) ∧ fin Q (srtD xs) st := rfl
end DL
namespace DL
open PySem PySem.Spec PyProof.Rows L2 LamX PySem.W SL
def dListItems (fe : DTE) : DTE := fun r st Q => fe r st fun x st1 => onDk st1 x fun _ kvs => Q (.lst (itemsK kvs)) st1
@[simp] theorem e_listItems {fe : DTE} {r : DEnv} {st : DSt} {Q : DK} : dListItems fe r st Q = fe r st fun x st1 => onDk st1 x fun _ kvs => Q (.lst (itemsK kvs)) st1 := rfl
end DL
namespace DL
open PySem PySem.Spec PyProof.Rows L2 LamX PySem.W SL
def kI (k : List Int) : List Key := k.map Sum.inl
theorem kI_V (k : List Int) : (kI k).map kV = k.map V.int := by unfold kI; rw [List.map_map]; rfl
theorem kI_inj {a b : List Int} (h : kI a = kI b) : a = b := List.map_inj_right (fun x y e => Sum.inl.inj e) |>.mp h
theorem hT_eq (P : Program) (w : World) (k : List Int) : (tupleKind (mixKind P w)).hash (kI k) = hT k := by
  show reduceHash _ = reduceHash _
  unfold kI
  rw [List.map_map]
  rfl
abbrev TX := List (List Int × Addr × Value)
abbrev TY := List (List Int × Addr × V)
def upX (xs : TX) : List (List Key × Addr × Value) := xs.map fun x => (kI x.1, x.2.1, x.2.2)
def TP (p : List Int × Addr × V) (q : List Int × Addr × Value) : Prop := p.1 = q.1 ∧ p.2.1 = q.2.1 ∧ RelV p.2.2 q.2.2
def keyR (H : Hp) (k : List Int) (b : Addr) : Prop := Rdt H b (k.map V.int)
def putX {α : Type} (xs : List (List Int × Addr × α)) (k : List Int) (b : Addr) (u : α) : List (List Int × Addr × α) :=
  if (xs.any fun x => decide (x.1 = k)) = true then xs.map (fun x => if x.1 = k then (x.1, x.2.1, u) else x) else xs ++ [(k, b, u)]
def pV {α : Type} (ys : List (List Int × Addr × α)) : List (List Int × α) := ys.map fun y => (y.1, y.2.2)
theorem pV_any {α : Type} (ys : List (List Int × Addr × α)) (k : List Int) : ((pV ys).any fun y => decide (y.1 = k)) = ys.any fun y => decide (y.1 = k) := by
  unfold pV; rw [List.any_map]; rfl
theorem pV_put {ys : TY} {k : List Int} {b : Addr} {v : V} : pV (putX ys k b v) = putK (pV ys) k v := by
  unfold putX putK
  rw [pV_any]
  split
  · unfold pV
    rw [List.map_map, List.map_map]
    refine List.map_congr_left fun y _ => ?_
    show _ = (if y.1 = k then (y.1, v) else (y.1, y.2.2))
    show (fun y : List Int × Addr × V => (y.1, y.2.2)) (if y.1 = k then (y.1, y.2.1, v) else y) = _
    split <;> rfl
  · unfold pV
    rw [List.map_append]
    rfl
theorem putX_mem {α : Type} {xs : List (List Int × Addr × α)} {k : List Int} {b : Addr} {u : α} {y : List Int × Addr × α} (h : y ∈ putX xs k b u) : (∃ x ∈ xs, y.1 = x.1 ∧ y.2.1 = x.2.1) ∨ y = (k, b, u) := by
  unfold putX at h
  split at h
  · obtain ⟨x, hx, rfl⟩ := List.mem_map.mp h
    refine .inl ⟨x, hx, ?_⟩
    split <;> exact ⟨rfl, rfl⟩
  · rcases List.mem_append.mp h with h | h
    · exact .inl ⟨y, h, rfl, rfl⟩
    · exact .inr (List.mem_singleton.mp h)
theorem TP.any {ys : TY} {xs : TX} (r : Paired TP ys xs) (k : List Int) : (ys.any fun y => decide (y.1 = k)) = xs.any fun x => decide (x.1 = k) := by
  induction r with
  | nil => rfl
  | cons h t ih => rw [List.any_cons, List.any_cons, ih, h.1]
theorem TP.put {ys : TY} {xs : TX} (r : Paired TP ys xs) (k : List Int) {b : Addr} {v : V} {u : Value} (rv : RelV v u) : Paired TP (putX ys k b v) (putX xs k b u) := by
  unfold putX
  rw [TP.any r]
  split
  · induction r with
    | nil => exact .nil
    | @cons p q ps qs h t ih =>
      rename_i c
      clear c
      rw [List.map_cons, List.map_cons]
      have tl : Paired TP (ps.map fun x => if x.1 = k then (x.1, x.2.1, v) else x) (qs.map fun x => if x.1 = k then (x.1, x.2.1, u) else x) := by
        clear ih h
        induction t with
        | nil => exact .nil
        | @cons p q ps qs h t ih =>
          rw [List.map_cons, List.map_cons]
          refine .cons ?_ ih
          obtain ⟨h1, h2, h3⟩ := h
          by_cases e : p.1 = k
          · rw [if_pos e, if_pos (h1.symm.trans e)]; exact ⟨h1, h2, rv⟩
          · rw [if_neg e, if_neg (fun z => e (h1.trans z))]; exact ⟨h1, h2, h3⟩
      refine .cons ?_ tl
      obtain ⟨h1, h2, h3⟩ := h
      by_cases e : p.1 = k
      · rw [if_pos e, if_pos (h1.symm.trans e)]; exact ⟨h1, h2, rv⟩
      · rw [if_neg e, if_neg (fun z => e (h1.trans z))]; exact ⟨h1, h2, h3⟩
  · exact Paired.snoc r ⟨rfl, rfl, rv⟩
theorem TP.val {ys : TY} {xs : TX} (r : Paired TP ys xs) (k : List Int) : RelO (valV (pV ys) k) ((atKey (upX xs) (kI k)).map (·.2)) := by
  induction r with
  | nil => exact True.intro
  | @cons p q ps qs h t ih =>
    obtain ⟨h1, _, h2⟩ := h
    by_cases e : p.1 = k
    · have e' : kI q.1 = kI k := by rw [h1.symm.trans e]
      have b : atKey (upX (q :: qs)) (kI k) = some q.2 := by simp [atKey, upX, List.find?_cons, e']
      have c : valV (pV (p :: ps)) k = some p.2.2 := valV_pos (p := (p.1, p.2.2)) e
      rw [b, c]; exact h2
    · have e' : ¬ kI q.1 = kI k := fun z => e (h1.trans (kI_inj z))
      have b : atKey (upX (q :: qs)) (kI k) = atKey (upX qs) (kI k) := by simp [atKey, upX, List.find?_cons, e']
      have c : valV (pV (p :: ps)) k = valV (pV ps) k := valV_neg (p := (p.1, p.2.2)) e
      rw [b, c]; exact ih
section
variable {X : Cx} {pins : List (Addr × Obj)} {σ : L2.St} {H : Hp} {s : Shared} {a b : Addr} {A : Around} {E : Value → Shared → Prop}
theorem keyR.is (I : Inv X pins σ H s) {k : List Int} (r0 : keyR H k b) : (tupleKind (mixKind X.prog X.w)).is s.heap (kI k) b := by
  obtain ⟨_, its, r, o, h1, h2, n, h3⟩ := (show ObjOk X.prog X.w H s.heap b (.tup (k.map V.int)) from rd_of I.hok r0.rd)
  rw [← kI_V] at r
  exact ⟨o, its.toArray, n, h1, h2, h3, by simpa using items_are r⟩
theorem upX_ent {P : Program} {w : World} {xs : TX} : (upX xs).map (entryOfKey (tupleKind (mixKind P w))) = xs.map fun x => (⟨hT x.1, .ref x.2.1, x.2.2⟩ : DictEntry) := by
  unfold upX
  rw [List.map_map]
  refine List.map_congr_left fun x _ => ?_
  show (⟨(tupleKind (mixKind P w)).hash (kI x.1), _, _⟩ : DictEntry) = _
  rw [hT_eq]
theorem upX_nd {xs : TX} : ((upX xs).map (·.1)).Nodup ↔ (xs.map (·.1)).Nodup := by
  have e : (upX xs).map (·.1) = (xs.map (·.1)).map kI := by unfold upX; rw [List.map_map, List.map_map]; rfl
  rw [e]
  constructor
  · intro h; exact List.Pairwise.imp (fun h z => h (by rw [z])) (List.pairwise_map.mp h)
  · intro h; exact List.pairwise_map.mpr (List.Pairwise.imp (fun h z => h (kI_inj z)) h)
def keysR (H : Hp) (ys : TY) : Prop := ∀ y ∈ ys, keyR H y.1 y.2.1
theorem Td.at (I : Inv X pins σ H s) {ys : TY} (t : Td H a ys) (ks : keysR H ys) : ∃ xs : TX, Paired TP ys xs ∧ (a == sysModules) = false ∧ xs.length ≤ sizeLine ∧ (∃ o, H a = some (TdO a o)) ∧ s.heap.DictOfH (tupleKind (mixKind X.prog X.w)) a (upX xs) := by
  obtain ⟨o, es, ep, xs, h1, h2, h3, h4, h5, h6, h7, h8⟩ := t
  have z := (show ObjOk X.prog X.w H s.heap a (TdO a o) from I.hok a _ h1).1
  refine ⟨xs, h8, h2, h7, ⟨o, h1⟩, o, es, ep, z, h3, h4, by rw [h5, upX_ent], fun x hx => ?_, upX_nd.mpr h6⟩
  obtain ⟨x, hx0, rfl⟩ := List.mem_map.mp hx
  have all : ∀ {l : TY} {m : TX}, Paired TP l m → keysR H l → ∀ x ∈ m, keyR H x.1 x.2.1 := by
    intro l m q
    induction q with
    | nil => intro _ x hx; cases hx
    | @cons p q ps qs hq t ih =>
      intro hk x hx
      rcases List.mem_cons.mp hx with e | hx
      · subst e
        rw [← hq.1, ← hq.2.1]
        exact hk p List.mem_cons_self
      · exact ih (fun y hy => hk y (List.mem_cons_of_mem _ hy)) x hx
  exact (all h8 ks x hx0).is I
theorem Td.of {H' : Hp} {o' : Obj} {ys : TY} {xs : TX} {P : Program} {w : World} {h' : Heap} (hd : (a == sysModules) = false) (r : Paired TP ys xs) (l : xs.length ≤ sizeLine) (dd : h'.DictOfH (tupleKind (mixKind P w)) a (upX xs)) :
    ∃ o, h'.get? a = some o ∧ ∀ H' : Hp, H' a = some (TdO a o) → Td H' a ys := by
  obtain ⟨o, es, ep, h1, h2, h3, h4, h5, h6⟩ := dd
  exact ⟨o, h1, fun H' e => ⟨o, es, ep, xs, e, hd, h2, h3, by rw [h4, upX_ent], upX_nd.mp h6, l, r⟩⟩
end
end DL
namespace DL
open PySem PySem.Spec PyProof.Rows L2 LamX PySem.W SL
section
variable {X : Cx} {o i value e k v : Expr} {pos pos' p apos mpos : Pos} {td ty tv tk : TE}
end
def keyT : D → Option (List Int)
  | .tup ds => intsD ds
  | .tuk ds => intsD ds
  | _ => none
theorem keyT.rd {K : Frag} {M : Pl} {H : Hp} {d : D} {v : V} {k : List Int} (r : RV K M H d v) (e : keyT d = some k) : ∃ b, v = .ref b ∧ b ∉ M.m ∧ keyR H k b := by
  cases r with
  | tup n h z rs =>
    have q := intsD_of e
    subst q
    have := rs.ints
    subst this
    exact ⟨_, rfl, n, .inr ⟨_, h, z⟩⟩
  | tuk n h rs =>
    have q := intsD_of e
    subst q
    have := rs.ints
    subst this
    exact ⟨_, rfl, n, .inl h⟩
  | _ => cases e
def onDt (st : DSt) (x : D) (k : Nat → List (List Int × D) → Prop) : Prop := match x with
  | .ref n => match st[n]? with | some (.dT kvs) => k n kvs | _ => False
  | _ => False
theorem onDt.of {st : DSt} {d : D} {k : Nat → List (List Int × D) → Prop} (h : onDt st d k) : ∃ n kvs, d = .ref n ∧ st[n]? = some (.dT kvs) ∧ k n kvs := by
  cases d with
  | ref n =>
    unfold onDt at h
    simp only at h
    split at h
    · rename_i kvs e
      exact ⟨n, kvs, rfl, e, h⟩
    · exact h.elim
  | _ => exact h.elim
theorem pV_ks {ys : TY} : (pV ys).map (·.1) = ys.map (·.1) := by unfold pV; rw [List.map_map]; rfl
theorem pV_vs {ys : TY} : (pV ys).map (·.2) = ys.map (·.2.2) := by unfold pV; rw [List.map_map]; rfl
section
variable {T : List (Addr × Str)} {X : Cx} {K : Frag} {a b o i : Expr} {fa fb fo fi fv fk : DTE} {pos : Pos}
theorem onDt.rd {M : Pl} {H : Hp} {st : DSt} {n : Nat} {kvs : List (List Int × D)} {v : V} (s : RS T K M st H) (r : RV K M H (.ref n) v) (e : st[n]? = some (.dT kvs)) : ∃ a ys, v = .ref a ∧ M.at_ n = some a ∧ Td H a ys ∧ KVs K M H kvs (pV ys) ∧ TKs M H ys := by
  cases r with
  | ref hm =>
    obtain ⟨ys, e1, e2, e3, e4⟩ := s.obj n _ _ hm e
    exact ⟨_, ys, rfl, hm, e1, ⟨by rw [pV_ks]; exact e2, by rw [pV_vs]; exact e3⟩, e4⟩
def dNewT : DTE := fun _ st Q => Q (.ref st.length) (st ++ [.dT []])
theorem TdO_ntb {a : Addr} {o : Obj} : ∀ ps, TdO a o ≠ .tbl ps := fun ps z => by unfold TdO at z; cases z
def dGetT : DR2 := fun x y st Q => onDt st x fun n kvs => onO (keyT y) fun k => onO (valD kvs k) fun d => Q d st
def dInT (neg : Bool) (fy fd : DTE) : DTE := fun r st Q => fy r st fun y st1 => fd r st1 fun x st2 => onDt st2 x fun n kvs => onO (keyT y) fun k => Q (.bl (if neg then !(valD kvs k).isSome else (valD kvs k).isSome)) st2
theorem TKs.put {M : Pl} {H : Hp} {ys : TY} {k : List Int} {b : Addr} {v : V} (t : TKs M H ys) (nb : b ∉ M.m) (kr : keyR H k b) : TKs M H (putX ys k b v) := fun y hy => by
  rcases putX_mem hy with ⟨x, hx, e1, e2⟩ | rfl
  · rw [e1, e2]; exact t x hx
  · exact ⟨nb, kr⟩
def sPutT (fd fy fv : DTE) : DTS := fun E r st => fv r st fun v st1 => fd r st1 fun x st2 => fy r st2 fun y st3 => onDt st3 x fun n kvs => onO (keyT y) fun k => kvs.length < sizeLine ∧ E.nx r (st3.set n (.dT (putD kvs k v)))
def dDispT (fk fv : DTE) : DTE := fun r st Q => fk r (st ++ [.dT []]) fun x st1 => fv r st1 fun v st2 => st2[st.length]? = some (.dT []) ∧ onO (keyT x) fun k => Q (.ref st.length) (st2.set st.length (.dT [(k, v)]))
@[simp] theorem e_newT {r : DEnv} {st : DSt} {Q : DK} : dNewT r st Q = Q (.ref st.length) (st ++ [.dT []]) := rfl
@[simp] theorem e_dispT {r : DEnv} {st : DSt} {Q : DK} : dDispT fk fv r st Q = fk r (st ++ [.dT []]) fun x st1 => fv r st1 fun v st2 => st2[st.length]? = some (.dT []) ∧ onO (keyT x) fun k => Q (.ref st.length) (st2.set st.length (.dT [(k, v)])) := rfl
@[simp] theorem e_getT {x y : D} {st : DSt} {Q : DK} : dGetT x y st Q = onDt st x fun n kvs => onO (keyT y) fun k => onO (valD kvs k) fun d => Q d st := rfl
@[simp] theorem e_inT {neg : Bool} {r : DEnv} {st : DSt} {Q : DK} : dInT neg fa fb r st Q = fa r st fun y st1 => fb r st1 fun x st2 => onDt st2 x fun n kvs => onO (keyT y) fun k => Q (.bl (if neg then !(valD kvs k).isSome else (valD kvs k).isSome)) st2 := rfl
@[simp] theorem e_putT {E : DEnds} {r : DEnv} {st : DSt} : sPutT fo fi fv E r st = fv r st fun v st1 => fo r st1 fun x st2 => fi r st2 fun y st3 => onDt st3 x fun n kvs => onO (keyT y) fun k => kvs.length < sizeLine ∧ E.nx r (st3.set n (.dT (putD kvs k v))) := rfl
end
end DL
namespace PySem.W
open PySem PySem.Calls PyProof.Rows PyProof.V PySem.Spec
section
variable {prog : Program} {w : World} {A : Around} {E : Value → Shared → Prop} {s : Shared} {T : String} {r d : Addr} {n : Nat} {P : Nat → Value → Prop} {OK : Heap → Prop} {Q : Value → Shared → Prop}
end
end PySem.W
namespace L2
open PySem PySem.Spec PyProof.Rows
section
variable {X : Cx} {o : Expr} {p pos apos mpos : Pos} {td : TE}
end
end L2
namespace DL
open PySem PySem.Spec PyProof.Rows L2 LamX PySem.W SL
def dSortVals (fe : DTE) : DTE := fun r st Q => fe r st fun x st1 => onDk st1 x fun _ kvs => onO (intsD (kvs.map (·.2))) fun is => ∀ ns : List Int, ns.Perm is → ns.Pairwise (· ≤ ·) → Q (.lst (ns.map D.int)) st1
@[simp] theorem e_sortVals {fe : DTE} {r : DEnv} {st : DSt} {Q : DK} : dSortVals fe r st Q = fe r st fun x st1 => onDk st1 x fun _ kvs => onO (intsD (kvs.map (·.2))) fun is => ∀ ns : List Int, ns.Perm is → ns.Pairwise (· ≤ ·) → Q (.lst (ns.map D.int)) st1 := rfl
end DL
namespace DL
open PySem PySem.Spec PyProof.Rows L2 LamX PySem.W SL
section
variable {X : Cx} {o : Expr} {p pos apos mpos : Pos} {td : TE}
end
def encK (kv : List Int × D) : PyData := .tuple [.tuple (kv.1.map PyData.int), pdG kv.2]
def mkOk (mk : List Int → D) : Prop := ∀ k, mk k = .tup (k.map D.int) ∨ mk k = .tuk (k.map D.int)
def srtT (kvs : List (List Int × D)) : List (List Int × D) := kvs.mergeSort (dataLe false encK)
def dSortItT (fe : DTE) : DTE := fun r st Q => fe r st fun x st1 => onDt st1 x fun _ kvs => onO (pdTs (kvs.map (·.2))) fun _ => (AllAlike (kvs.map encK) ∧ Sortable (kvs.map encK) ∧ ∀ kv ∈ kvs, (encK kv).depth ≤ 50) ∧
  ∀ mk, mkOk mk → Q (.lst ((srtT kvs).map fun kv => .tuk [mk kv.1, kv.2])) st1
section
variable {T : List (Addr × Str)} {X : Cx} {e : Expr} {fe : DTE} {p apos cpos pos : Pos}
@[simp] theorem e_sortItT {r : DEnv} {st : DSt} {Q : DK} : dSortItT fe r st Q = fe r st fun x st1 => onDt st1 x fun _ kvs => onO (pdTs (kvs.map (·.2))) fun _ => (AllAlike (kvs.map encK) ∧ Sortable (kvs.map encK) ∧ ∀ kv ∈ kvs, (encK kv).depth ≤ 50) ∧
  ∀ mk, mkOk mk → Q (.lst ((srtT kvs).map fun kv => .tuk [mk kv.1, kv.2])) st1 := rfl
end
end DL
namespace DL
open PySem PySem.Spec PyProof.Rows L2 LamX PySem.W SL PySem.Calls PySem.SeqAt
section
variable {prog : Program} {w : World} {A : Around} {E : Value → Shared → Prop} {s : Shared}
end
def dSortDt (fin : DK → List D → DSt → Prop) : DRs := fun ds st Q => on1 ds fun x => onO (dDictP.seqL st x) fun xs => onO (pdTs xs) fun ps => (AllAlike ps ∧ (∀ d ∈ ps, ∃ ys, d = PyData.tuple ys) ∧ ∀ p ∈ ps, p.depth ≤ 50) ∧ fin Q (srtD xs) st
@[simp] theorem e_sortDt {fin : DK → List D → DSt → Prop} {x : D} {st : DSt} {Q : DK} : dSortDt fin [x] st Q = onO (dDictP.seqL st x) fun xs => onO (pdTs xs) fun ps => (AllAlike ps ∧ (∀ d ∈ ps, ∃ ys, d = PyData.tuple ys) ∧ ∀ p ∈ ps, p.depth ≤ 50) ∧ fin Q (srtD xs) st := rfl
end DL
namespace DL
open PySem PySem.Spec PyProof.Rows L2 LamX PySem.W SL
def encL (k : List Int) : PyData := .tuple (k.map PyData.int)
def srtL (ks : List (List Int)) : List (List Int) := ks.mergeSort (dataLe false encL)
def mergeX {α : Type} (acc ys : List (List Int × Addr × α)) : List (List Int × Addr × α) := ys.foldl (fun acc y => putX acc y.1 y.2.1 y.2.2) acc
def prT : D → Option (List Int × D)
  | .tup [k, v] => (keyT k).map fun k => (k, v)
  | .tuk [k, v] => (keyT k).map fun k => (k, v)
  | _ => none
def prsT : List D → Option (List (List Int × D))
  | [] => some []
  | d :: ds => match prT d with | some kv => (prsT ds).map (kv :: ·) | none => none
def mergeT (acc kvs : List (List Int × D)) : List (List Int × D) := kvs.foldl (fun acc kv => putD acc kv.1 kv.2) acc
section
variable {T : List (Addr × Str)} {K : Frag}
def dLenT : DRs := fun ds st Q => on1 ds fun x => onDt st x fun _ kvs => Q (.int ((kvs.length : Nat) : Int)) st
def dSortKT (fin : DK → List D → DSt → Prop) : DRs := fun ds st Q => on1 ds fun x => onDt st x fun _ kvs => ∀ mk, mkOk mk → fin Q ((srtL (kvs.map (·.1))).map mk) st
theorem KVs.mergeT {M : Pl} {H : Hp} : ∀ {ys : TY} {kvs : List (List Int × D)} {acc : List (List Int × D)} {ay : TY}, KVs K M H kvs (pV ys) → TKs M H ys → KVs K M H acc (pV ay) → TKs M H ay → KVs K M H (DL.mergeT acc kvs) (pV (mergeX ay ys)) ∧ TKs M H (mergeX ay ys)
  | [], kvs, acc, ay, h, _, g, t => by
    have : kvs = [] := by cases kvs with | nil => rfl | cons _ _ => cases h.ks
    subst this
    exact ⟨g, t⟩
  | y :: ys, kvs, acc, ay, h, hk, g, t => by
    cases kvs with
    | nil => cases h.ks
    | cons kd kvs =>
      obtain ⟨v, zs, e, rv, h'⟩ := h.un (k := kd.1) (d := kd.2)
      have e : (y.1, y.2.2) :: pV ys = (kd.1, v) :: zs := e
      injection e with e1 e2
      have e3 : y.1 = kd.1 := (Prod.mk.inj e1).1
      have e4 : y.2.2 = v := (Prod.mk.inj e1).2
      rw [← e2] at h'
      have ky := hk y List.mem_cons_self
      have gp : KVs K M H (putD acc kd.1 kd.2) (pV (putX ay y.1 y.2.1 y.2.2)) := by
        rw [pV_put, e3, e4]
        exact g.put rv
      exact KVs.mergeT (ys := ys) (kvs := kvs) (acc := putD acc kd.1 kd.2) (ay := putX ay y.1 y.2.1 y.2.2) h' (fun z hz => hk z (List.mem_cons_of_mem _ hz)) gp (t.put ky.1 ky.2)
def dDictT : DRs := fun ds st Q => on1 ds fun x => onO (dDictP.seqL st x) fun xs => onO (prsT xs) fun kvs => Q (.ref st.length) (st ++ [.dT (DL.mergeT [] kvs)])
end
@[simp] theorem e_lenT {x : D} {st : DSt} {Q : DK} : dLenT [x] st Q = onDt st x fun _ kvs => Q (.int ((kvs.length : Nat) : Int)) st := rfl
@[simp] theorem e_sortKT {fin : DK → List D → DSt → Prop} {x : D} {st : DSt} {Q : DK} : dSortKT fin [x] st Q = onDt st x fun _ kvs => ∀ mk, mkOk mk → fin Q ((srtL (kvs.map (·.1))).map mk) st := rfl
@[simp] theorem e_dictT {x : D} {st : DSt} {Q : DK} : dDictT [x] st Q = onO (dDictP.seqL st x) fun xs => onO (prsT xs) fun kvs => Q (.ref st.length) (st ++ [.dT (DL.mergeT [] kvs)]) := rfl
def tupS : D → Option (List D)
  | .tup xs => some xs
  | .tuk xs => some xs
  | _ => none
def dAddK : DR2 := fun x y st Q => match y with
  | .tup ys => onO (tupS x) fun xs => (ys ≠ [] ∧ xs.length + ys.length ≤ sizeLine) ∧ Q (.tup (xs ++ ys)) st
  | _ => False
section
variable {T : List (Addr × Str)} {K : Frag} {X : Cx} {a b : Expr} {fa fb : DTE} {pos : Pos}
theorem tupS.rd {M : Pl} {H : Hp} {d : D} {v : V} {xs : List D} (r : RV K M H d v) (e : tupS d = some xs) : ∃ p us, v = .ref p ∧ SqT K H p us ∧ RVs K M H xs us := by
  cases r with
  | tup nn h z rs => cases e; exact ⟨_, _, rfl, .inl (.inr ⟨_, h⟩), rs⟩
  | tuk nn h rs => cases e; exact ⟨_, _, rfl, .inl (.inl h), rs⟩
  | _ => cases e
end
@[simp] theorem e_addK {x : D} {ys : List D} {st : DSt} {Q : DK} : dAddK x (.tup ys) st Q = onO (tupS x) fun xs => (ys ≠ [] ∧ xs.length + ys.length ≤ sizeLine) ∧ Q (.tup (xs ++ ys)) st := rfl
end DL
namespace DL
open PySem PySem.Spec PyProof.Rows L2 LamX PySem.W SL
section
variable {T : List (Addr × Str)} {X : Cx} {K : Frag} {M : Pl} {H : Hp} {st : DSt} {n : Nat} {a : Addr} {ob : Obj} {ys : TY} {kvs : List (List Int × D)}
theorem RS.put {u : O} (s : RS T K M st H) (hm : M.at_ n = some a) (ro : RO K M H u a) : RS T K M (st.set n u) H := by
  have ex : ∃ o, H a = some o ∧ ∀ ps, o ≠ .tbl ps := by
    rcases ro.mut with ⟨_, q⟩ | ⟨_, q⟩ | ⟨_, q, _⟩ | ⟨_, _, q⟩ | ⟨_, _, _, q⟩
    · exact ⟨_, q, fun ps z => by cases z⟩
    · exact ⟨_, q, fun ps z => by cases z⟩
    · exact ⟨_, q, TdO_ntb⟩
    · exact ⟨_, q, fun ps z => by cases z⟩
    · exact ⟨_, q, fun ps z => by cases z⟩
  obtain ⟨o, e, nt⟩ := ex
  have z : L2.upd H a o = H := upd_self e
  have w := s.write (u := u) (o := o) hm (by rw [z]; exact ro) nt
  rw [z] at w
  exact w
def sLockT (i : Nat) (F : DTS) : DTS := fun E r st => onOO r[i]? fun x => onDt st x fun n kvs => ∀ ob ys, F (lkE n (.lkT ob ys kvs) (.dT kvs) E) r (st.set n (.lkT ob ys kvs))
def dLockT (i : Nat) (f : DTE) : DTE := fun r st Q => onOO r[i]? fun x => onDt st x fun n kvs => ∀ ob ys, f r (st.set n (.lkT ob ys kvs)) fun d st1 => st1[n]? = some (.lkT ob ys kvs) ∧ Q d (st1.set n (.dT kvs))
end
section
variable {P : Program} {w : World} {K : PySem.W.Frag} {tg : Expr} {a : Addr} {ob : Obj} {ys : TY}
end
def onLkT (st : DSt) (x : D) (k : Nat → Obj → TY → List (List Int × D) → Prop) : Prop := match x with
  | .ref n => match st[n]? with | some (.lkT ob ys kvs) => k n ob ys kvs | _ => False
  | _ => False
theorem onLkT.of {st : DSt} {d : D} {k : Nat → Obj → TY → List (List Int × D) → Prop} (h : onLkT st d k) : ∃ n ob ys kvs, d = .ref n ∧ st[n]? = some (.lkT ob ys kvs) ∧ k n ob ys kvs := by
  cases d with
  | ref n =>
    unfold onLkT at h
    simp only at h
    split at h
    · rename_i ob ys kvs e
      exact ⟨n, ob, ys, kvs, rfl, e, h⟩
    · exact h.elim
  | _ => exact h.elim
def wKeysT (f : DTE) : DTI := fun r st R => f r st fun x st1 => onLkT st1 x fun n ob ys kvs => ∀ mk, mkOk mk → R ⟨kvs.map (fun kv => mk kv.1), some (n, .lkT ob ys kvs)⟩ st1
def onDtR (st : DSt) (x : D) (k : List (List Int × D) → Prop) : Prop := match x with
  | .ref n => match st[n]? with | some (.dT kvs) => k kvs | some (.lkT _ _ kvs) => k kvs | _ => False
  | _ => False
section
variable {T : List (Addr × Str)} {X : Cx} {K : Frag} {M : Pl} {H : Hp} {st : DSt} {a b : Expr} {fa fb : DTE} {pos : Pos}
theorem onDtR.rd {d : D} {v : V} {k : List (List Int × D) → Prop} (s : RS T K M st H) (r : RV K M H d v) (h : onDtR st d k) : ∃ a kvs ys, v = .ref a ∧ Td H a ys ∧ KVs K M H kvs (pV ys) ∧ TKs M H ys ∧ k kvs := by
  cases d with
  | ref n =>
    unfold onDtR at h
    simp only at h
    cases r with
    | ref hm =>
      split at h
      · rename_i kvs e
        obtain ⟨ys, e1, e2, e3, e4⟩ := s.obj n _ _ hm e
        exact ⟨_, kvs, ys, rfl, e1, ⟨by rw [pV_ks]; exact e2, by rw [pV_vs]; exact e3⟩, e4, h⟩
      · rename_i ob ys kvs e
        obtain ⟨e1, e2, e3, e4⟩ := s.obj n _ _ hm e
        exact ⟨_, kvs, ys, rfl, e1.td, ⟨by rw [pV_ks]; exact e2, by rw [pV_vs]; exact e3⟩, e4, h⟩
      · exact h.elim
  | _ => exact h.elim
def dGetTR : DR2 := fun x y st Q => onDtR st x fun kvs => onO (keyT y) fun k => onO (valD kvs k) fun d => Q d st
def dInTR (neg : Bool) (fy fd : DTE) : DTE := fun r st Q => fy r st fun y st1 => fd r st1 fun x st2 => onDtR st2 x fun kvs => onO (keyT y) fun k => Q (.bl (if neg then !(valD kvs k).isSome else (valD kvs k).isSome)) st2
end
@[simp] theorem e_lockT {i : Nat} {F : DTS} {E : DEnds} {r : DEnv} {st : DSt} : sLockT i F E r st = onOO r[i]? fun x => onDt st x fun n kvs => ∀ ob ys, F (lkE n (.lkT ob ys kvs) (.dT kvs) E) r (st.set n (.lkT ob ys kvs)) := rfl
@[simp] theorem e_dlockT {i : Nat} {f : DTE} {Q : DK} {r : DEnv} {st : DSt} : dLockT i f r st Q = onOO r[i]? fun x => onDt st x fun n kvs => ∀ ob ys, f r (st.set n (.lkT ob ys kvs)) fun d st1 => st1[n]? = some (.lkT ob ys kvs) ∧ Q d (st1.set n (.dT kvs)) := rfl
@[simp] theorem e_wKeysT {f : DTE} {r : DEnv} {st : DSt} {R : DIt → DSt → Prop} : wKeysT f r st R = f r st fun x st1 => onLkT st1 x fun n ob ys kvs => ∀ mk, mkOk mk → R ⟨kvs.map (fun kv => mk kv.1), some (n, .lkT ob ys kvs)⟩ st1 := rfl
@[simp] theorem e_getTR {x y : D} {st : DSt} {Q : DK} : dGetTR x y st Q = onDtR st x fun kvs => onO (keyT y) fun k => onO (valD kvs k) fun d => Q d st := rfl
@[simp] theorem e_inTR {neg : Bool} {fy fd : DTE} {r : DEnv} {st : DSt} {Q : DK} : dInTR neg fy fd r st Q = fy r st fun y st1 => fd r st1 fun x st2 => onDtR st2 x fun kvs => onO (keyT y) fun k => Q (.bl (if neg then !(valD kvs k).isSome else (valD kvs k).isSome)) st2 := rfl
end DL
namespace SL
open PySem PySem.Spec PyProof.Rows L2 LamX PySem.W PySem.Calls
section
variable {prog : Program} {w : World} {A : Around} {E : Value → Shared → Prop} {s : Shared} {r d : Addr} {n : Nat} {P : Nat → Value → Prop} {OK : Heap → Prop} {T : String} {fn : String} {kz : List PyData} {Q : Value → Shared → Prop}
end
end SL
namespace DL
open PySem PySem.Spec PyProof.Rows L2 LamX PySem.W SL PySem.Calls
def dSortLenT (fin : DK → List D → DSt → Prop) (f : DTE) : DTE := fun r st Q => f r st fun x st1 => onDt st1 x fun _ kvs => ∀ mk, mkOk mk → ∀ ks : List (List Int), ks.Perm (kvs.map (·.1)) → fin Q (ks.map mk) st1
@[simp] theorem e_sortLenT {fin : DK → List D → DSt → Prop} {f : DTE} {r : DEnv} {st : DSt} {Q : DK} : dSortLenT fin f r st Q = f r st fun x st1 => onDt st1 x fun _ kvs => ∀ mk, mkOk mk → ∀ ks : List (List Int), ks.Perm (kvs.map (·.1)) → fin Q (ks.map mk) st1 := rfl
end DL
namespace DL
open PySem PySem.Spec PyProof.Rows L2 LamX PySem.W SL
section
variable {X : Cx} {pins : List (Addr × Obj)} {σ : L2.St} {H : Hp} {s : Shared} {a b : Addr} {E : Value → Shared → Prop}
end
def dcL (n : Nat) (I : DIt) (g : DTG) (fk fv : DTE) (r : DEnv) (Q : DK) : List D → DSt → Prop
  | [], st => okI I st (Q (.ref n) st)
  | d :: ds, st => okI I st (g d r st fun r2 st2 => fk r2 st2 fun y st3 => fv r2 st3 fun z st4 => onDt st4 (.ref n) fun _ kvs => onO (keyT y) fun k => kvs.length < sizeLine ∧ dcL n I g fk fv r Q ds (st4.set n (.dT (putD kvs k z))))
def dDcT (f : DTI) (g : DTG) (fk fv : DTE) (vs : List Nat) : DTE := fun r st Q => f r st fun I st1 => dcL st1.length I g fk fv (wipeD r vs) Q I.items (st1 ++ [.dT []])
@[simp] theorem e_dcT {f : DTI} {g : DTG} {fk fv : DTE} {vs : List Nat} {r : DEnv} {st : DSt} {Q : DK} : dDcT f g fk fv vs r st Q = f r st fun I st1 => dcL st1.length I g fk fv (wipeD r vs) Q I.items (st1 ++ [.dT []]) := rfl
end DL
namespace DL
open PySem PySem.Spec PyProof.Rows L2 LamX PySem.W SL
def dSlKV : D → Option Int → Option Int → DSt → DK → Prop := fun x lo hi st Q => onO (tupS x) fun xs => Q (.tup (cutD xs lo hi)) st ∧ Q (.tuk (cutD xs lo hi)) st
def dSlK (f : DTE) (lo hi : DTO) : DTE := fun r st Q => f r st fun x st1 => lo r st1 fun l st2 => hi r st2 fun u st3 => dSlKV x l u st3 Q
section
variable {T : List (Addr × Str)} {X : Cx} {e : Expr} {f : DTE} {pos : Pos}
end
@[simp] theorem e_slK {f : DTE} {lo hi : DTO} {r : DEnv} {st : DSt} {Q : DK} : dSlK f lo hi r st Q = f r st fun x st1 => lo r st1 fun l st2 => hi r st2 fun u st3 => dSlKV x l u st3 Q := rfl
@[simp] theorem e_slKV {x : D} {lo hi : Option Int} {st : DSt} {Q : DK} : dSlKV x lo hi st Q = onO (tupS x) fun xs => Q (.tup (cutD xs lo hi)) st ∧ Q (.tuk (cutD xs lo hi)) st := rfl
end DL
namespace SL
open PySem PySem.Spec PyProof.Rows L2
section
variable {X : Cx} {k n : Nat} {f C : Addr} {fd : FuncData} {ps ks : List Str} {sp : Sp} {x m : Str} {p pos apos : Pos} {e o : Expr} {es : List Expr} {kws : List Keyword} {ta : TE} {t tk : TA}
theorem run_fnG {pins : List (Addr × Obj)} {σ : L2.St} {H : Hp} {s : Shared} {Q : VK} {us : List Value} {vs : List V} (F : FnG X.prog X.w X.K X.mg X.base k f fd ps sp) (gd : X.A.guards = some []) (room : Room k X.A) (bd : Binds X.K fd ps [])
    (I : Inv X pins σ H s) (r : Vals vs us) (h : sp vs H Q E0) : wpAny (model X.prog X.w) X.A (call (.ref f) us) (EP X pins σ Q) X.xe s := by
  have long : us.length = ps.length := by rw [← r.length]; exact F.size _ _ _ _ h
  have bd' := bd s us I.kIn (by rw [List.append_nil]; exact long)
  rw [List.append_nil] at bd'
  refine wpAny_call (codeAny_mono (F.go X.A X.stack s H ⟨us, []⟩ us vs Q E0 gd room I.env0 bd' r h) fun r s' here => ?_)
  cases r with
  | error _ => exact False.elim here
  | ok fl => cases fl with
    | ret _ => exact I.after here
    | next => exact False.elim here
    | brk => exact False.elim here
    | cont => exact False.elim here
theorem pe_methG {pl : Sem Bool} (he : PE X o ta) (c : Cls X.K C) (hm : Meth X.K C m f) (F : FnG X.prog X.w X.K X.mg X.base k f fd ps sp) (gd : X.A.guards = some []) (room : Room k X.A) (bd : Binds X.K fd ps []) (ha : PA X (e :: es) t)
    (hst : starEach (e :: es) X.env = (false, eval e X.env) :: starEach es X.env := by rfl) (hpl : (backTo pos (starEach es X.env)).any (·.1) = false := by rfl)
    (ht : eval (.Call (.Attribute o m apos) (e :: es) [] pos) X.env = (do
      let ov ← eval o X.env
      standAt apos.atName
      let (f, first) ← holding [ov] (getMethod ov m pl)
      callWith pos f first (backTo pos (starEach (e :: es) X.env)) (backToKw pos (keywordEach [] X.env))) := by rfl) :
    PE X (.Call (.Attribute o m apos) (e :: es) [] pos) (tMeth C m sp [] E0 ta t) := by
  constructor
  intro pins s σ H Q I h
  refine PySem.W.methodCall_KW (pl := pl) (thn (he.run pins s σ H _ I h) ?_) ht
  rintro u s1 ⟨z, H1, I1, rz, a, dx, fs, ez, ea, l, q⟩
  subst ez
  cases rz
  refine getmeth_ok I1 ea c hm l ?_
  refine PySem.W.callWith_K (first := [.ref a]) (h₀ := X.base) I.ok.mod.kin hm.kp (thn (ha.run pos pins s1 σ H1 _ I1 q) ?_) hst hpl
  rintro us s2 ⟨vs, H2, I2, r, q2⟩
  rw [List.append_nil] at q2
  exact ⟨I2.kIn, run_fnG (us := .ref a :: us) (vs := .ref a :: vs) F gd room bd I2 (.cons rfl r) q2⟩
theorem pe_methG0 {pl : Sem Bool} (he : PE X o ta) (c : Cls X.K C) (hm : Meth X.K C m f) (F : FnG X.prog X.w X.K X.mg X.base k f fd ps sp) (gd : X.A.guards = some []) (room : Room k X.A) (bd : Binds X.K fd ps [])
    (ht : eval (.Call (.Attribute o m apos) [] [] pos) X.env = (do
      let ov ← eval o X.env
      standAt apos.atName
      let (f, first) ← holding [ov] (getMethod ov m pl)
      callWith pos f first (backTo pos (starEach [] X.env)) (backToKw pos (keywordEach [] X.env))) := by rfl) :
    PE X (.Call (.Attribute o m apos) [] [] pos) (tMeth C m sp [] E0 ta tNil) := by
  constructor
  intro pins s σ H Q I h
  refine PySem.W.methodCall_KW (pl := pl) (thn (he.run pins s σ H _ I h) ?_) ht
  rintro u s1 ⟨z, H1, I1, rz, a, dx, fs, ez, ea, l, q⟩
  subst ez
  cases rz
  refine getmeth_ok I1 ea c hm l ?_
  exact PySem.W.callWith_K0 (first := [.ref a]) I1.kIn hm.kp (run_fnG (us := [.ref a]) (vs := [.ref a]) F gd room bd I1 (.cons rfl .nil) q)
def tMakeG (C : Addr) (n m : Nat) (sp : Sp) (gV : List V → List V → List V) (t tk : TA) : TE := fun σ H Q => t σ H fun vs H1 => tk σ H1 fun zs H2 => vs.length = n ∧ zs.length = m ∧ ∀ x dx, H2 x = none → H2 dx = none → dx ≠ x →
  sp (gV (.ref x :: vs) zs) (L2.upd (L2.upd H2 dx (.own x)) x (.ins C dx [])) (fun v H3 => v = .non ∧ Q (.ref x) H3) E0
variable {g : List Value → List Value → List Value} {gV : List V → List V → List V}
theorem run_makeG {pins : List (Addr × Obj)} {σ : L2.St} {H : Hp} {s : Shared} {Q : VK} {us ws : List Value} {vs zs : List V} (M : Mk X.K C f) (F : FnG X.prog X.w X.K X.mg X.base k f fd ps sp) (gd : X.A.guards = some []) (room : Room (k + 1) X.A) (hb : KBn X.K fd ps (n + 1) ks g gV)
    (I : Inv X pins σ H s) (r : Vals vs us) (rz : Vals zs ws) (l1 : vs.length = n) (l2 : zs.length = ks.length)
    (h : ∀ x dx, H x = none → H dx = none → dx ≠ x → sp (gV (.ref x :: vs) zs) (L2.upd (L2.upd H dx (.own x)) x (.ins C dx [])) (fun v H2 => v = .non ∧ Q (.ref x) H2) E0) :
    wpAny (model X.prog X.w) X.A (call (.ref C) us (ks.zip ws)) (EP X pins σ Q) X.xe s := by
  have q := h (s.heap.objs.size + 1) s.heap.objs.size (I.hok.fresh (Nat.le_succ _)) (I.hok.fresh (Nat.le_refl _)) (Nat.ne_of_lt (Nat.lt_succ_self _))
  have I2 := Inv.made (C := C) I
  have r2 := hb.rel (vs := V.ref (s.heap.objs.size + 1) :: vs) (us := Value.ref (s.heap.objs.size + 1) :: us) (.cons rfl r) rz
  have n1 : (Value.ref (s.heap.objs.size + 1) :: us).length = n + 1 := by rw [List.length_cons, ← r.length, l1]
  have b2 := hb.to _ (Value.ref (s.heap.objs.size + 1) :: us) ws I2.kIn n1 (rz.length.symm.trans l2)
  refine wpAny_call (make_map (f := f) I.kIn M.makes M.init (beq_iff_eq.mp M.fn) (codeAny_mono (F.go _ X.stack _ _ _ _ _ _ E0 (by exact gd) (room.make C us (ks.zip ws)) (I2.env0.make C us (ks.zip ws)) b2 r2 q) fun r s' here => ?_))
  cases r with
  | error _ => exact False.elim here
  | ok fl => cases fl with
    | ret u =>
      obtain ⟨v, H', I3, rv, ev, q3⟩ := I2.after here
      subst ev
      exact ⟨rv, ⟨V.ref (s.heap.objs.size + 1), H', I3, rfl, q3⟩⟩
    | next => exact False.elim here
    | brk => exact False.elim here
    | cont => exact False.elim here
theorem pe_makeG (M : Mk X.K C f) (F : FnG X.prog X.w X.K X.mg X.base k f fd ps sp) (gd : X.A.guards = some []) (room : Room (k + 1) X.A) (gl : Gl X x) (at_ : X.mg x = some (.ref C)) (hb : KBn X.K fd ps (n + 1) ks g gV) (ha : PA X (e :: es) t) (hkw : PK X kws tk)
    (hall : (backToKw pos (keywordEach kws X.env)).all (·.1.isSome) = true := by rfl) (hks : (backToKw pos (keywordEach kws X.env)).filterMap (·.1) = ks := by rfl) (hdb : (x == ("__debug__" : Str)) = false := by decide)
    (he : starEach (e :: es) X.env = (false, eval e X.env) :: starEach es X.env := by rfl) (hpl : ((backTo pos (starEach (e :: es) X.env)).any (·.1) || (backToKw pos (keywordEach kws X.env)).any (·.1.isNone)) = false := by rfl) :
    PE X (.Call (.Name x p) (e :: es) kws pos) (tMakeG C n ks.length sp gV t tk) := by
  constructor
  intro pins s σ H Q I h
  refine wpAny_Call_Name_kw (ld_glob I gl at_ ?_ hdb)
  refine PySem.W.callWith_KW (h₀ := X.base) I.ok.mod.kin M.kp hall (thn (ha.run pos pins s σ H _ I h) ?_) hpl he
  rintro us s1 ⟨vs, H1, I1, r, q⟩
  refine thn (hkw.run pos pins s1 σ H1 _ I1 q) ?_
  rintro ws s2 ⟨zs, H2, I2, rz, l1, l2, q2⟩
  refine ⟨I2.kIn, ?_⟩
  rw [hks]
  exact run_makeG M F gd room hb I2 r rz l1 l2 q2
end
end SL
namespace DL
open PySem PySem.Spec PyProof.Rows L2 LamX PySem.W SL
def onIns (C : Addr) (st : DSt) (d : D) (k : Nat → List (Str × D) → Prop) : Prop := match d with
  | .ref n => match st[n]? with | some (.ins C' fs) => C' = C ∧ k n fs | _ => False
  | _ => False
theorem onIns_ref {C : Addr} {st : DSt} {n : Nat} {fs : List (Str × D)} {k : Nat → List (Str × D) → Prop} (h : st[n]? = some (.ins C fs)) : onIns C st (.ref n) k = k n fs := by
  unfold onIns
  simp only [h, true_and]
theorem onIns.of {C : Addr} {st : DSt} {d : D} {k : Nat → List (Str × D) → Prop} (h : onIns C st d k) : ∃ n fs, d = .ref n ∧ st[n]? = some (.ins C fs) ∧ k n fs := by
  cases d with
  | ref n =>
    unfold onIns at h
    simp only at h
    split at h
    · rename_i C' fs e; exact ⟨n, fs, rfl, by rw [e, h.1], h.2⟩
    · exact h.elim
  | _ => exact h.elim
theorem lookup_rd {K : Frag} {M : Pl} {H : Hp} {f : Str} : ∀ {fs : List (Str × D)} {ys : List (Str × V)}, fs.map (·.1) = ys.map (·.1) → RVs K M H (fs.map (·.2)) (ys.map (·.2)) →
    (∀ d, fs.lookup f = some d → ∃ v, ys.lookup f = some v ∧ RV K M H d v) ∧ (fs.lookup f = none → ys.lookup f = none)
  | [], [], _, _ => ⟨fun d h => (by cases h), fun _ => rfl⟩
  | [], _ :: _, e, _ => by cases e
  | _ :: _, [], e, _ => by cases e
  | (a, d) :: fs, (b, v) :: ys, e, r => by
    rw [List.map_cons, List.map_cons] at e r
    obtain ⟨e1, e2⟩ := List.cons.inj e
    have e1 : a = b := e1
    subst e1
    cases r with
    | cons r1 r2 =>
      have ih := lookup_rd (f := f) e2 r2
      rw [List.lookup_cons, List.lookup_cons]
      cases q : (f == a) with
      | true => exact ⟨fun d' h => ⟨v, rfl, (by cases h; exact r1)⟩, fun h => (by cases h)⟩
      | false => exact ih
def putFD (f : Str) (d : D) : List (Str × D) → List (Str × D)
  | [] => [(f, d)]
  | (a, x) :: r => if a = f then (a, d) :: r else (a, x) :: putFD f d r
theorem putFD_rd {K : Frag} {M : Pl} {H : Hp} {f : Str} {d : D} {v : V} (r : RV K M H d v) : ∀ {fs : List (Str × D)} {ys : List (Str × V)}, fs.map (·.1) = ys.map (·.1) → RVs K M H (fs.map (·.2)) (ys.map (·.2)) →
    (putFD f d fs).map (·.1) = (putF f v ys).map (·.1) ∧ RVs K M H ((putFD f d fs).map (·.2)) ((putF f v ys).map (·.2))
  | [], [], _, _ => ⟨rfl, .cons r .nil⟩
  | [], _ :: _, e, _ => by cases e
  | _ :: _, [], e, _ => by cases e
  | (a, x) :: fs, (b, y) :: ys, e, rr => by
    rw [List.map_cons, List.map_cons] at e rr
    obtain ⟨e1, e2⟩ := List.cons.inj e
    have e1 : a = b := e1
    subst e1
    cases rr with
    | cons r1 r2 =>
      have ih := putFD_rd (f := f) r e2 r2
      unfold putFD putF
      by_cases q : a = f
      · rw [if_pos q, if_pos q]
        exact ⟨by rw [List.map_cons, List.map_cons, e2], .cons r r2⟩
      · rw [if_neg q, if_neg q]
        exact ⟨by rw [List.map_cons, List.map_cons, ih.1], .cons r1 ih.2⟩
section
variable {T : List (Addr × Str)} {X : Cx} {C : Addr} {e o : Expr} {f : Str} {fe fo fv : DTE} {pos pos' : Pos}
theorem ins_rd {K : Frag} {M : Pl} {H : Hp} {st : DSt} {n : Nat} {v : V} {fs : List (Str × D)} (s : RS T K M st H) (r : RV K M H (.ref n) v) (h : st[n]? = some (.ins C fs)) : ∃ a dx ys, v = .ref a ∧ M.at_ n = some a ∧ H a = some (.ins C dx ys) ∧ fs.map (·.1) = ys.map (·.1) ∧ RVs K M H (fs.map (·.2)) (ys.map (·.2)) := by
  cases r with
  | ref hm =>
    obtain ⟨dx, ys, h1, h2, h3⟩ := s.obj n _ _ hm h
    exact ⟨_, dx, ys, rfl, hm, h1, h2, h3⟩
def dFld (C : Addr) (f : Str) (fe : DTE) : DTE := fun r st Q => fe r st fun x st1 => onIns C st1 x fun _ fs => onO (fs.lookup f) fun d => Q d st1
theorem de_fld (c : Cls X.K C) (na : NoAttr X.K C f) (he : DE T X e fe) (hb : attributeBase e f X.env (eval e X.env) = eval e X.env := by rfl) : DE T X (.Attribute e f pos) (dFld C f fe) :=
  PE.imp (pe_fld he hb) fun σ H Q ⟨M, ρ, st, Q', s, re, hf, k⟩ => ⟨M, ρ, st, _, s, re, hf, fun M1 H1 st1 x vx g1 s1 r1 h1 => by
    obtain ⟨n, fs, rfl, e1, h2⟩ := onIns.of h1
    obtain ⟨d, e2, q⟩ := onO.of h2
    obtain ⟨a, dx, ys, rfl, hm, ha, e3, rs⟩ := ins_rd s1 r1 e1
    obtain ⟨v, lv, rv⟩ := (lookup_rd (f := f) e3 rs).1 d e2
    exact ⟨a, C, dx, ys, v, rfl, ha, c, na, lv, (k.grow g1).here s1 rv q⟩⟩
def sFldD (C : Addr) (f : Str) (fv fo : DTE) : DTS := fun E r st => fv r st fun y st1 => fo r st1 fun x st2 => onIns C st2 x fun n fs => fs.length ≤ 900 ∧ E.nx r (st2.set n (.ins C (putFD f y fs)))
theorem ds_fld {value : Expr} (c : Cls X.K C) (na : NoAttr X.K C f) (ho : DE T X o fo) (hv : DE T X value fv) (hs : swapsWith value (some (.Attribute o f pos')) pos.line X.env = pure false := by rfl) : DSt1 T X (.Assign [.Attribute o f pos'] value pos) (sFldD C f fv fo) :=
  PS.imp (ps_fld ho hv hs) fun E σ H ⟨M, r, st, E', s, re, h, k⟩ => ⟨M, r, st, _, s, re, h, fun M1 H1 st1 y vy g1 s1 r1 h1 => ⟨M1, r, st1, _, s1, re.grow g1, h1, fun M2 H2 st2 x vx g2 s2 r2 h2 => by
    obtain ⟨n, fs, rfl, e1, l, h3⟩ := onIns.of h2
    obtain ⟨a, dx, ys, rfl, hm, ha, e3, rs⟩ := ins_rd s2 r2 e1
    have ll : ys.length = fs.length := by
      have := congrArg List.length e3
      rw [List.length_map, List.length_map] at this
      exact this.symm
    refine ⟨a, C, dx, ys, rfl, ha, c, na, by omega, ?_⟩
    have rv := r1.grow g2
    have gw : Grow M2 H2 M2 (L2.upd H2 a (.ins C dx (putF f vy ys))) := Grow.write s2.nd hm
    obtain ⟨p1, p2⟩ := putFD_rd (f := f) rv e3 rs
    exact (((k.nx).grow g1).grow g2) M2 _ σ r _ gw (s2.write (u := .ins C (putFD f y fs)) hm ⟨dx, _, upd_same, p1, p2.grow gw⟩) (((re.grow g1).grow g2).grow gw) h3⟩⟩
def dMeth (C : Addr) (m : Str) (g : DRs) (fo : DTE) (fs : DTA) : DTE := fun r st Q => fo r st fun x st1 => onIns C st1 x fun _ af => af.lookup m = none ∧ fs r st1 fun ds st2 => g (x :: ds) st2 Q
variable {k : Nat} {fn : Addr} {fd : FuncData} {ps : List Str} {g : DRs} {m : Str} {es : List Expr} {fs : DTA} {apos : Pos} {e1 : Expr}
theorem de_meth {pl : Sem Bool} (c : Cls X.K C) (hm : Meth X.K C m fn) (F : FnD X.prog X.w X.K X.mg X.base T k fn fd ps g) (gd : X.A.guards = some []) (room : Room k X.A) (bd : Binds X.K fd ps []) (he : DE T X o fo) (ha : DA T X (e1 :: es) fs)
    (hst : starEach (e1 :: es) X.env = (false, eval e1 X.env) :: starEach es X.env := by rfl) (hpl : (backTo pos (starEach es X.env)).any (·.1) = false := by rfl)
    (ht : eval (.Call (.Attribute o m apos) (e1 :: es) [] pos) X.env = (do
      let ov ← eval o X.env
      standAt apos.atName
      let (f, first) ← holding [ov] (getMethod ov m pl)
      callWith pos f first (backTo pos (starEach (e1 :: es) X.env)) (backToKw pos (keywordEach [] X.env))) := by rfl) :
    DE T X (.Call (.Attribute o m apos) (e1 :: es) [] pos) (dMeth C m g fo fs) :=
  PE.imp (pe_methG (pl := pl) he c hm F.fn gd room bd ha hst hpl ht) fun σ H Q ⟨M, r, st, Q', s, re, h, k⟩ => ⟨M, r, st, _, s, re, h, fun M1 H1 st1 x vx g1 s1 r1 h1 => by
    obtain ⟨n, af, rfl, e1, l, h2⟩ := onIns.of h1
    obtain ⟨a, dx, ys, rfl, hm, ha, e3, rs⟩ := ins_rd s1 r1 e1
    refine ⟨a, dx, ys, rfl, ha, (lookup_rd (f := m) e3 rs).2 l, M1, r, st1, _, s1, re.grow g1, h2, fun M2 H2 st2 ds vs g2 s2 r2 q => ?_⟩
    show spD T X.K ps.length g (V.ref a :: (vs ++ [])) H2 Q E0
    rw [List.append_nil]
    have rr : RVs X.K M2 H2 (.ref n :: ds) (.ref a :: vs) := .cons (r1.grow g2) r2
    exact ⟨by rw [← rr.length]; exact F.ar _ _ _ q, M2, st2, _, Q', s2, rr, q, (k.grow g1).grow g2⟩⟩
theorem de_meth0 {pl : Sem Bool} (c : Cls X.K C) (hm : Meth X.K C m fn) (F : FnD X.prog X.w X.K X.mg X.base T k fn fd ps g) (gd : X.A.guards = some []) (room : Room k X.A) (bd : Binds X.K fd ps []) (he : DE T X o fo)
    (ht : eval (.Call (.Attribute o m apos) [] [] pos) X.env = (do
      let ov ← eval o X.env
      standAt apos.atName
      let (f, first) ← holding [ov] (getMethod ov m pl)
      callWith pos f first (backTo pos (starEach [] X.env)) (backToKw pos (keywordEach [] X.env))) := by rfl) :
    DE T X (.Call (.Attribute o m apos) [] [] pos) (dMeth C m g fo daNil) :=
  PE.imp (pe_methG0 (pl := pl) he c hm F.fn gd room bd ht) fun σ H Q ⟨M, r, st, Q', s, re, h, k⟩ => ⟨M, r, st, _, s, re, h, fun M1 H1 st1 x vx g1 s1 r1 h1 => by
    obtain ⟨n, af, rfl, e1, l, h2⟩ := onIns.of h1
    obtain ⟨a, dx, ys, rfl, hm, ha, e3, rs⟩ := ins_rd s1 r1 e1
    refine ⟨a, dx, ys, rfl, ha, (lookup_rd (f := m) e3 rs).2 l, ?_⟩
    have q : g [.ref n] st1 Q' := h2
    have rr : RVs X.K M1 H1 [.ref n] [.ref a] := .cons r1 .nil
    exact ⟨by rw [List.append_nil, ← rr.length]; exact F.ar _ _ _ q, M1, st1, _, Q', s1, rr, q, k.grow g1⟩⟩
def dMk (C : Addr) (n m : Nat) (gD : List D → List D → List D) (g : DRs) (fs fk : DTA) : DTE := fun r st Q => fs r st fun ds st1 => fk r st1 fun es st2 => ds.length = n ∧ es.length = m ∧ g (gD (.ref st2.length :: ds) es) (st2 ++ [.ins C []]) fun v st3 => v = .non ∧ Q (.ref st2.length) st3
def RelG (K : Frag) (gD : List D → List D → List D) (gV : List V → List V → List V) : Prop := ∀ (M : Pl) (H : Hp) (ds es : List D) (vs zs : List V), RVs K M H ds vs → RVs K M H es zs → RVs K M H (gD ds es) (gV vs zs)
theorem made_at {K : Frag} {M2 : Pl} {H2 : Hp} {st2 : DSt} {x dx : Addr} {ds es : List D} {vs zs : List V} {Q' : DK} {Q : VK} {gD : List D → List D → List D} {gV : List V → List V → List V} {n : Nat} (ng : ∀ ds st Q, g ds st Q → ds.length = n) (rl : RelG K gD gV) (s2 : RS T K M2 st2 H2) (r1 : RVs K M2 H2 ds vs) (r2 : RVs K M2 H2 es zs) (k2 : Kn T K M2 H2 Q' Q) (nx : H2 x = none) (ndx : H2 dx = none) (ne : dx ≠ x)
    (q : g (gD (.ref st2.length :: ds) es) (st2 ++ [.ins C []]) fun v st3 => v = .non ∧ Q' (.ref st2.length) st3) : spD T K n g (gV (.ref x :: vs) zs) (L2.upd (L2.upd H2 dx (.own x)) x (.ins C dx [])) (fun v H3 => v = .non ∧ Q (.ref x) H3) E0 := by
  have s3 := s2.new (o := .own x) ndx
  have nx3 : (L2.upd H2 dx (.own x)) x = none := by rw [upd_ne ne.symm]; exact nx
  have g3 : Grow M2 H2 M2 (L2.upd H2 dx (.own x)) := Grow.new s2.hid ndx
  have g4 : Grow M2 (L2.upd H2 dx (.own x)) (M2.app [x]) (L2.upd (L2.upd H2 dx (.own x)) x (.ins C dx [])) := Grow.place s3.hid nx3
  have s4 := s3.place (u := .ins C []) (o := .ins C dx []) nx3 ⟨dx, [], upd_same, rfl, .nil⟩
  have gg := g3.trans g4
  have hx : RV K (M2.app [x]) (L2.upd (L2.upd H2 dx (.own x)) x (.ins C dx [])) (.ref st2.length) (.ref x) := .ref (by unfold Pl.at_; show (M2.m ++ [x])[M2.h + st2.length]? = some x; rw [← s2.len]; simp)
  have rr := rl _ _ _ _ _ _ (RVs.cons hx (r1.grow gg)) (r2.grow gg)
  refine ⟨by rw [← rr.length]; exact ng _ _ _ q, _, _, _, _, s4, rr, q, fun M5 H5 st5 d v g5 s5 r5 h5 => ?_⟩
  obtain ⟨rfl, h6⟩ := h5
  cases r5
  exact ⟨rfl, k2 M5 H5 st5 _ _ (gg.trans g5) s5 (hx.grow g5) h6⟩
variable {ks : List Str} {x : Str} {p : Pos} {kws : List Keyword} {fk : DTA} {gD : List D → List D → List D} {gV : List V → List V → List V} {gg : List Value → List Value → List Value} {n : Nat}
theorem de_mk (Mk_ : L2.Mk X.K C fn) (F : FnD X.prog X.w X.K X.mg X.base T k fn fd ps g) (gd : X.A.guards = some []) (room : Room (k + 1) X.A) (gl : Gl X x) (at_ : X.mg x = some (.ref C)) (hb : KBn X.K fd ps (n + 1) ks gg gV) (rl : RelG X.K gD gV) (ha : DA T X (e1 :: es) fs) (hkw : DKw T X kws fk)
    (hall : (backToKw pos (keywordEach kws X.env)).all (·.1.isSome) = true := by rfl) (hks : (backToKw pos (keywordEach kws X.env)).filterMap (·.1) = ks := by rfl) (hdb : (x == ("__debug__" : Str)) = false := by decide)
    (he : starEach (e1 :: es) X.env = (false, eval e1 X.env) :: starEach es X.env := by rfl) (hpl : ((backTo pos (starEach (e1 :: es) X.env)).any (·.1) || (backToKw pos (keywordEach kws X.env)).any (·.1.isNone)) = false := by rfl) :
    DE T X (.Call (.Name x p) (e1 :: es) kws pos) (dMk C n ks.length gD g fs fk) :=
  PE.imp (pe_makeG Mk_ F.fn gd room gl at_ hb ha hkw hall hks hdb he hpl) fun σ H Q ⟨M, r, st, Q', s, re, h, k⟩ => ⟨M, r, st, _, s, re, h, fun M1 H1 st1 ds vs g1 s1 r1 h1 => ⟨M1, r, st1, _, s1, re.grow g1, h1, fun M2 H2 st2 es zs g2 s2 r2 h2 => by
    obtain ⟨l1, l2, q⟩ := h2
    exact ⟨by rw [← r1.length]; exact l1, by rw [← r2.length]; exact l2, fun x dx nx ndx ne => made_at F.ar rl s2 (r1.grow g2) r2 ((k.grow g1).grow g2) nx ndx ne q⟩⟩⟩
end
section
variable {C : Addr} {f : Str} {fe fo fv : DTE} {r : DEnv} {st : DSt} {Q : DK} {E : DEnds} {g : DRs} {fs fk : DTA} {n m : Nat} {gD : List D → List D → List D}
@[simp] theorem e_fld : dFld C f fe r st Q = fe r st fun x st1 => onIns C st1 x fun _ fs => onO (fs.lookup f) fun d => Q d st1 := rfl
@[simp] theorem e_sFld : sFldD C f fv fo E r st = fv r st fun y st1 => fo r st1 fun x st2 => onIns C st2 x fun n fs => fs.length ≤ 900 ∧ E.nx r (st2.set n (.ins C (putFD f y fs))) := rfl
@[simp] theorem e_meth {m : Str} : dMeth C m g fo fs r st Q = fo r st fun x st1 => onIns C st1 x fun _ af => af.lookup m = none ∧ fs r st1 fun ds st2 => g (x :: ds) st2 Q := rfl
@[simp] theorem e_mk : dMk C n m gD g fs fk r st Q = fs r st fun ds st1 => fk r st1 fun es st2 => ds.length = n ∧ es.length = m ∧ g (gD (.ref st2.length :: ds) es) (st2 ++ [.ins C []]) fun v st3 => v = .non ∧ Q (.ref st2.length) st3 := rfl
end
end DL
namespace DL
open PySem PySem.Spec PyProof.Rows L2 LamX PySem.W SL
def onS (d : D) (k : Str → Prop) : Prop := match d with | .str z => k z | _ => False
theorem onS.of {d : D} {k : Str → Prop} (h : onS d k) : ∃ z, d = .str z ∧ k z := by
  cases d with
  | str z => exact ⟨z, rfl, h⟩
  | _ => exact h.elim
def strsD : List D → Option (List Str)
  | [] => some []
  | .str z :: r => (strsD r).map (z :: ·)
  | _ :: _ => none
theorem strsD_of : ∀ {ds : List D} {zs : List Str}, strsD ds = some zs → ds = zs.map D.str
  | [], _, h => by cases h; rfl
  | d :: r, zs, h => by
    cases d with
    | str z =>
      unfold strsD at h
      obtain ⟨ys, e, rfl⟩ := Option.map_eq_some_iff.mp h
      rw [strsD_of e]
      rfl
    | _ => cases h
theorem strsD_strs : ∀ zs : List Str, strsD (zs.map D.str) = some zs
  | [] => rfl
  | z :: r => by
    rw [List.map_cons]
    unfold strsD
    rw [strsD_strs r]
    rfl
theorem RVs.strs {K : Frag} {M : Pl} {H : Hp} : ∀ {zs : List Str} {vs : List V}, RVs K M H (zs.map D.str) vs → vs = zs.map V.str
  | [], _, .nil => rfl
  | z :: r, _, .cons h t => by
    cases h
    rw [RVs.strs t]
    rfl
theorem RVs.of_strs {K : Frag} {M : Pl} {H : Hp} : ∀ (zs : List Str), RVs K M H (zs.map D.str) (zs.map V.str)
  | [] => .nil
  | z :: r => .cons (.str z) (RVs.of_strs r)
section
variable {T : List (Addr × Str)} {X : Cx} {K : Frag} {a b e o : Expr} {es : List Expr} {fa fb fe fo : DTE} {pos : Pos}
theorem de_globS {x : Str} {i : Str} {u : Value} {pos : Pos} (hg : Gl X x) (hm : X.mg x = some u) (r : RelV (.str i) u) (hd : (x == ("__debug__" : Str)) = false := by decide) : DE T X (.Name x pos) (dC (.str i)) :=
  de_const (pe_glob hg hm r hd) fun _ _ => .str i
def dIxA : DR2 := fun x y st Q => match x with
  | .str z => onI y fun i => z.length ≤ sizeLine ∧ onO (atI z.cps.toList i) fun c => Q (.str ⟨#[c]⟩) st
  | d => dIx d y st Q
theorem opD_ixA {r : R2} (h0 : OpD T K r dIx) : OpD T K (fun x y H Q => r x y H Q ∨ rIxS x y H Q) dIxA := by
  intro M H st x y vx vy Q' Q s rx ry h k
  unfold dIxA at h
  split at h
  · rename_i z
    obtain ⟨i, rfl, l, h2⟩ := onI.of h
    obtain ⟨c, e, q⟩ := onO.of h2
    cases rx
    cases ry
    exact .inr ⟨z, i, c, rfl, rfl, l, e, k.here s (.str _) q⟩
  · exact .inl (h0 M H st _ y vx vy Q' Q s rx ry h k)
theorem de_ixA (ha : DE T X a fa) (hb : DE T X b fb) (hs : PlainIx b) : DE T X (.Subscript a b pos) (dOp dIxA fa fb) := PE.imp (pe_ix (IxR.or ix_seq ix_str) ha hb hs) fun _ _ _ h => lift2 (opD_ixA opD_ix) h
def dLenA : DRs := fun ds st Q => on1 ds fun x => match x with
  | .str z => z.length ≤ sizeLine ∧ Q (.int z.length) st
  | d => dLen [d] st Q
def rLenA (K : Frag) : List V → Hp → VK → Prop := fun xs H Q => (∃ p ys, xs = [.ref p] ∧ (SqL K H p ys ∨ SqT K H p ys) ∧ Q (.int ys.length) H) ∨ ∃ z, xs = [.str z] ∧ z.length ≤ sizeLine ∧ Q (.int z.length) H
theorem call_lenA : CallR X (.builtin "len") (rLenA X.K) := CallR.or call_len_seq call_len_str
theorem callD_lenA : CallD T K (rLenA K) dLenA := by
  intro M H st ds vs Q' Q s r h k
  obtain ⟨x, rfl, h1⟩ := on1.of h
  cases x with
  | str z =>
    obtain ⟨l, q⟩ := h1
    obtain ⟨v, rfl, rv⟩ := r.one
    cases rv
    exact .inr ⟨z, rfl, l, k.here s (.int _) q⟩
  | _ => exact .inl (callD_len M H st _ vs Q' Q s r h1 k)
def sgnsD (z : Str) : List D := z.cps.toList.map fun c => D.str ⟨#[c]⟩
def wStr (f : DTE) : DTI := fun r st R => f r st fun x st1 => onS x fun z => R ⟨sgnsD z, none⟩ st1
theorem itok_str {M : Pl} {H : Hp} {z : Str} : ItOk T K M H (Its z) ⟨sgnsD z, none⟩ := by
  refine ⟨fun M' H' st' l s ok i d e => ?_, fun M' H' st' l s ok => ?_⟩
  · unfold sgnsD at e
    rw [List.getElem?_map] at e
    obtain ⟨c, hc, rfl⟩ := Option.map_eq_some_iff.mp e
    have lt : i < z.cps.size := by
      have := (List.getElem?_eq_some_iff.mp hc).1
      simpa using this
    refine ⟨lt, fun x H'' ⟨e1, c2, e2, e3⟩ => ?_⟩
    subst e1
    subst e3
    rw [Array.getElem?_toList] at hc
    rw [hc] at e2
    cases e2
    exact ⟨Grow.refl _ _, s, .str _⟩
  · show z.cps.size ≤ (sgnsD z).length
    unfold sgnsD
    simp
theorem di_str {tg : Expr} (ha : DE T X e fe) : DI T X tg e (wStr fe) :=
  PI.imp (pi_str ha) fun σ H R ⟨M, r, st, R', s, re, h, k⟩ => ⟨M, r, st, _, s, re, h, fun M1 H1 st1 x v g1 s1 r1 q => by
    obtain ⟨z, rfl, q⟩ := onS.of q
    cases r1
    exact ⟨z, rfl, k M1 H1 st1 _ _ g1 s1 q itok_str⟩⟩
def dJoin (fo fe : DTE) : DTE := fun r st Q => fo r st fun x st1 => onS x fun a => fe r st1 fun y st2 => onO (seqS st2 y) fun ds => onO (strsD ds) fun zs => (zs.map (·.length)).sum + zs.length * a.length ≤ 16777216 ∧ Q (.str (Txt.join a zs)) st2
theorem de_join {apos : Pos} (ho : DE T X o fo) (he : DE T X e fe) (hs : starEach [e] X.env = [(false, eval e X.env)] := by rfl) (hbase : attributeBase o "join" X.env (eval o X.env) = eval o X.env := by rfl) (hline : (apos.endLine == pos.line) = true := by rfl) :
    DE T X (.Call (.Attribute o "join" apos) [e] [] pos) (dJoin fo fe) :=
  PE.imp (pe_join ho he hs hbase hline) fun σ H Q ⟨M, r, st, Q', s, re, h, k⟩ => ⟨M, r, st, _, s, re, h, fun M1 H1 st1 x vx g1 s1 r1 q => by
    obtain ⟨a, rfl, q⟩ := onS.of q
    cases r1
    refine ⟨⟨a, rfl⟩, M1, r, st1, _, s1, re.grow g1, q, fun M2 H2 st2 y vy g2 s2 r2 q2 => ?_⟩
    obtain ⟨ds, e1, q2⟩ := onO.of q2
    obtain ⟨zs, e2, l, q3⟩ := onO.of q2
    have e2 := strsD_of e2
    subst e2
    obtain ⟨p, us, rfl, sq, rs⟩ := seqS.rd s2 r2 e1
    have z := rs.strs
    subst z
    exact ⟨a, p, zs, rfl, rfl, sq, l, ((k.grow g1).grow g2).here s2 (.str _) q3⟩⟩
def dSIdx (fo fe : DTE) : DTE := fun r st Q => fo r st fun x st1 => onS x fun a => fe r st1 fun y st2 => onS y fun b => ∃ i rest, Builtin.Str.occurrences a b 0 a.length 1 = i :: rest ∧ Q (.int (i : Nat)) st2
theorem de_sidx {apos : Pos} (ho : DE T X o fo) (he : DE T X e fe) (hs : starEach [e] X.env = [(false, eval e X.env)] := by rfl) (hbase : attributeBase o "index" X.env (eval o X.env) = eval o X.env := by rfl) (hline : (apos.endLine == pos.line) = true := by rfl) :
    DE T X (.Call (.Attribute o "index" apos) [e] [] pos) (dSIdx fo fe) :=
  PE.imp (pe_m1 PySem.F.slot_str_index PySem.F.type_str_index mt_sindex ho he hs hbase hline) fun σ H Q ⟨M, r, st, Q', s, re, h, k⟩ => ⟨M, r, st, _, s, re, h, fun M1 H1 st1 x vx g1 s1 r1 q => by
    obtain ⟨a, rfl, q⟩ := onS.of q
    cases r1
    refine ⟨⟨a, rfl⟩, M1, r, st1, _, s1, re.grow g1, q, fun M2 H2 st2 y vy g2 s2 r2 q2 => ?_⟩
    obtain ⟨b, rfl, i, rest, e1, q3⟩ := onS.of q2
    cases r2
    exact ⟨a, b, i, rest, rfl, rfl, e1, ((k.grow g1).grow g2).here s2 (.int _) q3⟩⟩
def dLtS : DR2 := fun x y st Q => onS x fun a => onS y fun b => Q (.bl (decide (a.cps.toList < b.cps.toList))) st
theorem opD_ltS : OpD T K (fun x y H Q => ∃ i j, x = .str i ∧ y = .str j ∧ Q (.bl (decide (i.cps.toList < j.cps.toList))) H) dLtS := by
  intro M H st x y vx vy Q' Q s rx ry h k
  obtain ⟨a, rfl, h1⟩ := onS.of h
  obtain ⟨b, rfl, q⟩ := onS.of h1
  cases rx
  cases ry
  exact ⟨a, b, rfl, rfl, k.here s (.bl _) q⟩
def dInS : DR2 := fun x y st Q => onS x fun a => onS y fun b => Q (.bl (!(Builtin.Str.occurrences b a 0 b.length 1).isEmpty)) st
theorem opD_inS : OpD T K (fun x y H Q => ∃ i j, x = .str i ∧ y = .str j ∧ Q (.bl (!(Builtin.Str.occurrences j i 0 j.length 1).isEmpty)) H) dInS := by
  intro M H st x y vx vy Q' Q s rx ry h k
  obtain ⟨a, rfl, h1⟩ := onS.of h
  obtain ⟨b, rfl, q⟩ := onS.of h1
  cases rx
  cases ry
  exact ⟨a, b, rfl, rfl, k.here s (.bl _) q⟩
def dAddS : DR2 := fun x y st Q => onS x fun a => onS y fun b => a.length + b.length ≤ sizeLine ∧ Q (.str (a ++ b)) st
theorem opD_addS : OpD T K (fun x y H Q => ∃ i j, x = .str i ∧ y = .str j ∧ i.length + j.length ≤ sizeLine ∧ Q (.str (i ++ j)) H) dAddS := by
  intro M H st x y vx vy Q' Q s rx ry h k
  obtain ⟨a, rfl, h1⟩ := onS.of h
  obtain ⟨b, rfl, l, q⟩ := onS.of h1
  cases rx
  cases ry
  exact ⟨a, b, rfl, rfl, l, k.here s (.str _) q⟩
theorem de_addS (ha : DE T X a fa) (hb : DE T X b fb) : DE T X (.BinOp a .Add b pos) (dOp dAddS fa fb) := de_op op_add_str opD_addS ha hb
end
section
variable {fa fb fe fo : DTE} {r : DEnv} {st : DSt} {Q : DK} {R : DIt → DSt → Prop} {z b : Str} {d y : D}
@[simp] theorem e_onS {k : Str → Prop} : onS (.str z) k = k z := rfl
@[simp] theorem e_ixAS : dIxA (.str z) y st Q = onI y fun i => z.length ≤ sizeLine ∧ onO (atI z.cps.toList i) fun c => Q (.str ⟨#[c]⟩) st := rfl
@[simp] theorem e_ixAT {ds : List D} : dIxA (.tup ds) y st Q = dIx (.tup ds) y st Q := rfl
@[simp] theorem e_ixAK {ds : List D} : dIxA (.tuk ds) y st Q = dIx (.tuk ds) y st Q := rfl
@[simp] theorem e_ixAL {ds : List D} : dIxA (.lst ds) y st Q = dIx (.lst ds) y st Q := rfl
@[simp] theorem e_ixAR {n : Nat} : dIxA (.ref n) y st Q = dIx (.ref n) y st Q := rfl
@[simp] theorem e_lenAS : dLenA [.str z] st Q = (z.length ≤ sizeLine ∧ Q (.int z.length) st) := rfl
@[simp] theorem e_lenAT {ds : List D} : dLenA [.tup ds] st Q = dLen [.tup ds] st Q := rfl
@[simp] theorem e_lenAK {ds : List D} : dLenA [.tuk ds] st Q = dLen [.tuk ds] st Q := rfl
@[simp] theorem e_lenAL {ds : List D} : dLenA [.lst ds] st Q = dLen [.lst ds] st Q := rfl
@[simp] theorem e_lenAR {n : Nat} : dLenA [.ref n] st Q = dLen [.ref n] st Q := rfl
@[simp] theorem e_wStr : wStr fe r st R = fe r st fun x st1 => onS x fun z => R ⟨sgnsD z, none⟩ st1 := rfl
@[simp] theorem e_join : dJoin fo fe r st Q = fo r st fun x st1 => onS x fun a => fe r st1 fun y st2 => onO (seqS st2 y) fun ds => onO (strsD ds) fun zs => (zs.map (·.length)).sum + zs.length * a.length ≤ 16777216 ∧ Q (.str (Txt.join a zs)) st2 := rfl
@[simp] theorem e_sidx : dSIdx fo fe r st Q = fo r st fun x st1 => onS x fun a => fe r st1 fun y st2 => onS y fun b => ∃ i rest, Builtin.Str.occurrences a b 0 a.length 1 = i :: rest ∧ Q (.int (i : Nat)) st2 := rfl
@[simp] theorem e_ltS : dLtS (.str z) (.str b) st Q = Q (.bl (decide (z.cps.toList < b.cps.toList))) st := rfl
@[simp] theorem e_inS : dInS (.str z) (.str b) st Q = Q (.bl (!(Builtin.Str.occurrences b z 0 b.length 1).isEmpty)) st := rfl
@[simp] theorem e_addSS : dAddS (.str z) (.str b) st Q = (z.length + b.length ≤ sizeLine ∧ Q (.str (z ++ b)) st) := rfl
end
section
variable {T : List (Addr × Str)} {K : Frag} {X : Cx}
def dSortKS (fin : DK → List D → DSt → Prop) : DRs := fun ds st Q => on1 ds fun x => onDk st x fun n kvs => ∃ ks : List Str, kvs.map (·.1) = ks.map Sum.inr ∧ ks.length < 64 ∧ ∀ out : List Str, out.Perm ks → sortedS out = true → fin Q (out.map D.str) st
def rSortKS : List V → Hp → VK → Prop := fun xs H Q => ∃ (a : Addr) (kvs : List (Key × V)) (ks : List Str), xs = [.ref a] ∧ Rd H a (.dK kvs) ∧ kvs.map (·.1) = ks.map Sum.inr ∧ ks.length < 64 ∧ ∀ ys p, ys.Perm ks → sortedS ys = true → H p = none → Q (.ref p) (L2.upd H p (.lst (ys.map V.str)))
theorem cr_sortKS (hc : X.calm = true) : CallR X (.builtin "sorted") rSortKS := call_sortedD hc
theorem callD_sortKS {fin : DK → List D → DSt → Prop} (fo : fin = finT ∨ fin = finN) : CallD T K rSortKS (dSortKS fin) := by
  intro M H st ds vs Q' Q s r h k
  obtain ⟨x, rfl, h⟩ := on1.of h
  obtain ⟨n, kvs, rfl, e, ks, e1, l, h⟩ := onDk.of h
  obtain ⟨v, rfl, rv⟩ := r.one
  obtain ⟨p, ys, rfl, hm, hp, kv⟩ := onDk.rd s rv e
  exact ⟨p, ys, ks, rfl, .inl hp, by rw [← kv.ks]; exact e1, l, fun out q pm so nq => fin_new' fo k s (RVs.of_strs out) nq (h out pm so)⟩
def ixOfS (z : Str) : List Str → Option Nat
  | [] => none
  | x :: r => if x = z then some 0 else (ixOfS z r).map (· + 1)
theorem ixOfS_spec {z : Str} : ∀ {ns : List Str} {j : Nat}, ixOfS z ns = some j → ns[j]? = some z ∧ ∀ m, m < j → ns[m]? ≠ some z
  | [], _, h => by cases h
  | x :: r, j, h => by
    unfold ixOfS at h
    split at h
    · rename_i e
      cases h
      exact ⟨by rw [e]; rfl, fun m lt => absurd lt (Nat.not_lt_zero _)⟩
    · rename_i e
      obtain ⟨i, hi, rfl⟩ := Option.map_eq_some_iff.mp h
      obtain ⟨a, b⟩ := ixOfS_spec hi
      refine ⟨a, fun m lt => ?_⟩
      cases m with
      | zero => exact fun w => e (Option.some.inj w)
      | succ m => exact b m (by omega)
theorem ixOfS_at {z : Str} : ∀ {ns : List Str} {j : Nat}, ns[j]? = some z → (∀ m, m < j → ns[m]? ≠ some z) → ixOfS z ns = some j
  | x :: r, 0, h, _ => by
    unfold ixOfS
    rw [if_pos (Option.some.inj h)]
  | x :: r, j + 1, h, n => by
    unfold ixOfS
    rw [if_neg fun e => n 0 (Nat.succ_pos _) (by rw [e]; rfl), ixOfS_at (ns := r) (j := j) h fun m lt => n (m + 1) (by omega)]
    rfl
def mIndexS : D → List D → DSt → DK → Prop := fun x ds st Q => on1 ds fun y => onS y fun z => onO (lstS st x) fun xs => onO (strsD xs) fun ns => onO (ixOfS z ns) fun j => Q (.int (j : Nat)) st
theorem eqV_str (a b : Str) : eqV (.str a) (.str b) = decide (a = b) := by
  by_cases h : a = b
  · subst h; simp [eqV]
  · simp [eqV, h]
theorem mtD_indexS : MtD T K (rIndex K) mIndexS := by
  intro M H st x ds v vs Q' Q s rx rs h k
  obtain ⟨y, rfl, h1⟩ := on1.of h
  obtain ⟨z, rfl, h2⟩ := onS.of h1
  obtain ⟨xs, e1, h3⟩ := onO.of h2
  obtain ⟨ns, e2, h4⟩ := onO.of h3
  obtain ⟨j, e3, q⟩ := onO.of h4
  obtain ⟨w, rfl, rw'⟩ := rs.one
  cases rw'
  have e2 := strsD_of e2
  subst e2
  obtain ⟨p, us, rfl, rd, ru⟩ := lstS.rd s rx e1
  have e4 := ru.strs
  subst e4
  obtain ⟨a1, a2⟩ := ixOfS_spec e3
  refine ⟨p, _, .str z, j, .str z, rfl, rfl, .inl (.inl rd), rfl, ?_, by rw [List.getElem?_map, a1]; rfl, by rw [eqV_str]; exact decide_eq_true rfl, fun m z' lt hz => ?_, k.here s (.int _) q⟩
  · rw [List.all_eq_true]
    intro x hx
    obtain ⟨i, _, rfl⟩ := List.mem_map.mp hx
    rfl
  · rw [List.getElem?_map] at hz
    obtain ⟨u, hu, rfl⟩ := Option.map_eq_some_iff.mp hz
    rw [eqV_str]
    exact decide_eq_false fun w => a2 m lt (by rw [hu, w])
end
@[simp] theorem e_sortKS {fin : DK → List D → DSt → Prop} {x : D} {st : DSt} {Q : DK} : dSortKS fin [x] st Q = onDk st x fun n kvs => ∃ ks : List Str, kvs.map (·.1) = ks.map Sum.inr ∧ ks.length < 64 ∧ ∀ out : List Str, out.Perm ks → sortedS out = true → fin Q (out.map D.str) st := rfl
@[simp] theorem e_mIndexS {x y : D} {st : DSt} {Q : DK} : mIndexS x [y] st Q = onS y fun z => onO (lstS st x) fun xs => onO (strsD xs) fun ns => onO (ixOfS z ns) fun j => Q (.int (j : Nat)) st := rfl
end DL
namespace DL
open PySem PySem.Spec PyProof.Rows L2 LamX PySem.W SL
def putIx (ix : List Nat) (ss : List Str) : List D → List D → List D := fun ds es => perm ix (ds ++ es ++ ss.map D.str)
theorem relG_ix {K : Frag} (ix : List Nat) (ss : List Str) : RelG K (putIx ix ss) (fun vs zs => perm ix (vs ++ zs ++ ss.map V.str)) := fun _ _ _ _ _ _ r1 r2 => RVs.perm ((r1.append r2).append (RVs.of_strs ss)) ix
theorem kb_ix {K : Frag} {x qual : Str} {params : Arguments} {body : List Stmt} {scope : Scope} {kws : List (Str × V)} {f : Addr} {fd : FuncData} {ps : List Str} (F : FunD K x qual params body scope [] kws f fd) (n : Nat) (ks : List Str) (ms : List (Str × V)) (ix : List Nat) (hk : kws ≠ []) (hms : ∀ q ∈ ms, q ∈ kws)
    (h : ∀ (D : Addr) (doc pm : Value) (an : Option Addr) (cdv ct : Value) (us mv ws : List Value), us.length = n → mv.length = ms.length → ws.length = ks.length →
      KwChain D ((ms.map (·.1)).zip mv) (bindArgs (PySem.W.fnOf x qual params body scope .none (.ref D) doc pm an cdv ct) ⟨us, ks.zip ws⟩) (ps.zip (perm ix (us ++ ws ++ mv)))) :
    ∃ gg, KBn K fd ps n ks gg (fun vs zs => perm ix (vs ++ zs ++ ms.map (·.2))) := by
  obtain ⟨mv, b⟩ := F.kbinds0 n ks ms (fun us mv ws => perm ix (us ++ ws ++ mv)) hk hms (fun r1 r2 r3 => vals_perm ((r1.append r3).append r2) ix) h
  exact ⟨_, b⟩
end DL
namespace DL
open PySem PySem.Spec PyProof.Rows L2 LamX PySem.W SL
def sg (z : Str) : List Nat := z.cps.toList
def Ltr (l : List Nat) : Prop := ∀ c ∈ l, 97 ≤ c ∧ c ≤ 122
structure Word (lo : Nat) (z : Str) : Prop where
  lo : lo ≤ (sg z).length
  hi : (sg z).length ≤ 8
  ch : Ltr (sg z)
def numK : Nat → List Nat → Nat
  | 0, _ => 0
  | _ + 1, [] => 0
  | k + 1, c :: r => (c - 96) * 27 ^ k + numK k r
def decK : Nat → Nat → List Nat
  | 0, _ => []
  | k + 1, x => if x / 27 ^ k = 0 then [] else (x / 27 ^ k + 96) :: decK k (x % 27 ^ k)
theorem Ltr.tail {c : Nat} {r : List Nat} (h : Ltr (c :: r)) : Ltr r := fun d hd => h d (List.mem_cons_of_mem _ hd)
theorem numK_lt : ∀ (k : Nat) (l : List Nat), Ltr l → numK k l < 27 ^ k
  | 0, _, _ => by simp [numK]
  | k + 1, [], _ => by
    unfold numK
    exact Nat.pow_pos (by decide)
  | k + 1, c :: r, h => by
    have ih := numK_lt k r h.tail
    have hc := h c List.mem_cons_self
    have e : (27 : Nat) ^ (k + 1) = 27 * 27 ^ k := by rw [Nat.pow_succ, Nat.mul_comm]
    have le : (c - 96) * 27 ^ k ≤ 26 * 27 ^ k := Nat.mul_le_mul_right _ (by omega)
    unfold numK
    rw [e]
    omega
theorem dec_num : ∀ (k : Nat) (l : List Nat), Ltr l → l.length ≤ k → decK k (numK k l) = l
  | 0, l, _, le => by
    cases l with
    | nil => rfl
    | cons a r => exact absurd le (by simp)
  | k + 1, [], _, _ => by
    unfold numK decK
    rw [if_pos (Nat.zero_div _)]
  | k + 1, c :: r, h, le => by
    have ih := dec_num k r h.tail (by simpa using le)
    have lt := numK_lt k r h.tail
    have hc := h c List.mem_cons_self
    have p0 : 0 < 27 ^ k := Nat.pow_pos (by decide)
    unfold numK decK
    have d1 : ((c - 96) * 27 ^ k + numK k r) / 27 ^ k = c - 96 := by
      rw [Nat.mul_comm, Nat.mul_add_div p0, Nat.div_eq_of_lt lt, Nat.add_zero]
    have d2 : ((c - 96) * 27 ^ k + numK k r) % 27 ^ k = numK k r := by
      rw [Nat.mul_comm, Nat.mul_add_mod, Nat.mod_eq_of_lt lt]
    rw [d1, d2, if_neg (by omega), ih]
    congr 1
    omega
theorem num_lt_iff : ∀ (k : Nat) (a b : List Nat), Ltr a → Ltr b → a.length ≤ k → b.length ≤ k → (numK k a < numK k b ↔ a < b)
  | 0, a, b, _, _, la, lb => by
    have e1 : a = [] := List.length_eq_zero_iff.mp (by omega)
    have e2 : b = [] := List.length_eq_zero_iff.mp (by omega)
    subst e1 e2
    simp
  | k + 1, [], [], _, _, _, _ => by simp
  | k + 1, [], c :: r, _, h, _, _ => by
    have hc := h c List.mem_cons_self
    have p0 : 0 < 27 ^ k := Nat.pow_pos (by decide)
    have : 1 * 27 ^ k ≤ (c - 96) * 27 ^ k := Nat.mul_le_mul_right _ (by omega)
    unfold numK
    exact ⟨fun _ => List.nil_lt_cons _ _, fun _ => by omega⟩
  | k + 1, c :: r, [], h, _, _, _ => by
    unfold numK
    exact ⟨fun z => absurd z (by omega), fun z => absurd z (List.not_lt_nil _)⟩
  | k + 1, c :: r, d :: s, h, g, la, lb => by
    have ih := num_lt_iff k r s h.tail g.tail (by simpa using la) (by simpa using lb)
    have l1 := numK_lt k r h.tail
    have l2 := numK_lt k s g.tail
    have hc := h c List.mem_cons_self
    have hd := g d List.mem_cons_self
    unfold numK
    rw [List.cons_lt_cons_iff]
    rcases Nat.lt_trichotomy c d with w | w | w
    · have : (c - 96 + 1) * 27 ^ k ≤ (d - 96) * 27 ^ k := Nat.mul_le_mul_right _ (by omega)
      rw [Nat.add_mul] at this
      exact ⟨fun _ => .inl w, fun _ => by omega⟩
    · subst w
      rw [← ih]
      exact ⟨fun z => .inr ⟨rfl, by omega⟩, fun z => by rcases z with z | z; (· omega); (· have := z.2; omega)⟩
    · have : (d - 96 + 1) * 27 ^ k ≤ (c - 96) * 27 ^ k := Nat.mul_le_mul_right _ (by omega)
      rw [Nat.add_mul] at this
      exact ⟨fun z => absurd z (by omega), fun z => by rcases z with z | z; (· omega); (· have := z.1; omega)⟩
def num (z : Str) : Nat := numK 8 (sg z)
def nm (a : Nat) : Str := ⟨(decK 8 a).toArray⟩
def NW : Nat := 27 ^ 8
theorem Word.mono {a b : Nat} {z : Str} (h : Word b z) (le : a ≤ b) : Word a z := ⟨Nat.le_trans le h.lo, h.hi, h.ch⟩
theorem nm_num {lo : Nat} {z : Str} (h : Word lo z) : nm (num z) = z := by
  unfold nm num
  rw [dec_num 8 (sg z) h.ch h.hi]
  unfold sg
  rw [Array.toArray_toList]
theorem num_lt {lo : Nat} {z : Str} (h : Word lo z) : num z < NW := numK_lt 8 _ h.ch
theorem num_iff {a b : Nat} {y z : Str} (h : Word a y) (g : Word b z) : num y < num z ↔ sg y < sg z := num_lt_iff 8 _ _ h.ch g.ch h.hi g.hi
theorem Word.ne {z : Str} (h : Word 1 z) : z ≠ "" := fun e => by
  have := h.lo
  rw [e] at this
  exact absurd this (by decide)
def Wd (a : Nat) : Prop := Word 1 (nm a) ∧ num (nm a) = a
theorem Word.wd {z : Str} (h : Word 1 z) : Wd (num z) := by
  unfold Wd
  rw [nm_num h]
  exact ⟨h, rfl⟩
theorem Wd.lt {a : Nat} (h : Wd a) : a < NW := by rw [← h.2]; exact num_lt h.1
theorem Wd.inj {a b : Nat} (h : Wd a) (g : Wd b) : nm a = nm b ↔ a = b := ⟨fun e => by rw [← h.2, ← g.2, e], fun e => by rw [e]⟩
def LETS : Str := "abcdefghijklmnopqrstuvwxyz"
theorem occ_letters : ∀ i : Fin 26, Builtin.Str.occurrences LETS ⟨#[97 + i.val]⟩ 0 26 1 = [i.val] := by decide +kernel
theorem occ_letter {c : Nat} (h : 97 ≤ c ∧ c ≤ 122) : Builtin.Str.occurrences LETS ⟨#[c]⟩ 0 LETS.length 1 = [c - 97] := by
  have z := occ_letters ⟨c - 97, by omega⟩
  rw [show LETS.length = 26 by decide +kernel]
  simp only [show 97 + (c - 97) = c by omega] at z
  exact z
def homN (l : List Nat) : Nat := l.foldl (fun n c => n * 31 + (c - 97) + 1) 0
def prw (tri : Bool) (c : Nat) (z : Str) : List Int := if tri = true then triI c ((homN (sg z) % c : Nat) : Int) else lineI c ((homN (sg z) % c : Nat) : Int)
structure OkC (tri : Bool) (c : Nat) : Prop where
  p : 0 < c
  l : c ≤ 64
  t : tri = true → (c : Int) ∈ [(1 : Int), 2, 4, 8, 16, 32, 64]
theorem tri_all : ∀ c ∈ [1, 2, 4, 8, 16, 32, 64], (triI c 0).Perm (R c) := by decide +kernel
theorem tri_ord {c : Nat} {b : Int} (h : (c : Int) ∈ [(1 : Int), 2, 4, 8, 16, 32, 64]) (p : 0 < c) : Ord c (triI c b) := by
  have hc : c ∈ [1, 2, 4, 8, 16, 32, 64] := by
    simp only [List.mem_cons, List.not_mem_nil, or_false] at h ⊢
    omega
  have z := (tri_all c hc).map (fun x => (x + b) % (c : Int))
  rw [tri_moved] at z
  refine ⟨z.trans ?_⟩
  have e : (R c).map (fun x => (x + b) % (c : Int)) = lineI c b := by
    unfold R lineI
    rw [List.map_map]
    exact List.map_congr_left fun i _ => by show ((i : Int) + b) % _ = _; rw [Int.add_comm]
  rw [e]
  exact (line_ord p).perm
theorem prw_ord {tri : Bool} {c : Nat} (o : OkC tri c) (z : Str) : Ord c (prw tri c z) := by
  unfold prw
  split
  · rename_i e; exact tri_ord (o.t e) o.p
  · exact line_ord o.p
def PW (tri : Bool) (c : Nat) : List (List Int) := (List.range NW).map fun a => prw tri c (nm a)
def OW (far tri : Bool) (c : Nat) : List (List Int) := (List.range c).map fun s : Nat => if far = true then farO (PW tri c) (s : Int) else R NW
def RW (far tri : Bool) (c : Nat) : List (List (List Int)) := (OW far tri c).map ordT
theorem PW_len {tri : Bool} {c : Nat} : (PW tri c).length = NW := by unfold PW; rw [List.length_map, List.length_range]
theorem PW_at {tri : Bool} {c a : Nat} (h : a < NW) : (PW tri c).getD a [] = prw tri c (nm a) := by
  unfold PW
  rw [List.getD_eq_getElem?_getD, List.getElem?_map, List.getElem?_range h]
  rfl
theorem OW_at {far tri : Bool} {c s : Nat} (h : s < c) : (OW far tri c)[s]? = some (if far = true then farO (PW tri c) (s : Int) else R NW) := by
  unfold OW
  rw [List.getElem?_map, List.getElem?_range h]
  rfl
theorem OW_ord {far tri : Bool} {c : Nat} : ∀ x ∈ OW far tri c, Ord NW x := fun x hx => by
  obtain ⟨s, _, rfl⟩ := List.mem_map.mp hx
  split
  · have := farO_ord (PW tri c) (s : Int)
    rw [PW_len] at this
    exact this
  · exact ⟨.refl _⟩
theorem W_set {far tri : Bool} {c : Nat} (o : OkC tri c) : Setg NW c (PW tri c) (RW far tri c) :=
  ⟨PW_len, fun x hx => by obtain ⟨a, _, rfl⟩ := List.mem_map.mp hx; exact prw_ord o _, by unfold RW OW; rw [List.length_map, List.length_map, List.length_range], fun t ht => by obtain ⟨y, hy, rfl⟩ := List.mem_map.mp ht; exact (OW_ord y hy).tb⟩
theorem W_trn {far tri : Bool} {c : Nat} (o : OkC tri c) : Trn NW c (RW far tri c) := (W_set o).trn fun t ht => by obtain ⟨y, hy, rfl⟩ := List.mem_map.mp ht; exact (OW_ord y hy).noRing
def btN (far tri : Bool) (c s : Nat) (y z : Str) : Bool :=
  if far = true ∧ pos (prw tri c y) (s : Int) ≠ pos (prw tri c z) (s : Int) then decide (pos (prw tri c z) (s : Int) < pos (prw tri c y) (s : Int)) else decide (sg y < sg z)
theorem pos_R {n a : Nat} (h : a < n) : pos (R n) (a : Int) = a := by
  have m : (a : Int) ∈ R n := R_mem.mpr (by omega)
  have z := (pos_at m).1
  have lt := (List.getElem?_eq_some_iff.mp z).1
  rw [R_length] at lt
  have e : (R n)[pos (R n) (a : Int)]? = some ((pos (R n) (a : Int) : Nat) : Int) := by
    unfold R
    rw [List.getElem?_map, List.getElem?_range (by unfold R at lt; exact lt)]
    rfl
  rw [z] at e
  have e2 := Option.some.inj e
  omega
theorem bt_row {os : List (List Int)} {m s : Nat} {o : List Int} (e : os[s]? = some o) (od : Ord m o) {a b : Nat} (am : a < m) (bm : b < m) : bt (os.map DL.ordT) s a b = decide (pos o (a : Int) < pos o (b : Int)) := by
  unfold bt
  have e2 : (os.map DL.ordT).getD s [] = DL.ordT o := by
    rw [List.getD_eq_getElem?_getD, List.getElem?_map, e]
    rfl
  rw [e2]
  have z := od.beats am (x := (b : Int))
  by_cases c : pos o (a : Int) < pos o (b : Int)
  · rw [decide_eq_true c, decide_eq_true (z.mpr ⟨by omega, c⟩)]
  · rw [decide_eq_false c, decide_eq_false fun y => c (z.mp y).2]
theorem bt_btN {far tri : Bool} {c s : Nat} (o : OkC tri c) (hs : s < c) {a b : Nat} (ha : Wd a) (hb : Wd b) : bt (RW far tri c) s a b = btN far tri c s (nm a) (nm b) := by
  have od := OW_ord (far := far) (tri := tri) _ (List.mem_of_getElem? (OW_at (far := far) (tri := tri) hs))
  unfold RW
  rw [bt_row (OW_at hs) od ha.lt hb.lt]
  have lt : sg (nm a) < sg (nm b) ↔ a < b := by rw [← num_iff ha.1 hb.1, ha.2, hb.2]
  unfold btN
  cases far with
  | false =>
    rw [if_neg (by decide), if_neg (by simp), pos_R ha.lt, pos_R hb.lt]
    exact decide_eq_decide.mpr lt.symm
  | true =>
    rw [if_pos rfl]
    by_cases e : a = b
    · subst e
      rw [if_neg (by simp)]
      exact decide_eq_decide.mpr (by rw [lt]; omega)
    · have la : a < (PW tri c).length := by rw [PW_len]; exact ha.lt
      have lb : b < (PW tri c).length := by rw [PW_len]; exact hb.lt
      have f := far_pos (s := (s : Int)) la lb e
      unfold Far ixP at f
      rw [PW_at ha.lt, PW_at hb.lt] at f
      by_cases q : pos (prw tri c (nm a)) (s : Int) = pos (prw tri c (nm b)) (s : Int)
      · rw [if_neg (fun z => z.2 q)]
        refine decide_eq_decide.mpr ?_
        rw [f, lt]
        omega
      · rw [if_pos ⟨rfl, q⟩]
        refine decide_eq_decide.mpr ?_
        rw [f]
        omega
end DL
namespace DL
open PySem PySem.Spec PyProof.Rows L2 LamX PySem.W SL
def dMaxTs : DRs := fun ds st Q => on1 ds fun x => onO (dDictP.seqL st x) fun xs => 0 < xs.length ∧ (∀ d ∈ xs, ∃ ns, numsD d = some ns) ∧ ∀ d ∈ xs, (∀ e ∈ xs, lexL ((numsD d).getD []) ((numsD e).getD []) = false) → Q d st
@[simp] theorem e_maxTs {x : D} {st : DSt} {Q : DK} : dMaxTs [x] st Q = onO (dDictP.seqL st x) fun xs => 0 < xs.length ∧ (∀ d ∈ xs, ∃ ns, numsD d = some ns) ∧ ∀ d ∈ xs, (∀ e ∈ xs, lexL ((numsD d).getD []) ((numsD e).getD []) = false) → Q d st := rfl
@[simp] theorem e_pop {x : D} {ds : List D} {st : DSt} {Q : DK} : mPop x ds st Q = (ds = [] ∧ onL st x fun n xs => onO xs[xs.length - 1]? fun d => Q d (st.set n (.lst xs.dropLast))) := rfl
end DL
namespace SL
open PySem PySem.Spec PyProof.Rows L2
end SL
namespace DL
open PySem PySem.Spec PyProof.Rows L2 LamX PySem.W SL
section
variable {T : List (Addr × Str)} {X : Cx} {a : Expr} {fa : DTE} {p pos : Pos}
def dLenSetL (f : DTE) : DTE := fun r st Q => f r st fun x st1 => onO (dDictP.seqL st1 x) fun xs => onO (intsD xs) fun ns => ns.length ≤ 4000 ∧ ∀ ks : List Int, ks.Nodup → (∀ k, k ∈ ks ↔ k ∈ ns) → Q (.int (ks.length : Nat)) st1
@[simp] theorem e_lenSetL {f : DTE} {r : DEnv} {st : DSt} {Q : DK} : dLenSetL f r st Q = f r st fun x st1 => onO (dDictP.seqL st1 x) fun xs => onO (intsD xs) fun ns => ns.length ≤ 4000 ∧ ∀ ks : List Int, ks.Nodup → (∀ k, k ∈ ks ↔ k ∈ ns) → Q (.int (ks.length : Nat)) st1 := rfl
end
end DL
namespace DL
open PySem PySem.Spec PyProof.Rows L2 LamX PySem.W SL
section
variable {T : List (Addr × Str)} {X : Cx} {elt tg iter tg1 iter1 : Expr} {ifs ifs1 : List Expr} {scope : Scope} {own : List (Str × Nat)} {vs1 : List Nat} {pos : Pos} {f f1 : DTI} {g g1 : DTG} {tt tt1 : DTT} {te : DTE}
end
end DL
namespace DL
open PySem PySem.Spec PyProof.Rows L2 LamX PySem.W SL
section
variable {T : List (Addr × Str)} {X : Cx} {pos : Pos} {vs : List Nat}
def gSbK (fo fi : DTE) : DTG := fun d r st Q => fo r st fun o st1 => fi r st1 fun i st2 => onDk st2 o fun n kvs => onO (keyD i) fun k => kvs.length < sizeLine ∧ Q r (st2.set n (.dK (putD kvs k d)))
@[simp] theorem e_gSbK {fo fi : DTE} {d : D} {r : DEnv} {st : DSt} {Q : DEnv → DSt → Prop} : gSbK fo fi d r st Q = fo r st fun o st1 => fi r st1 fun i st2 => onDk st2 o fun n kvs => onO (keyD i) fun k => kvs.length < sizeLine ∧ Q r (st2.set n (.dK (putD kvs k d))) := rfl
end
end DL
local macro_rules
  | `(tactic| exists 5) => `(tactic| try simp only [DL.e_var, DL.e_C, DL.e_op, DL.e_neg, DL.e_isN, DL.e_notN, DL.e_and, DL.e_or, DL.e_not, DL.e_test, DL.e_tAnd, DL.e_tOr, DL.e_tNot, DL.e_tYes, DL.e_if, DL.e_aNil, DL.e_aCons, DL.e_tup, DL.e_lst, DL.e_lstN, DL.e_len0, DL.e_len1, DL.e_len2, DL.e_len3, DL.e_len4, DL.e_len5, DL.e_cb, DL.e_on1, DL.e_on2, DL.e_onI, DL.e_onB, DL.e_onO, DL.e_onO0, DL.e_onOO, DL.e_I0, DL.e_I, DL.e_add, DL.e_addT, DL.e_addS, DL.e_addL, DL.e_addLR, DL.e_addRL, DL.e_addRR, DL.e_mul, DL.e_mulL, DL.e_mulT, DL.e_rev, DL.e_revT, DL.e_ix, DL.e_eqI, DL.e_eqS, DL.e_eqB, DL.e_neI, DL.e_neS, DL.e_neB, DL.e_ltI, DL.e_chain, DL.e_len, DL.e_abs, DL.e_2I, DL.e_tuple1, DL.e_tuple2, DL.e_tuple3, DL.e_listT, DL.e_listN, DL.e_allR, DL.e_seqT, DL.e_seqK, DL.e_seqL, DL.e_isi, DL.e_isB, DL.e_notB, DL.e_truth, DL.e_next, DL.e_drop, DL.e_ret, DL.e_retN, DL.e_ifS, DL.e_set, DL.e_asg, DL.e_par, DL.e_nm, DL.e_gsN, DL.e_gsC, DL.e_gTpK, DL.e_gTpL, DL.e_sum, DL.e_maxL, DL.e_minL, DL.e_maxDef, DL.e_int, DL.e_intB, DL.e_aug, DL.e_on3, DL.e_par3, DL.e_newK, DL.e_getK, DL.e_keyI, DL.e_keyS, DL.e_inK, DL.e_ninK, DL.e_putK, DL.e_lenK, DL.e_lstS, DL.e_seqX, DL.e_gTpT, DL.e_oN, DL.e_oS, DL.e_sl, DL.e_slT, DL.e_slL, DL.e_finT, DL.e_finN, DL.e_index, DL.e_idxT, DL.e_idxL, DL.e_mIx, DL.e_ixST, DL.e_ixSL, DL.e_mtL, DL.e_w, DL.e_w1, DL.e_w2, DL.e_wE, DL.e_wZ, DL.e_itK, DL.e_itT, DL.e_itL, DL.e_itT2, DL.e_itL2, DL.e_lc, DL.e_for, DL.e_wipe0, DL.e_wipe, DL.e_okI, DL.e_okR, DL.e_gSb, List.getElem?_cons_zero, List.getElem?_cons_succ, List.set_cons_zero, List.set_cons_succ, DL.e_getD, DL.e_get1, DL.e_lockK, DL.e_dlockK, DL.e_wItemsK, DL.e_wKeysK, DL.e_getR, DL.e_inR, DL.e_ninR, DL.e_dictP, DL.e_sortTs, DL.e_maxTs, DL.e_pop, DL.e_lenSetL, DL.e_gSbK, DL.e_fld, DL.e_sFld, DL.e_meth, DL.e_mk, DL.e_onS, DL.e_ixAS, DL.e_ixAT, DL.e_ixAK, DL.e_ixAL, DL.e_ixAR, DL.e_lenAS, DL.e_lenAT, DL.e_lenAK, DL.e_lenAL, DL.e_lenAR, DL.e_wStr, DL.e_join, DL.e_sidx, DL.e_ltS, DL.e_inS, DL.e_addSS, DL.e_sortKS, DL.e_mIndexS])
  | `(tactic| exists 5, $es,*) => `(tactic| try simp only [DL.e_var, DL.e_C, DL.e_op, DL.e_neg, DL.e_isN, DL.e_notN, DL.e_and, DL.e_or, DL.e_not, DL.e_test, DL.e_tAnd, DL.e_tOr, DL.e_tNot, DL.e_tYes, DL.e_if, DL.e_aNil, DL.e_aCons, DL.e_tup, DL.e_lst, DL.e_lstN, DL.e_len0, DL.e_len1, DL.e_len2, DL.e_len3, DL.e_len4, DL.e_len5, DL.e_cb, DL.e_on1, DL.e_on2, DL.e_onI, DL.e_onB, DL.e_onO, DL.e_onO0, DL.e_onOO, DL.e_I0, DL.e_I, DL.e_add, DL.e_addT, DL.e_addS, DL.e_addL, DL.e_addLR, DL.e_addRL, DL.e_addRR, DL.e_mul, DL.e_mulL, DL.e_mulT, DL.e_rev, DL.e_revT, DL.e_ix, DL.e_eqI, DL.e_eqS, DL.e_eqB, DL.e_neI, DL.e_neS, DL.e_neB, DL.e_ltI, DL.e_chain, DL.e_len, DL.e_abs, DL.e_2I, DL.e_tuple1, DL.e_tuple2, DL.e_tuple3, DL.e_listT, DL.e_listN, DL.e_allR, DL.e_seqT, DL.e_seqK, DL.e_seqL, DL.e_isi, DL.e_isB, DL.e_notB, DL.e_truth, DL.e_next, DL.e_drop, DL.e_ret, DL.e_retN, DL.e_ifS, DL.e_set, DL.e_asg, DL.e_par, DL.e_nm, DL.e_gsN, DL.e_gsC, DL.e_gTpK, DL.e_gTpL, DL.e_sum, DL.e_maxL, DL.e_minL, DL.e_maxDef, DL.e_int, DL.e_intB, DL.e_aug, DL.e_on3, DL.e_par3, DL.e_newK, DL.e_getK, DL.e_keyI, DL.e_keyS, DL.e_inK, DL.e_ninK, DL.e_putK, DL.e_lenK, DL.e_lstS, DL.e_seqX, DL.e_gTpT, DL.e_oN, DL.e_oS, DL.e_sl, DL.e_slT, DL.e_slL, DL.e_finT, DL.e_finN, DL.e_index, DL.e_idxT, DL.e_idxL, DL.e_mIx, DL.e_ixST, DL.e_ixSL, DL.e_mtL, DL.e_w, DL.e_w1, DL.e_w2, DL.e_wE, DL.e_wZ, DL.e_itK, DL.e_itT, DL.e_itL, DL.e_itT2, DL.e_itL2, DL.e_lc, DL.e_for, DL.e_wipe0, DL.e_wipe, DL.e_okI, DL.e_okR, DL.e_gSb, List.getElem?_cons_zero, List.getElem?_cons_succ, List.set_cons_zero, List.set_cons_succ, DL.e_getD, DL.e_get1, DL.e_lockK, DL.e_dlockK, DL.e_wItemsK, DL.e_wKeysK, DL.e_getR, DL.e_inR, DL.e_ninR, DL.e_dictP, DL.e_sortTs, DL.e_maxTs, DL.e_pop, DL.e_lenSetL, DL.e_gSbK, DL.e_fld, DL.e_sFld, DL.e_meth, DL.e_mk, DL.e_onS, DL.e_ixAS, DL.e_ixAT, DL.e_ixAK, DL.e_ixAL, DL.e_ixAR, DL.e_lenAS, DL.e_lenAT, DL.e_lenAK, DL.e_lenAL, DL.e_lenAR, DL.e_wStr, DL.e_join, DL.e_sidx, DL.e_ltS, DL.e_inS, DL.e_addSS, DL.e_sortKS, DL.e_mIndexS, $[$es:term],*])
namespace DL
open PySem PySem.Spec PyProof.Rows L2 LamX PySem.W SL
section
variable {T : List (Addr × Str)} {X : Cx} {K : Frag}
def onTup (d : D) (k : List D → Prop) : Prop := match d with | .tup ds => k ds | .tuk ds => k ds | _ => False
theorem onTup.of {d : D} {k : List D → Prop} (h : onTup d k) : ∃ ds, (d = .tup ds ∨ d = .tuk ds) ∧ k ds := by
  cases d with
  | tup ds => exact ⟨ds, .inl rfl, h⟩
  | tuk ds => exact ⟨ds, .inr rfl, h⟩
  | _ => exact h.elim
end
end DL
namespace DL
open PySem PySem.Spec PyProof.Rows L2 LamX PySem.W SL
section
variable {T : List (Addr × Str)} {X : Cx} {a b : Expr} {fa fb : DPE} {pos : Pos}
end
end DL
namespace DL
open PySem PySem.Spec PyProof.Rows L2 LamX PySem.W SL
section
variable {T : List (Addr × Str)} {K : Frag} {X : Cx}
end
end DL
namespace DL
open PySem PySem.Spec PyProof.Rows L2 LamX PySem.W SL
def StMx (z TI TO i1 i2 tA lA : Addr) (j : Nat) (h : Heap) : Prop :=
  IsZip h z TI TO .none ∧ IsTupOf2 h TI (.ref i1) (.ref i2) ∧ (∃ x y, IsTupOf2 h TO x y) ∧ h.IsTupleIter i1 tA j ∧ h.IsListIter i2 lA j
section
variable {prog : Program} {w : World} {K : PySem.W.Frag} {elts : List Expr} {kk : Nat} {tpos : Pos} {z TI TO i1 i2 tA lA : Addr}
theorem five_in {c : Addr} : c ∈ [z, TI, TO, i1, i2] ↔ c = z ∨ c = TI ∨ c = TO ∨ c = i1 ∨ c = i2 := by simp
theorem StMx.at {j : Nat} {h h' : Heap} (st : StMx z TI TO i1 i2 tA lA j h) (k : ∀ b ∈ [z, TI, TO, i1, i2], ∀ o, h.get? b = some o → h'.get? b = some o) : StMx z TI TO i1 i2 tA lA j h' := by
  obtain ⟨s1, s2, ⟨x, y, s3⟩, s4, s5⟩ := st
  exact ⟨k z (by simp) _ s1, k TI (by simp) _ s2, ⟨x, y, k TO (by simp) _ s3⟩, s4.at fun o e => k i1 (by simp) o e, s5.at fun o e => k i2 (by simp) o e⟩
theorem StMx.there {j : Nat} {h : Heap} (st : StMx z TI TO i1 i2 tA lA j h) : ∀ c ∈ [z, TI, TO, i1, i2], ∃ o, h.get? c = some o ∧ ∀ v, o.data ≠ .cell v := by
  obtain ⟨s1, s2, ⟨x, y, s3⟩, ⟨o4, e4, _, d4⟩, ⟨o5, e5, _, d5⟩⟩ := st
  intro c hc
  rcases five_in.mp hc with rfl | rfl | rfl | rfl | rfl
  · exact ⟨_, s1, fun v q => by cases q⟩
  · exact ⟨_, s2, fun v q => by cases q⟩
  · exact ⟨_, s3, fun v q => by cases q⟩
  · exact ⟨_, e4, fun v q => by rw [d4] at q; cases q⟩
  · exact ⟨_, e5, fun v q => by rw [d5] at q; cases q⟩
end
def itLs : D → Option (List D)
  | .lst ds => some ds
  | .scr ds => some ds
  | _ => none
def wZipM (fs : DTA) : DTI := fun r st R => fs r st fun ds st1 => on2 ds fun x y => onO (itT x) fun I => onO (itLs y) fun ws => R ⟨zipD I.items ws, none⟩ st1
theorem itLs.is {T : List (Addr × Str)} {K : Frag} {M : Pl} {H : Hp} {d : D} {v : V} {ws : List D} (r : RV K M H d v) (e : itLs d = some ws) : ∃ a, v = .ref a ∧ ∀ M' H' (st' : DSt), Later M H M' H' → RS T K M' st' H' → ∃ xs, RVs K M' H' ws xs ∧ SqL K H' a xs := by
  cases r with
  | lst n h rs => cases e; exact ⟨_, rfl, fun M' H' st' l s => ⟨_, rs.later l, .inl (Rd.later l n (.inl h))⟩⟩
  | scr n h rs => cases e; exact ⟨_, rfl, fun M' H' st' l s => ⟨_, rs.later l, .inl (Rd.later l n h)⟩⟩
  | lsk h rs => cases e; exact ⟨_, rfl, fun M' H' st' l s => ⟨_, rs.later l, h H'⟩⟩
  | _ => cases e
section
variable {T : List (Addr × Str)} {X : Cx} {e e2 : Expr} {fs : DTA} {p pos tpos : Pos} {elts : List Expr} {kk : Nat}
@[simp] theorem e_wZipM {r : DEnv} {st : DSt} {k : DIt → DSt → Prop} : wZipM fs r st k = fs r st fun ds st1 => on2 ds fun x y => onO (itT x) fun I => onO (itLs y) fun ws => k ⟨zipD I.items ws, none⟩ st1 := rfl
end
end DL
namespace DL
open PySem PySem.Spec PyProof.Rows L2 LamX PySem.W SL
def mn3 (i j k : Int) : Int := if k < (if j < i then j else i) then k else (if j < i then j else i)
def dMin3 : DRs := fun ds st Q => match ds with
  | [.int i, .int j, .int k] => Q (.int (mn3 i j k)) st
  | _ => False
@[simp] theorem e_min3 {i j k : Int} {st : DSt} {Q : DK} : dMin3 [.int i, .int j, .int k] st Q = Q (.int (mn3 i j k)) st := rfl
end DL
namespace DL
open PySem PySem.Spec PyProof.Rows L2 LamX PySem.W SL
def dLRg2 (fin : DK → List D → DSt → Prop) (f g : DTE) : DTE := fun r st Q => f r st fun x st1 => g r st1 fun y st2 => onI x fun i => onI y fun j => RgOk i j ∧ fin Q (rgD i (j - i).toNat) st2
@[simp] theorem e_listRg2 {fin : DK → List D → DSt → Prop} {f g : DTE} {r : DEnv} {st : DSt} {Q : DK} : dLRg2 fin f g r st Q = f r st fun x st1 => g r st1 fun y st2 => onI x fun i => onI y fun j => RgOk i j ∧ fin Q (rgD i (j - i).toNat) st2 := rfl
end DL
namespace DL
open PySem PySem.Spec PyProof.Rows L2 LamX PySem.W SL
abbrev DTC := DEnv → DSt → (List D → (DSt → Prop) → DSt → Prop) → Prop
def compC (C : DSt → Prop) (g : DTG) (tt : DTT) (te : DTE) (r : DEnv) (Q : List D → DSt → Prop) : List D → List D → DSt → Prop
  | [], acc, st => C st ∧ Q acc st
  | d :: ds, acc, st => C st ∧ g d r st fun r2 st2 => tt r2 st2 fun b st3 => if b = true then te r2 st3 fun y st4 => compC C g tt te r Q ds (acc ++ [y]) st4 else compC C g tt te r Q ds acc st3
def dLcC (f : DTC) (g : DTG) (tt : DTT) (te : DTE) (vs : List Nat) (fin : (D → DSt → Prop) → List D → DSt → Prop) : DTE := fun r st Q => f r st fun its C st1 => its.length ≤ sizeLine ∧ compC C g tt te (wipeD r vs) (fin Q) its [] st1
section
variable {T : List (Addr × Str)} {X : Cx} {e e2 : Expr} {fs : DTA} {p pos tpos : Pos} {elts : List Expr} {kk : Nat}
def onL2 (st : DSt) (x y : D) (k : Nat → Nat → List D → List D → Prop) : Prop := match x, y with
  | .ref n, .ref m => match st[n]?, st[m]? with | some (.lst xs), some (.lst ys) => k n m xs ys | _, _ => False
  | _, _ => False
theorem onL2.of {st : DSt} {x y : D} {k : Nat → Nat → List D → List D → Prop} (h : onL2 st x y k) : ∃ n m xs ys, x = .ref n ∧ y = .ref m ∧ st[n]? = some (.lst xs) ∧ st[m]? = some (.lst ys) ∧ k n m xs ys := by
  unfold onL2 at h
  split at h
  · split at h
    · rename_i n m xs ys e1 e2
      exact ⟨_, _, xs, ys, rfl, rfl, e1, e2, h⟩
    · exact h.elim
  · exact h.elim
def wZipR (fs : DTA) : DTC := fun r st R => fs r st fun ds st1 => on2 ds fun x y => onL2 st1 x y fun n m xs ys => R (zipD xs ys) (fun st => st[n]? = some (.lst xs) ∧ st[m]? = some (.lst ys)) st1
variable {elt tg iter : Expr} {ifs : List Expr} {scope : Scope} {own : List (Str × Nat)} {f : DTC} {g : DTG} {tt : DTT} {te : DTE}
end
@[simp] theorem e_lcC {f : DTC} {g : DTG} {tt : DTT} {te : DTE} {vs : List Nat} {fin : (D → DSt → Prop) → List D → DSt → Prop} {r : DEnv} {st : DSt} {Q : DK} : dLcC f g tt te vs fin r st Q = f r st fun its C st1 => its.length ≤ sizeLine ∧ compC C g tt te (wipeD r vs) (fin Q) its [] st1 := rfl
@[simp] theorem e_wZipR {fs : DTA} {r : DEnv} {st : DSt} {R : List D → (DSt → Prop) → DSt → Prop} : wZipR fs r st R = fs r st fun ds st1 => on2 ds fun x y => onL2 st1 x y fun n m xs ys => R (zipD xs ys) (fun st => st[n]? = some (.lst xs) ∧ st[m]? = some (.lst ys)) st1 := rfl
end DL
namespace DL
open PySem PySem.Spec PyProof.Rows L2 LamX PySem.W SL
def F_is_word : DTS := (sSeq (sIf (dtOr (dtNot (dTest (dIsi "str" (dVar 0)))) (dtNot (dTest (dChain dLe dLe (dVar 1) (dCB dLenA (daCons (dVar 0) daNil)) (dC (.int (8))))))) (sRet (dC (.bl false))) sNext) (sRet (dCB dAll (daCons (dLcG (wStr (dVar 0)) (gNm 2) dtYes (dOp dInS (dVar 2) (dC (.str "abcdefghijklmnopqrstuvwxyz"))) [2] finT) daNil))))
def F_require_name (g_is_word : DRs) : DTS := (sIf (dtNot (dTest (dCB g_is_word (daCons (dVar 0) (daCons (dC (.int 1)) daNil))))) sNever sNext)
def F_require_count (g_is_integer_within : DRs) (g_is_power_of_two : DRs) : DTS := (sIf (dtOr (dtNot (dTest (dCB g_is_integer_within (daCons (dVar 0) (daCons (dC (.int 1)) (daCons (dC (.int (64))) daNil)))))) (dtAnd (dTest (dOp dEq (dVar 1) (dC (.str "triangular")))) (dtNot (dTest (dCB g_is_power_of_two (daCons (dVar 0) daNil)))))) sNever sNext)
def F_home_of : DTS := (sSeq (sSet 2 (dC (.int 0))) (sSeq (sFor (wStr (dVar 0)) (gNm 3) (sSet 2 (dOp dAdd (dOp dAdd (dOp dMul (dVar 2) (dC (.int 31))) (dSIdx (dC (.str "abcdefghijklmnopqrstuvwxyz")) (dVar 3))) (dC (.int 1))))) (sRet (dOp dMod (dVar 2) (dVar 1)))))
def F_Table___init__ (C : Addr) (g_require_count : DRs) : DTS := (sSeq (sIf (dTest (dOp dNotIn (dVar 2) (dTup (daCons (dC (.str "linear")) (daCons (dC (.str "triangular")) daNil))))) sNever sNext) (sSeq (sIf (dTest (dOp dNotIn (dVar 3) (dTup (daCons (dC (.str "names")) (daCons (dC (.str "farther")) daNil))))) sNever sNext) (sSeq (sDrop (dCB g_require_count (daCons (dVar 1) (daCons (dVar 2) daNil)))) (sSeq (sFldD C "count" (dVar 1) (dVar 0)) (sSeq (sFldD C "way" (dVar 2) (dVar 0)) (sSeq (sFldD C "rule" (dVar 3) (dVar 0)) (sSeq (sFldD C "contents" (dNewK) (dVar 0)) (sFldD C "entries" (dOp dMulN (dLst (daCons (dC (.str "")) daNil)) (dVar 1)) (dVar 0)))))))))
def F_Table_put (C : Addr) (g_is_word : DRs) (g_require_name : DRs) (g_Table_settle : DRs) : DTS := (sSeq (sDrop (dCB g_require_name (daCons (dVar 1) daNil))) (sSeq (sIf (dtNot (dTest (dCB g_is_word (daCons (dVar 2) (daCons (dC (.int 0)) daNil))))) sNever sNext) (sSeq (sIf (dTest (dInK true (dVar 1) (dFld C "contents" (dVar 0)))) (sSeq (sIf (dTest (dOp dEq (dCB dLenK (daCons (dFld C "contents" (dVar 0)) daNil)) (dFld C "count" (dVar 0)))) sNever sNext) (sDrop (dMeth C "settle" g_Table_settle (dVar 0) (daCons (dVar 1) daNil)))) sNext) (sPutK (dFld C "contents" (dVar 0)) (dVar 1) (dVar 2)))))
def F_Table_look_up (C : Addr) (g_require_name : DRs) (g_Table_order_of : DRs) (g_Table_beats : DRs) : DTS := (sSeq (sDrop (dCB g_require_name (daCons (dVar 1) daNil))) (sSeq (sFor (wEnumK 1 (daCons (dMeth C "order_of" g_Table_order_of (dVar 0) (daCons (dVar 1) daNil)) daNil)) (gTp 2 (gsCons (gNm 2) (gsCons (gNm 3) gsNil))) (sSeq (sIf (dTest (dOp dEq (dOp dIx (dFld C "entries" (dVar 0)) (dVar 3)) (dVar 1))) (sRet (dTup (daCons (dVar 3) (daCons (dVar 2) daNil)))) sNext) (sIf (dtOr (dTest (dOp dEq (dOp dIx (dFld C "entries" (dVar 0)) (dVar 3)) (dC (.str "")))) (dTest (dMeth C "beats" g_Table_beats (dVar 0) (daCons (dVar 1) (daCons (dOp dIx (dFld C "entries" (dVar 0)) (dVar 3)) (daCons (dVar 3) daNil)))))) (sRet (dTup (daCons (dC (.int (-1))) (daCons (dVar 2) daNil)))) sNext))) (sRet (dTup (daCons (dC (.int (-1))) (daCons (dFld C "count" (dVar 0)) daNil))))))
def F_Table_names (C : Addr) : DTS := (sRet (dCB dTuple (daCons (dCB (dSortKS finT) (daCons (dFld C "contents" (dVar 0)) daNil)) daNil)))
def F_Table_layout (C : Addr) : DTS := (sRet (dCB dTuple (daCons (dFld C "entries" (dVar 0)) daNil)))
def F_Table_distances (C : Addr) (g_Table_names : DRs) (g_Table_distance : DRs) : DTS := (sRet (dCB dTuple (daCons (dLcG (wSeq (dMeth C "names" g_Table_names (dVar 0) daNil)) (gNm 1) dtYes (dTup (daCons (dVar 1) (daCons (dMeth C "distance" g_Table_distance (dVar 0) (daCons (dVar 1) (daCons (dMtL mIndexS (dFld C "entries" (dVar 0)) (daCons (dVar 1) daNil)) daNil))) daNil))) [1] finT) daNil)))
def F_Table_order_of (C : Addr) (g_linear : DRs) (g_triangular : DRs) (g_home_of : DRs) : DTS := (sSeq (sSet 2 (dCB g_home_of (daCons (dVar 1) (daCons (dFld C "count" (dVar 0)) daNil)))) (sSeq (sIf (dTest (dOp dEq (dFld C "way" (dVar 0)) (dC (.str "triangular")))) (sRet (dCB g_triangular (daCons (dFld C "count" (dVar 0)) (daCons (dVar 2) daNil)))) sNext) (sRet (dCB g_linear (daCons (dFld C "count" (dVar 0)) (daCons (dVar 2) daNil))))))
def F_Table_distance (C : Addr) (g_Table_order_of : DRs) : DTS := (sRet (dIndex (dMeth C "order_of" g_Table_order_of (dVar 0) (daCons (dVar 1) daNil)) (daCons (dVar 2) daNil)))
def F_Table_beats (C : Addr) (g_Table_distance : DRs) : DTS := (sSeq (sIf (dTest (dOp dEq (dFld C "rule" (dVar 0)) (dC (.str "farther")))) (sSeq (sSet 4 (dOp dSub (dMeth C "distance" g_Table_distance (dVar 0) (daCons (dVar 1) (daCons (dVar 3) daNil))) (dMeth C "distance" g_Table_distance (dVar 0) (daCons (dVar 2) (daCons (dVar 3) daNil))))) (sIf (dTest (dOp dNe (dVar 4) (dC (.int 0)))) (sRet (dOp dGt (dVar 4) (dC (.int 0)))) sNext)) sNext) (sRet (dOp dLtS (dVar 1) (dVar 2))))
def F_Table_settle (C : Addr) (g_Table_order_of : DRs) (g_Table_distance : DRs) (g_Table_beats : DRs) : DTS := (sSeq (sSet 2 (dVar 1)) (sSeq (sSet 3 (dOp dIx (dMeth C "order_of" g_Table_order_of (dVar 0) (daCons (dVar 2) daNil)) (dC (.int 0)))) (sSeq (sWhile (dTest (dOp dNe (dOp dIx (dFld C "entries" (dVar 0)) (dVar 3)) (dC (.str "")))) (sSeq (sIf (dTest (dMeth C "beats" g_Table_beats (dVar 0) (daCons (dVar 2) (daCons (dOp dIx (dFld C "entries" (dVar 0)) (dVar 3)) (daCons (dVar 3) daNil))))) (sAsg (dTup (daCons (dOp dIx (dFld C "entries" (dVar 0)) (dVar 3)) (daCons (dVar 2) daNil))) (gTp 2 (gsCons (gNm 2) (gsCons (gSb (dFld C "entries" (dVar 0)) (dVar 3)) gsNil)))) sNext) (sSet 3 (dOp dIx (dMeth C "order_of" g_Table_order_of (dVar 0) (daCons (dVar 2) daNil)) (dOp dAdd (dMeth C "distance" g_Table_distance (dVar 0) (daCons (dVar 2) (daCons (dVar 3) daNil))) (dC (.int 1))))))) (sAsg (dVar 2) (gSb (dFld C "entries" (dVar 0)) (dVar 3))))))
def F__law_of_v2 (g__law_take : DRs) : DTS := (sRet (dOp dIxA (dVar 1) (dCB g__law_take (daCons (dVar 0) (daCons (dCB dLenA (daCons (dVar 1) daNil)) daNil)))))
def F__law_drawn_kind (g__law_of : DRs) : DTS := (sRet (dTup (daCons (dCB g__law_of (daCons (dVar 0) (daCons (dLst (daCons (dC (.str "linear")) (daCons (dC (.str "triangular")) daNil))) daNil))) (daCons (dCB g__law_of (daCons (dVar 0) (daCons (dLst (daCons (dC (.str "names")) (daCons (dC (.str "farther")) daNil))) daNil))) daNil))))
end DL
--ELX
--ELO
namespace DL
open PySem PySem.Spec PyProof.Rows L2 LamX PySem.W SL
theorem sgns_mem {z : Str} {d : D} (h : d ∈ sgnsD z) : ∃ c ∈ sg z, d = .str ⟨#[c]⟩ := by
  obtain ⟨c, hc, rfl⟩ := List.mem_map.mp h
  exact ⟨c, hc, rfl⟩
theorem sgns_len {z : Str} : (sgnsD z).length = (sg z).length := by unfold sgnsD sg; rw [List.length_map]
theorem sg_len (z : Str) : z.length = (sg z).length := by unfold sg; rw [Array.length_toList]; rfl
def g_word : DRs := fun ds st Q => ∃ (z : Str) (lo : Nat), ds = [.str z, .int lo] ∧ Word lo z ∧ Q (.bl true) st
theorem ar_word (ds : List D) (st : DSt) (Q : DK) (h : g_word ds st Q) : ds.length = 2 := by
  obtain ⟨z, lo, rfl, _⟩ := h
  rfl
theorem sem_word (ds : List D) (st : DSt) (Q : DK) (h : g_word ds st Q) : F_is_word { nx := fun _ st' => Rt st Q .non st', rt := Rt st Q } (startD 3 ds) st := by
  obtain ⟨z, lo, rfl, w, q⟩ := h
  have st3 : startD 3 [D.str z, D.int lo] = [some (.str z), some (.int lo), none] := rfl
  have big : (100000 : Nat) ≤ sizeLine := by decide
  have l8 := w.hi
  have l0 := w.lo
  simp only [F_is_word, st3]
  try dsimp only
  rw [e_seq]
  exists 5, tyN, subTy, sg_len
  refine iteF' (by simp) ⟨by omega, iteT' (decide_eq_true (by omega)) (iteF' (by rw [decide_eq_true (show ((sg z).length : Int) ≤ 8 by omega)]; rfl) ⟨by rw [sgns_len]; omega, ?_⟩)⟩
  refine lc_map (fun _ => .bl true) (fun d hd Q' q' => ?_) ?_
  · obtain ⟨c, hc, rfl⟩ := sgns_mem hd
    exists 5
    have e := occ_letter (w.ch c hc)
    rw [show Str.ofString "abcdefghijklmnopqrstuvwxyz" = LETS from rfl, e]
    exact q'
  · refine all_end (p := fun _ => true) ?_
    rw [List.all_eq_true.mpr fun _ _ => rfl]
    exact .inl q
def g_reqN : DRs := fun ds st Q => ∃ z : Str, ds = [.str z] ∧ Word 1 z ∧ Q .non st
theorem ar_reqN (ds : List D) (st : DSt) (Q : DK) (h : g_reqN ds st Q) : ds.length = 1 := by
  obtain ⟨z, rfl, _⟩ := h
  rfl
theorem sem_reqN (ds : List D) (st : DSt) (Q : DK) (h : g_reqN ds st Q) : F_require_name g_word { nx := fun _ st' => Rt st Q .non st', rt := Rt st Q } (startD 1 ds) st := by
  obtain ⟨z, rfl, w, q⟩ := h
  have st1 : startD 1 [D.str z] = [some (.str z)] := rfl
  simp only [F_require_name, st1]
  exists 5
  refine ⟨z, 1, rfl, w, ?_⟩
  exists 5
  exact iteF' rfl (.inl q)
def wayS (tri : Bool) : Str := if tri = true then "triangular" else "linear"
def ruleS (far : Bool) : Str := if far = true then "farther" else "names"
def g_reqC : DRs := fun ds st Q => ∃ (tri : Bool) (c : Nat), ds = [.int c, .str (wayS tri)] ∧ OkC tri c ∧ Q .non st
theorem ar_reqC (ds : List D) (st : DSt) (Q : DK) (h : g_reqC ds st Q) : ds.length = 2 := by
  obtain ⟨tri, c, rfl, _⟩ := h
  rfl
theorem sem_reqC (ds : List D) (st : DSt) (Q : DK) (h : g_reqC ds st Q) : F_require_count g_within g_pow2 { nx := fun _ st' => Rt st Q .non st', rt := Rt st Q } (startD 2 ds) st := by
  obtain ⟨tri, c, rfl, o, q⟩ := h
  have st2 : startD 2 [D.int c, D.str (wayS tri)] = [some (.int c), some (.str (wayS tri))] := rfl
  have l := o.l
  have p := o.p
  simp only [F_require_count, st2]
  exists 5
  refine ⟨.int c, 1, 64, rfl, ⟨_, rfl⟩, ?_⟩
  have e : inR 1 64 (.int c) = true := by
    unfold inR
    simp only [Bool.and_eq_true, decide_eq_true_eq]
    omega
  rw [e]
  exists 5
  refine iteF' rfl ?_
  cases tri with
  | false => exact iteF' (by decide) (iteF' (by decide) (.inl q))
  | true =>
    refine iteT' (by decide) ⟨_, rfl, o.t rfl, ?_⟩
    exists 5
    exact iteF' rfl (.inl q)
def g_home : DRs := fun ds st Q => ∃ (z : Str) (c : Nat), ds = [.str z, .int c] ∧ Word 0 z ∧ 0 < c ∧ Q (.int (homN (sg z) % c : Nat)) st
theorem ar_home (ds : List D) (st : DSt) (Q : DK) (h : g_home ds st Q) : ds.length = 2 := by
  obtain ⟨z, c, rfl, _⟩ := h
  rfl
theorem homN_snoc (l : List Nat) (c : Nat) : homN (l ++ [c]) = homN l * 31 + (c - 97) + 1 := by
  unfold homN
  rw [List.foldl_append]
  rfl
theorem hom_lt : ∀ (l : List Nat) (n k : Nat), Ltr l → n < 32 ^ k → l.foldl (fun n c => n * 31 + (c - 97) + 1) n < 32 ^ (k + l.length)
  | [], n, k, _, lt => lt
  | c :: r, n, k, h, lt => by
    have hc := h c List.mem_cons_self
    rw [List.foldl_cons, List.length_cons, Nat.add_comm r.length 1, ← Nat.add_assoc]
    exact hom_lt r _ (k + 1) h.tail (by rw [Nat.pow_succ]; omega)
theorem homN_lt {z : Str} {pre xs : List Nat} (w : Word 0 z) (e : sg z = pre ++ xs) : homN pre < 2 ^ 40 := by
  have h : Ltr pre := fun c hc => w.ch c (by rw [e]; exact List.mem_append_left _ hc)
  have l := w.hi
  rw [e, List.length_append] at l
  have z := hom_lt pre 0 0 h (by decide)
  rw [Nat.zero_add] at z
  refine Nat.lt_of_lt_of_le z ?_
  exact Nat.le_trans (Nat.pow_le_pow_right (by decide) (show pre.length ≤ 8 by omega)) (by decide)
theorem sem_home (ds : List D) (st : DSt) (Q : DK) (h : g_home ds st Q) : F_home_of { nx := fun _ st' => Rt st Q .non st', rt := Rt st Q } (startD 4 ds) st := by
  obtain ⟨z, c, rfl, w, c0, q⟩ := h
  have st4 : startD 4 [D.str z, D.int c] = [some (.str z), some (.int c), none, none] := rfl
  simp only [F_home_of, st4]
  try dsimp only
  rw [e_seq]
  exists 5
  try dsimp only
  rw [e_seq]
  exists 5
  refine for_list (fun c => D.str ⟨#[c]⟩) (fun left r st' => ∃ (pre : List Nat) (x3 : Option D), sg z = pre ++ left ∧ r = [some (.str z), some (.int c), some (.int (homN pre : Nat)), x3] ∧ st' = st) ?_ ?_ (sg z) _ _ ⟨[], _, rfl, rfl, rfl⟩
  · rintro x xs r st' N hN ⟨pre, x3, e, rfl, rfl⟩
    have hx := w.ch x (by rw [e]; exact List.mem_append_right _ List.mem_cons_self)
    have lt := homN_lt w e
    exists 5
    refine ⟨by unfold CMul; omega, x - 97, [], occ_letter hx, ?_⟩
    have e2 : ((homN pre : Nat) : Int) * 31 + ((x - 97 : Nat) : Int) + 1 = ((homN (pre ++ [x]) : Nat) : Int) := by rw [homN_snoc]; omega
    rw [e2]
    exact hN _ _ (.inl ⟨pre ++ [x], _, by rw [e]; simp, rfl, rfl⟩)
  · rintro r st' ⟨pre, x3, e, rfl, rfl⟩
    rw [List.append_nil] at e
    subst e
    exists 5
    exact ⟨by omega, .inl q⟩
end DL
--ELX
--ELO
namespace DL
open PySem PySem.Spec PyProof.Rows L2 LamX PySem.W SL
def fsT (far tri : Bool) (c i j : Nat) : List (Str × D) := [("count", .int (c : Nat)), ("way", .str (wayS tri)), ("rule", .str (ruleS far)), ("contents", .ref i), ("entries", .ref j)]
section
variable {far tri : Bool} {c i j : Nat}
theorem lk_count : List.lookup ("count" : Str) (fsT far tri c i j) = some (D.int (c : Nat)) := rfl
theorem lk_way : List.lookup ("way" : Str) (fsT far tri c i j) = some (D.str (wayS tri)) := rfl
theorem lk_rule : List.lookup ("rule" : Str) (fsT far tri c i j) = some (D.str (ruleS far)) := rfl
theorem lk_contents : List.lookup ("contents" : Str) (fsT far tri c i j) = some (D.ref i) := rfl
theorem lk_entries : List.lookup ("entries" : Str) (fsT far tri c i j) = some (D.ref j) := rfl
theorem lk_order_of : List.lookup ("order_of" : Str) (fsT far tri c i j) = none := rfl
theorem lk_distance : List.lookup ("distance" : Str) (fsT far tri c i j) = none := rfl
theorem lk_beats : List.lookup ("beats" : Str) (fsT far tri c i j) = none := rfl
theorem lk_names : List.lookup ("names" : Str) (fsT far tri c i j) = none := rfl
theorem lk_settle : List.lookup ("settle" : Str) (fsT far tri c i j) = none := rfl
theorem lk_put : List.lookup ("put" : Str) (fsT far tri c i j) = none := rfl
theorem lk_look_up : List.lookup ("look_up" : Str) (fsT far tri c i j) = none := rfl
theorem lk_layout : List.lookup ("layout" : Str) (fsT far tri c i j) = none := rfl
theorem lk_distances : List.lookup ("distances" : Str) (fsT far tri c i j) = none := rfl
end
theorem way_tri {tri : Bool} : decide (wayS tri = "triangular") = tri := by cases tri <;> decide
theorem rule_far {far : Bool} : decide (ruleS far = "farther") = far := by cases far <;> decide
def entD (sl : List Int) : List D := sl.map fun x => if x < 0 then .str "" else .str (nm x.toNat)
section
variable {C : Addr}
def g_order (C : Addr) : DRs := fun ds st Q => ∃ (far tri : Bool) (c n i j : Nat) (z : Str), ds = [.ref n, .str z] ∧ st[n]? = some (.ins C (fsT far tri c i j)) ∧ OkC tri c ∧ Word 1 z ∧ Q (rowD (prw tri c z)) st
theorem ar_order (ds : List D) (st : DSt) (Q : DK) (h : g_order C ds st Q) : ds.length = 2 := by
  obtain ⟨far, tri, c, n, i, j, z, rfl, _⟩ := h
  rfl
theorem sem_order (ds : List D) (st : DSt) (Q : DK) (h : g_order C ds st Q) : F_Table_order_of C g_line g_tri g_home { nx := fun _ st' => Rt st Q .non st', rt := Rt st Q } (startD 3 ds) st := by
  obtain ⟨far, tri, c, n, i, j, z, rfl, t, o, w, q⟩ := h
  have st3 : startD 3 [D.ref n, D.str z] = [some (.ref n), some (.str z), none] := rfl
  simp only [F_Table_order_of, st3]
  try dsimp only
  rw [e_seq]
  exists 5, onIns_ref t, lk_count, lk_way
  refine ⟨z, c, rfl, w.mono (by decide), o.p, ?_⟩
  try dsimp only
  rw [e_seq]
  exists 5, onIns_ref t, lk_count, lk_way
  unfold prw at q
  cases tri with
  | true =>
    refine iteT' way_tri ⟨c, _, rfl, o.t rfl, o.p, o.l, ?_⟩
    rw [if_pos rfl] at q
    exact .inl q
  | false =>
    refine iteF' way_tri ⟨c, _, rfl, o.p, by have := o.l; omega, ?_⟩
    rw [if_neg (by decide)] at q
    exact .inl q
def g_dist (C : Addr) : DRs := fun ds st Q => ∃ (far tri : Bool) (c n i j s : Nat) (z : Str), ds = [.ref n, .str z, .int s] ∧ st[n]? = some (.ins C (fsT far tri c i j)) ∧ OkC tri c ∧ Word 1 z ∧ s < c ∧ Q (.int (pos (prw tri c z) (s : Int) : Nat)) st
theorem ar_dist (ds : List D) (st : DSt) (Q : DK) (h : g_dist C ds st Q) : ds.length = 3 := by
  obtain ⟨far, tri, c, n, i, j, s, z, rfl, _⟩ := h
  rfl
theorem sem_dist (ds : List D) (st : DSt) (Q : DK) (h : g_dist C ds st Q) : F_Table_distance C (g_order C) { nx := fun _ st' => Rt st Q .non st', rt := Rt st Q } (startD 3 ds) st := by
  obtain ⟨far, tri, c, n, i, j, s, z, rfl, t, o, w, hs, q⟩ := h
  have st3 : startD 3 [D.ref n, D.str z, D.int s] = [some (.ref n), some (.str z), some (.int s)] := rfl
  simp only [F_Table_distance, st3]
  exists 5, onIns_ref t, lk_order_of
  refine ⟨trivial, far, tri, c, n, i, j, z, rfl, t, o, w, ?_⟩
  have m : ((s : Nat) : Int) ∈ prw tri c z := (prw_ord o z).mem.mpr (by omega)
  exists 5, rowD, intsD_ints, (pos_at m).2
  exact ⟨trivial, .inl q⟩
def g_beats (C : Addr) : DRs := fun ds st Q => ∃ (far tri : Bool) (c n i j s : Nat) (y z : Str), ds = [.ref n, .str y, .str z, .int s] ∧ st[n]? = some (.ins C (fsT far tri c i j)) ∧ OkC tri c ∧ Word 1 y ∧ Word 1 z ∧ s < c ∧ Q (.bl (btN far tri c s y z)) st
theorem ar_beats (ds : List D) (st : DSt) (Q : DK) (h : g_beats C ds st Q) : ds.length = 4 := by
  obtain ⟨far, tri, c, n, i, j, s, y, z, rfl, _⟩ := h
  rfl
theorem sem_beats (ds : List D) (st : DSt) (Q : DK) (h : g_beats C ds st Q) : F_Table_beats C (g_dist C) { nx := fun _ st' => Rt st Q .non st', rt := Rt st Q } (startD 5 ds) st := by
  obtain ⟨far, tri, c, n, i, j, s, y, z, rfl, t, o, wy, wz, hs, q⟩ := h
  have st5 : startD 5 [D.ref n, D.str y, D.str z, D.int s] = [some (.ref n), some (.str y), some (.str z), some (.int s), none] := rfl
  simp only [F_Table_beats, st5]
  try dsimp only
  rw [e_seq]
  exists 5, onIns_ref t, lk_rule
  unfold btN at q
  cases far with
  | false =>
    refine iteF' rule_far ?_
    exists 5
    rw [if_neg (by simp)] at q
    exact .inl q
  | true =>
    refine iteT' rule_far ?_
    try dsimp only
    rw [e_seq]
    exists 5, onIns_ref t, lk_distance
    refine ⟨trivial, true, tri, c, n, i, j, s, y, rfl, t, o, wy, hs, ?_⟩
    exists 5, onIns_ref t, lk_distance
    refine ⟨trivial, true, tri, c, n, i, j, s, z, rfl, t, o, wz, hs, ?_⟩
    exists 5
    by_cases e : pos (prw tri c y) (s : Int) = pos (prw tri c z) (s : Int)
    · refine iteF' (by rw [e]; simp) ?_
      exists 5
      rw [if_neg (fun x => x.2 e)] at q
      exact .inl q
    · refine iteT' (by simp; omega) ?_
      exists 5
      rw [if_pos ⟨rfl, e⟩] at q
      refine .inl ?_
      have e2 : decide (0 < ((pos (prw tri c y) (s : Int) : Nat) : Int) - ((pos (prw tri c z) (s : Int) : Nat) : Int)) = decide (pos (prw tri c z) (s : Int) < pos (prw tri c y) (s : Int)) := decide_eq_decide.mpr (by omega)
      rw [e2]
      exact q
def g_layoutT (C : Addr) : DRs := fun ds st Q => ∃ (far tri : Bool) (c n i j : Nat) (xs : List D), ds = [.ref n] ∧ st[n]? = some (.ins C (fsT far tri c i j)) ∧ st[j]? = some (.lst xs) ∧ Q (.tup xs) st
theorem ar_layoutT (ds : List D) (st : DSt) (Q : DK) (h : g_layoutT C ds st Q) : ds.length = 1 := by
  obtain ⟨far, tri, c, n, i, j, xs, rfl, _⟩ := h
  rfl
theorem sem_layoutT (ds : List D) (st : DSt) (Q : DK) (h : g_layoutT C ds st Q) : F_Table_layout C { nx := fun _ st' => Rt st Q .non st', rt := Rt st Q } (startD 1 ds) st := by
  obtain ⟨far, tri, c, n, i, j, xs, rfl, t, te, q⟩ := h
  have st1 : startD 1 [D.ref n] = [some (.ref n)] := rfl
  simp only [F_Table_layout, st1]
  exists 5, onIns_ref t, lk_entries, seq_ref te
  exact .inl q
def fs1 (c : Nat) : List (Str × D) := [("count", .int (c : Nat))]
def fs2 (tri : Bool) (c : Nat) : List (Str × D) := [("count", .int (c : Nat)), ("way", .str (wayS tri))]
def fs3 (far tri : Bool) (c : Nat) : List (Str × D) := [("count", .int (c : Nat)), ("way", .str (wayS tri)), ("rule", .str (ruleS far))]
def fs4 (far tri : Bool) (c i : Nat) : List (Str × D) := [("count", .int (c : Nat)), ("way", .str (wayS tri)), ("rule", .str (ruleS far)), ("contents", .ref i)]
theorem nin_two {w a b : Str} {st : DSt} {Q : DK} (h : w = a ∨ w = b) (q : Q (.bl false) st) : dInG true (.str w) (.tup [.str a, .str b]) st Q := by
  rw [e_nin, e_seqT]
  refine ⟨⟨rfl, rfl⟩, ?_⟩
  have e : ([D.str a, D.str b].any fun y => eqF y (.str w)) = true := by
    rcases h with h | h
    · subst h; simp [eqF]
    · subst h; simp [eqF]
  rw [e]
  exact q
def g_init (C : Addr) : DRs := fun ds st Q => ∃ (far tri : Bool) (c n : Nat), ds = [.ref n, .int c, .str (wayS tri), .str (ruleS far)] ∧ st[n]? = some (.ins C []) ∧ OkC tri c ∧ Q .non (st.set n (.ins C (fsT far tri c st.length (st.length + 1))) ++ [.dK [], .lst (List.replicate c (.str ""))])
theorem ar_init (ds : List D) (st : DSt) (Q : DK) (h : g_init C ds st Q) : ds.length = 4 := by
  obtain ⟨far, tri, c, n, rfl, _⟩ := h
  rfl
theorem sem_init (ds : List D) (st : DSt) (Q : DK) (h : g_init C ds st Q) : F_Table___init__ C g_reqC { nx := fun _ st' => Rt st Q .non st', rt := Rt st Q } (startD 4 ds) st := by
  obtain ⟨far, tri, c, n, rfl, t, o, q⟩ := h
  have st4 : startD 4 [D.ref n, D.int c, D.str (wayS tri), D.str (ruleS far)] = [some (.ref n), some (.int c), some (.str (wayS tri)), some (.str (ruleS far))] := rfl
  have lt : n < st.length := (List.getElem?_eq_some_iff.mp t).1
  simp only [F_Table___init__, st4]
  try dsimp only
  rw [e_seq]
  exists 5
  refine nin_two (by cases tri <;> simp [wayS]) ?_
  exists 5
  refine iteF' rfl ?_
  try dsimp only
  rw [e_seq]
  exists 5
  refine nin_two (by cases far <;> simp [ruleS]) ?_
  exists 5
  refine iteF' rfl ?_
  try dsimp only
  rw [e_seq]
  exists 5
  refine ⟨tri, c, rfl, o, ?_⟩
  try dsimp only
  rw [e_seq]
  exists 5, onIns_ref t
  refine ⟨by decide, ?_⟩
  have h1 : ∀ fs : List (Str × D), (st.set n (.ins C fs))[n]? = some (.ins C fs) := fun fs => List.getElem?_set_self lt
  have h2 : ∀ (fs : List (Str × D)) (xs : List O), (st.set n (.ins C fs) ++ xs)[n]? = some (.ins C fs) := fun fs xs => by
    rw [List.getElem?_append_left (by rw [List.length_set]; exact lt)]
    exact h1 fs
  have h3 : ∀ (fs gs : List (Str × D)) (xs : List O), (st.set n (.ins C fs) ++ xs).set n (.ins C gs) = st.set n (.ins C gs) ++ xs := fun fs gs xs => by
    rw [List.set_append_left _ _ (by rw [List.length_set]; exact lt), List.set_set]
  have p1 : putFD "count" (.int (c : Nat)) [] = fs1 c := rfl
  have p2 : putFD "way" (.str (wayS tri)) (fs1 c) = fs2 tri c := rfl
  have p3 : putFD "rule" (.str (ruleS far)) (fs2 tri c) = fs3 far tri c := rfl
  have p4 : ∀ i : Nat, putFD "contents" (.ref i) (fs3 far tri c) = fs4 far tri c i := fun i => rfl
  have p5 : ∀ i j : Nat, putFD "entries" (.ref j) (fs4 far tri c i) = fsT far tri c i j := fun i j => rfl
  rw [p1]
  try dsimp only
  rw [e_seq]
  exists 5, onIns_ref (h1 _)
  refine ⟨show (1 : Nat) ≤ 900 by decide, ?_⟩
  rw [p2]
  try dsimp only
  rw [e_seq]
  try simp only [e_var, e_C, e_op, e_neg, e_isN, e_notN, e_and, e_or, e_not, e_test, e_tAnd, e_tOr, e_tNot, e_tYes, e_if, e_aNil, e_aCons, e_tup, e_lst, e_lstN, e_len0, e_len1, e_len2, e_len3, e_len4, e_len5, e_cb, e_on1, e_on2, e_onI, e_onB, e_onO, e_onO0, e_onOO, e_I0, e_I, e_add, e_addT, e_addS, e_addL, e_addLR, e_addRL, e_addRR, e_mul, e_mulL, e_mulT, e_rev, e_revT, e_ix, e_eqI, e_eqS, e_eqB, e_neI, e_neS, e_neB, e_ltI, e_chain, e_len, e_abs, e_2I, e_tuple1, e_tuple2, e_tuple3, e_listT, e_listN, e_allR, e_seqT, e_seqK, e_seqL, e_isi, e_isB, e_notB, e_truth, e_next, e_drop, e_ret, e_retN, e_ifS, e_set, e_asg, e_par, e_nm, e_gsN, e_gsC, e_gTpK, e_gTpL, e_sum, e_maxL, e_minL, e_maxDef, e_int, e_intB, e_aug, e_on3, e_par3, e_newK, e_getK, e_keyI, e_keyS, e_inK, e_ninK, e_putK, e_lenK, e_lstS, e_seqX, e_gTpT, e_oN, e_oS, e_sl, e_slT, e_slL, e_finT, e_finN, e_index, e_idxT, e_idxL, e_mIx, e_ixST, e_ixSL, e_mtL, e_w, e_w1, e_w2, e_wE, e_wZ, e_itK, e_itT, e_itL, e_itT2, e_itL2, e_lc, e_for, e_wipe0, e_wipe, e_okI, e_okR, e_gSb, List.getElem?_cons_zero, List.getElem?_cons_succ, List.set_cons_zero, List.set_cons_succ, e_getD, e_get1, e_lockK, e_dlockK, e_wItemsK, e_wKeysK, e_getR, e_inR, e_ninR, e_dictP, e_sortTs, e_maxTs, e_pop, e_lenSetL, e_gSbK, e_fld, e_sFld, e_meth, e_mk, e_onS, e_ixAS, e_ixAT, e_ixAK, e_ixAL, e_ixAR, e_lenAS, e_lenAT, e_lenAK, e_lenAL, e_lenAR, e_wStr, e_join, e_sidx, e_ltS, e_inS, e_addSS, e_sortKS, e_mIndexS, List.set_set, onIns_ref (h1 _)]
  refine ⟨show (2 : Nat) ≤ 900 by decide, ?_⟩
  rw [p3]
  try dsimp only
  rw [e_seq]
  try simp only [e_var, e_C, e_op, e_neg, e_isN, e_notN, e_and, e_or, e_not, e_test, e_tAnd, e_tOr, e_tNot, e_tYes, e_if, e_aNil, e_aCons, e_tup, e_lst, e_lstN, e_len0, e_len1, e_len2, e_len3, e_len4, e_len5, e_cb, e_on1, e_on2, e_onI, e_onB, e_onO, e_onO0, e_onOO, e_I0, e_I, e_add, e_addT, e_addS, e_addL, e_addLR, e_addRL, e_addRR, e_mul, e_mulL, e_mulT, e_rev, e_revT, e_ix, e_eqI, e_eqS, e_eqB, e_neI, e_neS, e_neB, e_ltI, e_chain, e_len, e_abs, e_2I, e_tuple1, e_tuple2, e_tuple3, e_listT, e_listN, e_allR, e_seqT, e_seqK, e_seqL, e_isi, e_isB, e_notB, e_truth, e_next, e_drop, e_ret, e_retN, e_ifS, e_set, e_asg, e_par, e_nm, e_gsN, e_gsC, e_gTpK, e_gTpL, e_sum, e_maxL, e_minL, e_maxDef, e_int, e_intB, e_aug, e_on3, e_par3, e_newK, e_getK, e_keyI, e_keyS, e_inK, e_ninK, e_putK, e_lenK, e_lstS, e_seqX, e_gTpT, e_oN, e_oS, e_sl, e_slT, e_slL, e_finT, e_finN, e_index, e_idxT, e_idxL, e_mIx, e_ixST, e_ixSL, e_mtL, e_w, e_w1, e_w2, e_wE, e_wZ, e_itK, e_itT, e_itL, e_itT2, e_itL2, e_lc, e_for, e_wipe0, e_wipe, e_okI, e_okR, e_gSb, List.getElem?_cons_zero, List.getElem?_cons_succ, List.set_cons_zero, List.set_cons_succ, e_getD, e_get1, e_lockK, e_dlockK, e_wItemsK, e_wKeysK, e_getR, e_inR, e_ninR, e_dictP, e_sortTs, e_maxTs, e_pop, e_lenSetL, e_gSbK, e_fld, e_sFld, e_meth, e_mk, e_onS, e_ixAS, e_ixAT, e_ixAK, e_ixAL, e_ixAR, e_lenAS, e_lenAT, e_lenAK, e_lenAL, e_lenAR, e_wStr, e_join, e_sidx, e_ltS, e_inS, e_addSS, e_sortKS, e_mIndexS, List.set_set, onIns_ref (h2 _ _), h3, List.length_set]
  refine ⟨show (3 : Nat) ≤ 900 by decide, ?_⟩
  rw [p4]
  have l := o.l
  try simp only [e_var, e_C, e_op, e_neg, e_isN, e_notN, e_and, e_or, e_not, e_test, e_tAnd, e_tOr, e_tNot, e_tYes, e_if, e_aNil, e_aCons, e_tup, e_lst, e_lstN, e_len0, e_len1, e_len2, e_len3, e_len4, e_len5, e_cb, e_on1, e_on2, e_onI, e_onB, e_onO, e_onO0, e_onOO, e_I0, e_I, e_add, e_addT, e_addS, e_addL, e_addLR, e_addRL, e_addRR, e_mul, e_mulL, e_mulT, e_rev, e_revT, e_ix, e_eqI, e_eqS, e_eqB, e_neI, e_neS, e_neB, e_ltI, e_chain, e_len, e_abs, e_2I, e_tuple1, e_tuple2, e_tuple3, e_listT, e_listN, e_allR, e_seqT, e_seqK, e_seqL, e_isi, e_isB, e_notB, e_truth, e_next, e_drop, e_ret, e_retN, e_ifS, e_set, e_asg, e_par, e_nm, e_gsN, e_gsC, e_gTpK, e_gTpL, e_sum, e_maxL, e_minL, e_maxDef, e_int, e_intB, e_aug, e_on3, e_par3, e_newK, e_getK, e_keyI, e_keyS, e_inK, e_ninK, e_putK, e_lenK, e_lstS, e_seqX, e_gTpT, e_oN, e_oS, e_sl, e_slT, e_slL, e_finT, e_finN, e_index, e_idxT, e_idxL, e_mIx, e_ixST, e_ixSL, e_mtL, e_w, e_w1, e_w2, e_wE, e_wZ, e_itK, e_itT, e_itL, e_itT2, e_itL2, e_lc, e_for, e_wipe0, e_wipe, e_okI, e_okR, e_gSb, List.getElem?_cons_zero, List.getElem?_cons_succ, List.set_cons_zero, List.set_cons_succ, e_getD, e_get1, e_lockK, e_dlockK, e_wItemsK, e_wKeysK, e_getR, e_inR, e_ninR, e_dictP, e_sortTs, e_maxTs, e_pop, e_lenSetL, e_gSbK, e_fld, e_sFld, e_meth, e_mk, e_onS, e_ixAS, e_ixAT, e_ixAK, e_ixAL, e_ixAR, e_lenAS, e_lenAT, e_lenAK, e_lenAL, e_lenAR, e_wStr, e_join, e_sidx, e_ltS, e_inS, e_addSS, e_sortKS, e_mIndexS, List.append_assoc, onIns_ref (h2 _ _), h3, List.length_set]
  refine ⟨⟨by omega, ?_, by omega⟩, show (4 : Nat) ≤ 900 by decide, .inl ?_⟩
  · show 1 * (c : Int).toNat ≤ 1000
    omega
  rw [List.length_append, List.length_set, p5, Int.toNat_natCast, rep_flat]
  exact q
end
end DL
--ELX
--ELO
namespace DL
open PySem PySem.Spec PyProof.Rows L2 LamX PySem.W SL
def entS (x : Int) : Str := if x < 0 then "" else nm x.toNat
theorem entS_no : entS (-1) = "" := rfl
theorem entS_at (k : Nat) : entS (k : Int) = nm k := by unfold entS; rw [if_neg (by omega)]; rfl
theorem entD_eq (sl : List Int) : entD sl = sl.map fun x => D.str (entS x) := List.map_congr_left fun x _ => by
  unfold entS
  split <;> rfl
theorem ent_get {sl : List Int} {s : Nat} {x : Int} (h : sl[s]? = some x) : atI (entD sl) (s : Int) = some (.str (entS x)) := atI_nat (by rw [entD_eq, List.getElem?_map, h]; rfl)
theorem ent_set {sl : List Int} {s : Nat} {a : Nat} : (entD sl).set s (.str (nm a)) = entD (sl.set s (a : Int)) := by
  rw [entD_eq, entD_eq, List.map_set, entS_at]
theorem ent_len {sl : List Int} : (entD sl).length = sl.length := by rw [entD_eq, List.length_map]
def Wds (sl : List Int) : Prop := ∀ s k, At sl s k → Wd k
theorem Wds.set {sl : List Int} {s a : Nat} (h : Wds sl) (l : s < sl.length) (w : Wd a) : Wds (sl.set s (a : Int)) := fun t k hk => by
  rcases (at_set l).mp hk with ⟨_, rfl⟩ | ⟨_, q⟩
  · exact w
  · exact h t k q
structure NmS (far tri : Bool) (c m : Nat) (P : List (List Int)) (R : List (List (List Int))) : Prop where
  o : OkC tri c
  S : Setg m c P R
  T : Trn m c R
  lt : ∀ a, Wd a → a < m
  row : ∀ a, Wd a → P.getD a [] = prw tri c (nm a)
  bt : ∀ s a b, s < c → Wd a → Wd b → bt R s a b = btN far tri c s (nm a) (nm b)
theorem nmS_ex {far tri : Bool} {c : Nat} (o : OkC tri c) : ∃ m P R, NmS far tri c m P R :=
  ⟨NW, PW tri c, RW far tri c, o, W_set o, W_trn o, fun a h => h.lt, fun a h => PW_at h.lt, fun s a b hs ha hb => bt_btN o hs ha hb⟩
section
variable {far tri : Bool} {c m : Nat} {P : List (List Int)} {R : List (List (List Int))}
theorem NmS.at_ (W : NmS far tri c m P R) {a i : Nat} (ha : Wd a) (hi : i < c) : atI ((prw tri c (nm a)).map D.int) (i : Int) = some (.int (pr P a i : Nat)) := by
  have z := W.S.s_at (W.lt a ha) hi
  rw [W.row a ha] at z
  exact z
theorem NmS.rk (W : NmS far tri c m P R) {a s : Nat} (ha : Wd a) : pos (prw tri c (nm a)) (s : Int) = rk P a s := by
  unfold DL.rk
  rw [W.row a ha]
end
section
variable {C : Addr}
def g_settle (C : Addr) : DRs := fun ds st Q => ∃ (far tri : Bool) (c m n i j : Nat) (P : List (List Int)) (R : List (List (List Int))) (z : Str) (sl : List Int), ds = [.ref n, .str z] ∧ st[n]? = some (.ins C (fsT far tri c i j)) ∧ st[j]? = some (.lst (entD sl)) ∧ NmS far tri c m P R ∧ Word 1 z ∧ Wds sl ∧ Go m c P sl (num z) 0 ∧ Q .non (st.set j (.lst (entD (ins P R sl (num z)).1)))
theorem ar_settle (ds : List D) (st : DSt) (Q : DK) (h : g_settle C ds st Q) : ds.length = 2 := by
  obtain ⟨far, tri, c, m, n, i, j, P, R, z, sl, rfl, _⟩ := h
  rfl
set_option maxHeartbeats 2000000 in
theorem sem_settle (ds : List D) (st : DSt) (Q : DK) (h : g_settle C ds st Q) : F_Table_settle C (g_order C) (g_dist C) (g_beats C) { nx := fun _ st' => Rt st Q .non st', rt := Rt st Q } (startD 4 ds) st := by
  obtain ⟨far, tri, c, m, n, i, j, P, R, z, sl, rfl, t, te, W, w, wds, G, q⟩ := h
  have o := W.o
  have st4 : startD 4 [D.ref n, D.str z] = [some (.ref n), some (.str z), none, none] := rfl
  have S := W.S
  have wa := w.wd
  have hz : nm (num z) = z := nm_num w
  have nj : j ≠ n := fun e => by rw [e, t] at te; cases te
  have lj : j < st.length := (List.getElem?_eq_some_iff.mp te).1
  have eI := ins_eq S G
  generalize hF : pot P R.length sl + R.length + 1 = F at eI
  generalize ins P R sl (num z) = X at eI q
  obtain ⟨LL, PP⟩ := X
  simp only [F_Table_settle, st4]
  try dsimp only
  rw [e_seq]
  exists 5
  try dsimp only
  rw [e_seq]
  exists 5, onIns_ref t, lk_order_of
  refine ⟨trivial, far, tri, c, n, i, j, z, rfl, t, o, w, ?_⟩
  have p0 := W.at_ wa G.hi
  rw [hz] at p0
  exists 5, rowD, p0
  have p0' : atI ((prw tri c z).map D.int) 0 = some (.int (pr P (num z) 0 : Nat)) := p0
  rw [p0']
  try dsimp only
  rw [e_onO, e_seq]
  refine s_while (fun f r st' => ∃ (sl' : List Int) (b i : Nat) (p : List (Nat × Nat)), Go m c P sl' b i ∧ insG P R f sl' b i = some (LL, p) ∧ Wd b ∧ Wds sl' ∧
      r = [some (.ref n), some (.str z), some (.str (nm b)), some (.int (pr P b i : Nat))] ∧ st' = st.set j (.lst (entD sl'))) F ⟨sl, num z, 0, PP, G, eI, wa, wds, by rw [hz], (set_same te).symm⟩ ?_
  rintro f r st' N hN ⟨sl', b, i2, p, G', eG, wb, ws, rfl, rfl⟩
  have ls := (S.pr_at G'.ha G'.hi).2
  have lsl : pr P b i2 < sl'.length := by rw [G'.g.lay.len]; exact ls
  have t' : (st.set j (.lst (entD sl')))[n]? = some (.ins C (fsT far tri c i j)) := by rw [List.getElem?_set_ne nj]; exact t
  have te' : (st.set j (.lst (entD sl')))[j]? = some (.lst (entD sl')) := List.getElem?_set_self lj
  cases f with
  | zero => cases eG
  | succ f =>
    rcases G'.g.lay.either ls with e | ⟨k, tk⟩
    · rw [insG_free e] at eG
      cases eG
      exists 5, onIns_ref t', lk_entries, seq_ref te', ent_get e, entS_no
      refine iteF' (by decide) ?_
      exists 5, onIns_ref t', lk_entries, setS_ref te', ent_len, ixN_lt lsl, List.set_set, ent_set
      exact .inl q
    · have hk := (G'.g.lay.key tk).1
      have wk := ws _ _ tk
      rw [insG_taken tk] at eG
      exists 5, onIns_ref t', lk_entries, seq_ref te', ent_get tk, entS_at
      refine iteT' (by rw [decide_eq_false wk.1.ne]; rfl) ?_
      try dsimp only
      rw [e_seq]
      exists 5, onIns_ref t', lk_entries, lk_beats, seq_ref te', ent_get tk, entS_at
      refine ⟨trivial, far, tri, c, n, i, j, _, nm b, nm k, rfl, t', o, wb.1, wk.1, ls, ?_⟩
      rw [← W.bt _ _ _ ls wb wk]
      exists 5
      by_cases bb : bt R (pr P b i2) b k = true
      · rw [if_pos bb] at eG
        obtain ⟨⟨L2, p2⟩, h2, h3⟩ := Option.map_eq_some_iff.mp eG
        cases h3
        have G2 := G'.swap S tk
        refine iteT' bb ?_
        exists 5, onIns_ref t', lk_entries, seq_ref te', ent_get tk, entS_at, setS_ref te', ent_len, ixN_lt lsl, List.set_set, ent_set
        have t2 : ∀ X : O, (st.set j X)[n]? = some (.ins C (fsT far tri c i j)) := fun X => by rw [List.getElem?_set_ne nj]; exact t
        refine ⟨rfl, ?_⟩
        rw [onIns_ref (t2 _)]
        refine ⟨lk_order_of, far, tri, c, n, i, j, nm k, rfl, t2 _, o, wk.1, ?_⟩
        exists 5, onIns_ref (t2 _)
        refine ⟨lk_distance, far, tri, c, n, i, j, _, nm k, rfl, t2 _, o, wk.1, ls, ?_⟩
        rw [W.rk wk]
        have e5 : ((rk P k (pr P b i2) : Nat) : Int) + 1 = ((rk P k (pr P b i2) + 1 : Nat) : Int) := by omega
        exists 5, rowD, e5, W.at_ wk G2.hi
        exact hN f _ _ (Nat.lt_succ_self _) (.inl ⟨_, k, _, p2, G2, h2, wk, ws.set lsl wb, rfl, rfl⟩)
      · rw [if_neg bb] at eG
        have G2 := G'.on S tk
        have rkp := S.rk_pr G'.ha G'.hi
        refine iteF' (by simpa using bb) ?_
        exists 5, onIns_ref t', lk_order_of, lk_distance
        refine ⟨trivial, far, tri, c, n, i, j, nm b, rfl, t', o, wb.1, ?_⟩
        exists 5, onIns_ref t', lk_order_of, lk_distance
        refine ⟨trivial, far, tri, c, n, i, j, _, nm b, rfl, t', o, wb.1, ls, ?_⟩
        rw [W.rk wb, rkp]
        have e5 : ((i2 : Nat) : Int) + 1 = ((i2 + 1 : Nat) : Int) := by omega
        exists 5, rowD, e5, W.at_ wb G2.hi
        exact hN f _ _ (Nat.lt_succ_self _) (.inl ⟨_, b, _, _, G2, eG, wb, ws, rfl, rfl⟩)
end
end DL
--ELX
--ELO
namespace DL
open PySem PySem.Spec PyProof.Rows L2 LamX PySem.W SL
def keysT (h : List Nat) : List Key := h.map fun a => Sum.inr (nm a)
theorem key_yes {kvs : List (Key × D)} {k : Key} (h : k ∈ kvs.map (·.1)) : (valD kvs k).isSome = true := by
  unfold valD
  rw [Option.isSome_map]
  obtain ⟨kv, hk, e⟩ := List.mem_map.mp h
  exact List.find?_isSome.mpr ⟨kv, hk, decide_eq_true e⟩
theorem key_no {kvs : List (Key × D)} {k : Key} (h : ¬ k ∈ kvs.map (·.1)) : (valD kvs k).isSome = false := by
  unfold valD
  rw [Option.isSome_map]
  have e : (kvs.find? fun kv => decide (kv.1 = k)) = none := List.find?_eq_none.mpr fun kv hk q => h (List.mem_map.mpr ⟨kv, hk, of_decide_eq_true q⟩)
  rw [e]
  rfl
theorem key_mem {h : List Nat} {z : Str} (wd : ∀ a ∈ h, Wd a) (w : Word 1 z) : (Sum.inr z : Key) ∈ keysT h ↔ num z ∈ h := by
  unfold keysT
  rw [List.mem_map]
  constructor
  · rintro ⟨a, ha, e⟩
    have e2 : nm a = z := Sum.inr.inj e
    rw [← e2, (wd a ha).2]
    exact ha
  · intro hm
    exact ⟨_, hm, by rw [nm_num w]⟩
theorem keys_put {kvs : List (Key × D)} {h : List Nat} {z : Str} {v : D} (e : kvs.map (·.1) = keysT h) (wd : ∀ a ∈ h, Wd a) (w : Word 1 z) : (putD kvs (.inr z) v).map (·.1) = keysT (if num z ∈ h then h else h ++ [num z]) := by
  have km := key_mem wd w
  rw [← e] at km
  unfold putD
  by_cases q : num z ∈ h
  · have a1 : (kvs.any fun kv => decide (kv.1 = (Sum.inr z : Key))) = true := by
      obtain ⟨kv, hk, e2⟩ := List.mem_map.mp (km.mpr q)
      exact List.any_eq_true.mpr ⟨kv, hk, decide_eq_true e2⟩
    rw [if_pos a1, if_pos q, ← e, List.map_map]
    refine List.map_congr_left fun kv _ => ?_
    show (if kv.1 = _ then (kv.1, v) else kv).1 = kv.1
    split <;> rfl
  · have a1 : ¬ (kvs.any fun kv => decide (kv.1 = (Sum.inr z : Key))) = true := fun x => q (by
      obtain ⟨kv, hk, e2⟩ := List.any_eq_true.mp x
      exact km.mp (List.mem_map.mpr ⟨kv, hk, of_decide_eq_true e2⟩))
    rw [if_neg a1, if_neg q, List.map_append, e]
    unfold keysT
    rw [List.map_append]
    show _ ++ [(Sum.inr z : Key)] = _ ++ [Sum.inr (nm (num z))]
    rw [nm_num w]
structure Tab (C : Addr) (far tri : Bool) (c m n i j : Nat) (P : List (List Int)) (R : List (List (List Int))) (h : List Nat) (kvs : List (Key × D)) (st : DSt) : Prop where
  t : st[n]? = some (.ins C (fsT far tri c i j))
  tc : st[i]? = some (.dK kvs)
  ks : kvs.map (·.1) = keysT h
  te : st[j]? = some (.lst (entD (layF P R h)))
  W : NmS far tri c m P R
  hh : Hist m c h
  wd : ∀ a ∈ h, Wd a
def addN (h : List Nat) (a : Nat) : List Nat := if a ∈ h then h else h ++ [a]
section
variable {C : Addr} {far tri : Bool} {c m n i j : Nat} {P : List (List Int)} {R : List (List (List Int))} {h : List Nat} {kvs : List (Key × D)} {st : DSt}
theorem lay_wds (W : NmS far tri c m P R) (hh : Hist m c h) (wd : ∀ a ∈ h, Wd a) : Wds (layF P R h) := fun s k hk => wd k (((layF_good W.S hh).2 k).mp ⟨s, hk⟩)
theorem add_hist {a : Nat} (W : NmS far tri c m P R) (hh : Hist m c h) (ha : Wd a) (few : a ∈ h ∨ h.length < c) : Hist m c (addN h a) := by
  unfold addN
  split
  · exact hh
  · rename_i na
    refine ⟨?_, fun k hk => ?_, ?_⟩
    · rw [List.nodup_append]
      exact ⟨hh.nd, by simp, fun x hx y hy e => na (by rw [List.mem_singleton] at hy; rw [← hy, ← e]; exact hx)⟩
    · rcases List.mem_append.mp hk with q | q
      · exact hh.lt k q
      · rw [List.mem_singleton.mp q]; exact W.lt a ha
    · rw [List.length_append, List.length_singleton]
      rcases few with q | q
      · exact absurd q na
      · omega
theorem add_wd {a : Nat} (wd : ∀ a ∈ h, Wd a) (ha : Wd a) : ∀ b ∈ addN h a, Wd b := fun b hb => by
  unfold addN at hb
  split at hb
  · exact wd b hb
  · rcases List.mem_append.mp hb with q | q
    · exact wd b q
    · rw [List.mem_singleton.mp q]; exact ha
def g_put (C : Addr) : DRs := fun ds st Q => ∃ (far tri : Bool) (c m n i j : Nat) (P : List (List Int)) (R : List (List (List Int))) (h : List Nat) (kvs : List (Key × D)) (z v : Str), ds = [.ref n, .str z, .str v] ∧ Tab C far tri c m n i j P R h kvs st ∧ Word 1 z ∧ Word 0 v ∧ (num z ∈ h ∨ h.length < c) ∧ Q .non ((st.set j (.lst (entD (layF P R (addN h (num z)))))).set i (.dK (putD kvs (.inr z) (.str v))))
theorem ar_put (ds : List D) (st : DSt) (Q : DK) (h : g_put C ds st Q) : ds.length = 3 := by
  obtain ⟨far, tri, c, m, n, i, j, P, R, h, kvs, z, v, rfl, _⟩ := h
  rfl
set_option maxHeartbeats 2000000 in
theorem sem_put (ds : List D) (st : DSt) (Q : DK) (h : g_put C ds st Q) : F_Table_put C g_word g_reqN (g_settle C) { nx := fun _ st' => Rt st Q .non st', rt := Rt st Q } (startD 3 ds) st := by
  obtain ⟨far, tri, c, m, n, i, j, P, R, h, kvs, z, v, rfl, T, w, wv, few, q⟩ := h
  have st3 : startD 3 [D.ref n, D.str z, D.str v] = [some (.ref n), some (.str z), some (.str v)] := rfl
  have big : (100000 : Nat) ≤ sizeLine := by decide
  have ij : j ≠ i := fun e => by have := T.te; rw [e, T.tc] at this; cases this
  have nj : j ≠ n := fun e => by have := T.te; rw [e, T.t] at this; cases this
  have lk : kvs.length = h.length := by
    have := congrArg List.length T.ks
    unfold keysT at this
    rw [List.length_map, List.length_map] at this
    exact this
  have l1 := T.hh.few
  have l2 := T.W.o.l
  have km := key_mem T.wd w
  rw [← T.ks] at km
  simp only [F_Table_put, st3]
  try dsimp only
  rw [e_seq]
  exists 5
  refine ⟨z, rfl, w, ?_⟩
  try dsimp only
  rw [e_seq]
  exists 5
  refine ⟨v, 0, rfl, wv, ?_⟩
  exists 5
  refine iteF' rfl ?_
  try dsimp only
  rw [e_seq]
  exists 5, onIns_ref T.t, lk_contents, onDk_ref T.tc
  by_cases e : num z ∈ h
  · refine iteF' (by rw [key_yes (km.mpr e)]; rfl) ?_
    exists 5, onIns_ref T.t, lk_contents, onDk_ref T.tc
    refine ⟨by omega, .inl ?_⟩
    unfold addN at q
    rw [if_pos e, set_same T.te] at q
    exact q
  · have lt : h.length < c := few.elim (fun x => absurd x e) id
    refine iteT' (by rw [key_no (fun x => e (km.mp x))]; rfl) ?_
    try dsimp only
    rw [e_seq]
    exists 5, onIns_ref T.t, lk_contents, lk_count, onDk_ref T.tc
    refine iteF' (decide_eq_false (by omega)) ?_
    exists 5, onIns_ref T.t, lk_settle
    have G := step_go T.W.S (layF_good T.W.S T.hh).1 (layF_good T.W.S T.hh).2 (T.W.lt _ w.wd) e lt
    refine ⟨trivial, far, tri, c, m, n, i, j, P, R, z, _, rfl, T.t, T.te, T.W, w, lay_wds T.W T.hh T.wd, G, ?_⟩
    have t2 : ∀ X : O, (st.set j X)[n]? = some (.ins C (fsT far tri c i j)) := fun X => by rw [List.getElem?_set_ne nj]; exact T.t
    have t3 : ∀ X : O, (st.set j X)[i]? = some (.dK kvs) := fun X => by rw [List.getElem?_set_ne ij]; exact T.tc
    exists 5, onIns_ref (t2 _), lk_contents, onDk_ref (t3 _)
    refine ⟨by omega, .inl ?_⟩
    have e2 : layF P R (addN h (num z)) = (ins P R (layF P R h) (num z)).1 := by
      unfold addN layF
      rw [if_neg e, layG_app]
      rfl
    rw [e2] at q
    exact q
end
end DL
--ELX
--ELO
namespace DL
open PySem PySem.Spec PyProof.Rows L2 LamX PySem.W SL
def srtN (h : List Nat) : List Nat := h.mergeSort fun a b => decide (a ≤ b)
theorem srtN_perm (h : List Nat) : (srtN h).Perm h := List.mergeSort_perm _ _
theorem srtN_pw (h : List Nat) : (srtN h).Pairwise (· ≤ ·) := by
  have z := List.pairwise_mergeSort (le := fun a b : Nat => decide (a ≤ b)) (fun a b c h1 h2 => by simp only [decide_eq_true_eq] at h1 h2 ⊢; omega) (fun a b => by simp only [Bool.or_eq_true, decide_eq_true_eq]; omega) h
  exact z.imp fun h => of_decide_eq_true h
theorem one_sort : ∀ {a b : List Nat}, a.Perm b → a.Pairwise (· ≤ ·) → b.Pairwise (· ≤ ·) → a = b
  | [], b, p, _, _ => p.nil_eq
  | x :: a, [], p, _, _ => absurd p.length_eq (by simp)
  | x :: a, y :: b, p, ha, hb => by
    rw [List.pairwise_cons] at ha hb
    have h1 : x ∈ y :: b := p.mem_iff.mp List.mem_cons_self
    have h2 : y ∈ x :: a := p.mem_iff.mpr List.mem_cons_self
    have e : x = y := by
      rcases List.mem_cons.mp h1 with q | q
      · exact q
      · rcases List.mem_cons.mp h2 with r | r
        · exact r.symm
        · exact Nat.le_antisymm (ha.1 y r) (hb.1 x q)
    subst e
    rw [one_sort (List.perm_cons x |>.mp p) ha.2 hb.2]
theorem rise_pw : ∀ (p : Nat) (ns : List Nat), Wd p → (∀ a ∈ ns, Wd a) → risingS (nm p) (ns.map nm) = true → (p :: ns).Pairwise (· ≤ ·)
  | p, [], _, _, _ => by simp
  | p, x :: r, hp, hw, h => by
    rw [List.map_cons] at h
    unfold risingS at h
    rw [Bool.and_eq_true, Bool.not_eq_true'] at h
    have wx := hw x List.mem_cons_self
    have ih := rise_pw x r wx (fun a ha => hw a (List.mem_cons_of_mem _ ha)) h.2
    have le : p ≤ x := by
      have z := h.1
      rw [ltCps_eq] at z
      have nl := of_decide_eq_false z
      have z2 := num_iff wx.1 hp.1
      rw [wx.2, hp.2] at z2
      exact Nat.le_of_not_lt fun y => nl (z2.mp y)
    rw [List.pairwise_cons]
    refine ⟨fun y hy => ?_, ih⟩
    rcases List.mem_cons.mp hy with q | q
    · rw [q]; exact le
    · exact Nat.le_trans le ((List.pairwise_cons.mp ih).1 y q)
theorem sort_names {h : List Nat} {out : List Str} (wd : ∀ a ∈ h, Wd a) (pm : out.Perm (h.map nm)) (so : sortedS out = true) : out = (srtN h).map nm := by
  have e1 : out = (out.map num).map nm := by
    rw [List.map_map]
    have z := List.map_congr_left (f := id) (g := nm ∘ num) (l := out) fun z hz => by
      obtain ⟨a, ha, rfl⟩ := List.mem_map.mp (pm.mem_iff.mp hz)
      show nm a = nm (num (nm a))
      rw [(wd a ha).2]
    rw [List.map_id] at z
    exact z
  have e2 : (h.map nm).map num = h := by
    rw [List.map_map]
    refine (List.map_congr_left fun a ha => ?_).trans (List.map_id h)
    exact (wd a ha).2
  have p2 : (out.map num).Perm h := by
    have z := pm.map num
    rw [e2] at z
    exact z
  have ww : ∀ a ∈ out.map num, Wd a := fun a ha => wd a (p2.mem_iff.mp ha)
  have pw : (out.map num).Pairwise (· ≤ ·) := by
    rw [e1] at so
    generalize out.map num = ns at so ww
    cases ns with
    | nil => exact .nil
    | cons x r => exact rise_pw x r (ww x List.mem_cons_self) (fun a ha => ww a (List.mem_cons_of_mem _ ha)) so
  rw [e1, one_sort (p2.trans (srtN_perm h).symm) pw (srtN_pw h)]
section
variable {C : Addr} {far tri : Bool} {c m n i j : Nat} {P : List (List Int)} {R : List (List (List Int))} {h : List Nat} {kvs : List (Key × D)} {st : DSt}
def namesD (h : List Nat) : List D := (srtN h).map fun a => .str (nm a)
theorem names_at {F : List D → Prop} {k : Nat} (e : st[k]? = some (.dK kvs)) (ek : kvs.map (·.1) = keysT h) (wd : ∀ a ∈ h, Wd a) (l : h.length < 64) (q : F (namesD h)) :
    onDk st (.ref k) fun n kvs => ∃ ks : List Str, kvs.map (·.1) = ks.map Sum.inr ∧ ks.length < 64 ∧ ∀ out : List Str, out.Perm ks → sortedS out = true → F (out.map D.str) := by
  rw [onDk_ref e]
  refine ⟨h.map nm, by rw [ek]; unfold keysT; rw [List.map_map]; rfl, by rw [List.length_map]; exact l, fun out pm so => ?_⟩
  rw [sort_names wd pm so, List.map_map]
  exact q
def g_names (C : Addr) : DRs := fun ds st Q => ∃ (far tri : Bool) (c n i j : Nat) (h : List Nat) (kvs : List (Key × D)), ds = [.ref n] ∧ st[n]? = some (.ins C (fsT far tri c i j)) ∧ st[i]? = some (.dK kvs) ∧ kvs.map (·.1) = keysT h ∧ (∀ a ∈ h, Wd a) ∧ h.length < 64 ∧ Q (.tup (namesD h)) st
theorem ar_names (ds : List D) (st : DSt) (Q : DK) (h : g_names C ds st Q) : ds.length = 1 := by
  obtain ⟨far, tri, c, n, i, j, h, kvs, rfl, _⟩ := h
  rfl
theorem sem_names (ds : List D) (st : DSt) (Q : DK) (h : g_names C ds st Q) : F_Table_names C { nx := fun _ st' => Rt st Q .non st', rt := Rt st Q } (startD 1 ds) st := by
  obtain ⟨far, tri, c, n, i, j, h, kvs, rfl, t, tc, ks, wd, l, q⟩ := h
  have st1 : startD 1 [D.ref n] = [some (.ref n)] := rfl
  simp only [F_Table_names, st1]
  exists 5, onIns_ref t, lk_contents
  exact names_at (F := fun xs => Rt st Q (.tup xs) st) tc ks wd l (.inl q)
end
end DL
--ELX
--ELO
namespace DL
open PySem PySem.Spec PyProof.Rows L2 LamX PySem.W SL
def seekB (P : List (List Int)) (R : List (List (List Int))) (sl : List Int) (c a : Nat) : Nat → Nat → Int × Nat
  | 0, _ => (-1, c)
  | f + 1, i => if sl.getD (pr P a i) 0 = (a : Int) then ((pr P a i : Nat), i + 1) else if sl.getD (pr P a i) 0 = -1 then (-1, i + 1) else if bt R (pr P a i) a (sl.getD (pr P a i) 0).toNat = true then (-1, i + 1) else seekB P R sl c a f (i + 1)
def seekD (p : Int × Nat) : D := .tup [.int p.1, .int (p.2 : Nat)]
theorem enK_drop {k : Nat} {xs : List Int} {i : Nat} {d : D} {ds : List D} (h : d :: ds = (enumDK k (xs.map D.int)).drop i) : i < xs.length ∧ d = .tuk [.int ((i + k : Nat) : Int), .int (xs.getD i 0)] ∧ ds = (enumDK k (xs.map D.int)).drop (i + 1) := by
  obtain ⟨e, lt, e2⟩ := drop_cons h.symm
  obtain ⟨x, ex, rfl⟩ := enumDK_get e
  rw [List.getElem?_map] at ex
  obtain ⟨y, ey, rfl⟩ := Option.map_eq_some_iff.mp ex
  refine ⟨(List.getElem?_eq_some_iff.mp ey).1, ?_, e2.symm⟩
  rw [List.getD_eq_getElem?_getD, ey]
  rfl
theorem enK_end {k : Nat} {xs : List Int} {i : Nat} (h : [] = (enumDK k (xs.map D.int)).drop i) : xs.length ≤ i := by
  have := List.drop_eq_nil_iff.mp h.symm
  rw [enumDK_length, List.length_map] at this
  exact this
section
variable {C : Addr} {far tri : Bool} {c m n i j : Nat} {P : List (List Int)} {R : List (List (List Int))} {h : List Nat} {kvs : List (Key × D)} {st : DSt}
theorem ent_is {sl : List Int} {s a : Nat} (L : Lay m c sl) (ws : Wds sl) (hs : s < c) (wa : Wd a) : ∃ x : Int, sl[s]? = some x ∧ sl.getD s 0 = x ∧ (entS x = nm a ↔ x = (a : Int)) ∧ (entS x = "" ↔ x = -1) ∧ (x ≠ -1 → Wd x.toNat ∧ entS x = nm x.toNat) := by
  rcases L.either hs with e | ⟨k, tk⟩
  · refine ⟨-1, e, by rw [List.getD_eq_getElem?_getD, e]; rfl, ⟨fun x => absurd x.symm wa.1.ne, fun x => by omega⟩, ⟨fun _ => rfl, fun _ => rfl⟩, fun x => absurd rfl x⟩
  · have wk := ws _ _ tk
    unfold At at tk
    refine ⟨(k : Int), tk, by rw [List.getD_eq_getElem?_getD, tk]; rfl, ?_, ?_, fun _ => ⟨by rw [Int.toNat_natCast]; exact wk, by rw [Int.toNat_natCast]; exact entS_at k⟩⟩
    · rw [entS_at, wk.inj wa]
      omega
    · rw [entS_at]
      exact ⟨fun x => absurd x wk.1.ne, fun x => by omega⟩
def g_lookT (C : Addr) : DRs := fun ds st Q => ∃ (far tri : Bool) (c m n i j : Nat) (P : List (List Int)) (R : List (List (List Int))) (h : List Nat) (kvs : List (Key × D)) (z : Str), ds = [.ref n, .str z] ∧ Tab C far tri c m n i j P R h kvs st ∧ Word 1 z ∧ Q (seekD (seekB P R (layF P R h) c (num z) c 0)) st
theorem ar_lookT (ds : List D) (st : DSt) (Q : DK) (h : g_lookT C ds st Q) : ds.length = 2 := by
  obtain ⟨far, tri, c, m, n, i, j, P, R, h, kvs, z, rfl, _⟩ := h
  rfl
set_option maxHeartbeats 2000000 in
theorem sem_lookT (ds : List D) (st : DSt) (Q : DK) (h : g_lookT C ds st Q) : F_Table_look_up C g_reqN (g_order C) (g_beats C) { nx := fun _ st' => Rt st Q .non st', rt := Rt st Q } (startD 4 ds) st := by
  obtain ⟨far, tri, c, m, n, i, j, P, R, h, kvs, z, rfl, T, w, q⟩ := h
  have st4 : startD 4 [D.ref n, D.str z] = [some (.ref n), some (.str z), none, none] := rfl
  have W := T.W
  have S := W.S
  have wa := w.wd
  have hz : nm (num z) = z := nm_num w
  have L := (layF_good S T.hh).1.lay
  have wds := lay_wds W T.hh T.wd
  have te := T.te
  generalize layF P R h = sl at q L wds te
  simp only [F_Table_look_up, st4]
  try dsimp only
  rw [e_seq]
  exists 5
  refine ⟨z, rfl, w, ?_⟩
  try dsimp only
  rw [e_seq]
  exists 5, onIns_ref T.t, lk_order_of, e_wEK
  refine ⟨trivial, far, tri, c, n, i, j, z, rfl, T.t, W.o, w, ?_⟩
  have row := W.row _ wa
  rw [hz] at row
  rw [← row]
  have lo := (S.ord (W.lt _ wa)).len
  exists 5, rowD
  have q' : Rt st Q (seekD (seekB P R sl c (num z) (c - 0) 0)) st := .inl q
  refine for_inv (fun left r st' => ∃ (i : Nat) (x2 x3 : Option D), left = (enumDK 1 ((P.getD (num z) []).map D.int)).drop i ∧ i ≤ c ∧ r = [some (.ref n), some (.str z), x2, x3] ∧ st = st' ∧ Rt st Q (seekD (seekB P R sl c (num z) (c - i) i)) st') ?_ ?_ _ _ _ ⟨0, _, _, rfl, Nat.zero_le _, rfl, rfl, q'⟩
  · rintro d left r st' N hN ⟨i2, x2, x3, e, le, rfl, rfl, q⟩
    obtain ⟨li, rfl, rfl⟩ := enK_drop e
    have hi : i2 < c := by omega
    obtain ⟨ep, hp⟩ := S.pr_at (W.lt _ wa) hi
    have ex : (P.getD (num z) []).getD i2 0 = ((pr P (num z) i2 : Nat) : Int) := by rw [List.getD_eq_getElem?_getD, ep]; rfl
    rw [ex]
    rw [show c - i2 = (c - (i2 + 1)) + 1 by omega] at q
    unfold seekB at q
    obtain ⟨x, sx, gx, xa, xe, xw⟩ := ent_is L wds hp wa
    rw [gx] at q
    rw [hz] at xa
    exists 5
    refine ⟨rfl, ?_⟩
    try dsimp only
    rw [e_seq]
    exists 5, onIns_ref T.t, lk_entries, seq_ref te, ent_get sx
    by_cases c1 : x = ((num z : Nat) : Int)
    · refine iteT' (decide_eq_true (xa.mpr c1)) ?_
      rw [if_pos c1] at q
      exists 5
      exact q
    · refine iteF' (decide_eq_false fun y => c1 (xa.mp y)) ?_
      rw [if_neg c1] at q
      exists 5, onIns_ref T.t, lk_entries, seq_ref te, ent_get sx
      by_cases c2 : x = -1
      · refine iteT' (decide_eq_true (xe.mpr c2)) ?_
        rw [if_pos c2] at q
        first
          | exact q
          | (rw [if_pos trivial]; exact q)
      · refine iteF' (decide_eq_false fun y => c2 (xe.mp y)) ?_
        rw [if_neg c2] at q
        obtain ⟨wx, ex2⟩ := xw c2
        exists 5, onIns_ref T.t, lk_beats, lk_entries, seq_ref te, ent_get sx
        rw [ex2]
        refine ⟨trivial, far, tri, c, n, i, j, _, z, nm x.toNat, rfl, T.t, W.o, w, wx.1, hp, ?_⟩
        have eb := W.bt _ _ _ hp wa wx
        rw [hz] at eb
        rw [← eb]
        exists 5
        by_cases c3 : bt R (pr P (num z) i2) (num z) x.toNat = true
        · refine iteT' c3 ?_
          rw [if_pos c3] at q
          exact q
        · refine iteF' (by simpa using c3) ?_
          rw [if_neg c3] at q
          exact hN _ _ (.inl ⟨i2 + 1, _, _, rfl, by omega, rfl, rfl, q⟩)
  · rintro r st' ⟨i2, x2, x3, e, le, rfl, rfl, q⟩
    have := enK_end e
    rw [show c - i2 = 0 by omega] at q
    unfold seekB at q
    exists 5, onIns_ref T.t, lk_count
    exact q
def distD (P : List (List Int)) (sl : List Int) (h : List Nat) : List D := (srtN h).map fun a => .tup [.str (nm a), .int (rk P a (pos sl (a : Int)) : Nat)]
def g_dists (C : Addr) : DRs := fun ds st Q => ∃ (far tri : Bool) (c m n i j : Nat) (P : List (List Int)) (R : List (List (List Int))) (h : List Nat) (kvs : List (Key × D)), ds = [.ref n] ∧ Tab C far tri c m n i j P R h kvs st ∧ h.length < 64 ∧ Q (.tup (distD P (layF P R h) h)) st
theorem ar_dists (ds : List D) (st : DSt) (Q : DK) (h : g_dists C ds st Q) : ds.length = 1 := by
  obtain ⟨far, tri, c, m, n, i, j, P, R, h, kvs, rfl, _⟩ := h
  rfl
theorem slot_at {sl : List Int} {a : Nat} (L : Lay m c sl) (ws : Wds sl) (ha : ∃ s, At sl s a) : At sl (pos sl (a : Int)) a ∧ pos sl (a : Int) < c ∧ ixOfS (nm a) (sl.map entS) = some (pos sl (a : Int)) := by
  obtain ⟨s, hs⟩ := ha
  have mm : (a : Int) ∈ sl := List.mem_of_getElem? hs
  have e := (pos_at mm).1
  have l := (List.getElem?_eq_some_iff.mp e).1
  have e' : At sl (pos sl (a : Int)) a := e
  have wa := ws _ _ e'
  refine ⟨e', by rw [← L.len]; exact l, ixOfS_at (by rw [List.getElem?_map, e]; exact congrArg some (entS_at a)) fun t lt w => ?_⟩
  rw [List.getElem?_map] at w
  obtain ⟨x, hx, ex⟩ := Option.map_eq_some_iff.mp w
  have ht : t < c := by rw [← L.len]; exact (List.getElem?_eq_some_iff.mp hx).1
  obtain ⟨y, hy, _, ya, _, _⟩ := ent_is L ws ht wa
  rw [hx] at hy
  cases hy
  have xa := ya.mp ex
  subst xa
  have := L.inj _ _ _ hx e'
  omega
theorem ent_strs (sl : List Int) : strsD (entD sl) = some (sl.map entS) := by
  have z := strsD_strs (sl.map entS)
  rw [List.map_map] at z
  rw [entD_eq]
  exact z
set_option maxHeartbeats 2000000 in
theorem sem_dists (ds : List D) (st : DSt) (Q : DK) (h : g_dists C ds st Q) : F_Table_distances C (g_names C) (g_dist C) { nx := fun _ st' => Rt st Q .non st', rt := Rt st Q } (startD 2 ds) st := by
  obtain ⟨far, tri, c, m, n, i, j, P, R, h, kvs, rfl, T, l, q⟩ := h
  have st2 : startD 2 [D.ref n] = [some (.ref n), none] := rfl
  have big : (100000 : Nat) ≤ sizeLine := by decide
  have W := T.W
  have S := W.S
  have L := (layF_good S T.hh).1.lay
  have LK := (layF_good S T.hh).2
  have wds := lay_wds W T.hh T.wd
  simp only [F_Table_distances, st2]
  exists 5, onIns_ref T.t, lk_names
  refine ⟨trivial, far, tri, c, n, i, j, h, kvs, rfl, T.t, T.tc, T.ks, T.wd, l, ?_⟩
  have ln : (namesD h).length = h.length := by unfold namesD; rw [List.length_map, (srtN_perm h).length_eq]
  exists 5
  refine ⟨by omega, ?_⟩
  unfold namesD
  refine compL_gen (fun a : Nat => D.str (nm a)) (fun a => .tup [.str (nm a), .int (rk P a (pos (layF P R h) (a : Int)) : Nat)]) (srtN h) [] (fun a ha Q' k => ?_) ?_
  · have hm := (srtN_perm h).mem_iff.mp ha
    have wa := T.wd a hm
    obtain ⟨sa, sc, si⟩ := slot_at L wds ((LK a).mpr hm)
    refine k _ fun Q2 q2 => ?_
    exists 5, onIns_ref T.t, lk_distance, lk_entries
    have el : lstS st (.ref j) = some (entD (layF P R h)) := by unfold lstS; simp only [T.te]
    rw [el, e_onO, ent_strs, e_onO, si, e_onO]
    refine ⟨trivial, by unfold LstD; simp only [T.te], far, tri, c, n, i, j, _, nm a, rfl, T.t, W.o, wa.1, sc, ?_⟩
    rw [W.rk wa]
    exact q2
  · exact .inl q
end
end DL
namespace DL
open PySem PySem.Spec PyProof.Rows L2 LamX PySem.W SL
theorem sem_takeA (ds : List D) (st : DSt) (Q : DK) (h : g_take ds st Q) : F__law_take_v3 { nx := fun _ st' => Rt st Q .non st', rt := Rt st Q } (startD 5 ds) st := by
  obtain ⟨p, z, n, rfl, ⟨o, e, g, m, c, rfl, g0, g1, m0, m1, c0, c1⟩, z0, z1, q⟩ := h
  have lt : p < st.length := (List.getElem?_eq_some_iff.mp e).1
  have sq := seq_ref e
  have st5 : startD 5 [D.ref p, D.int z] = [some (.ref p), some (.int z), none, none, none] := rfl
  by_cases gp : 0 < g
  · simp [F__law_take_v3, st5, sq, gp, setS_ref e, ixN, CDiv, z0]
    refine ⟨by omega, .inl (q _ _ (Int.emod_nonneg _ (by omega)) (Int.emod_lt_of_pos _ z0) ⟨_, _, _, rfl, Int.ediv_nonneg g0 (by omega), ?_, m0, m1, c0, by omega⟩)⟩
    exact Int.lt_of_le_of_lt (Int.ediv_le_self z g0) g1
  · have e2 : (st.set p (.lst [.int g, .int m, .int (c + 1)]))[p]? = some (.lst [.int g, .int m, .int (c + 1)]) := List.getElem?_set_self lt
    have sq2 := seq_ref e2
    simp [F__law_take_v3, st5, sq, gp, setS_ref e, ixN, sq2]
    have r0 : 0 ≤ (c + 1) % 5 := Int.emod_nonneg _ (by decide)
    have r1 : (c + 1) % 5 < 5 := Int.emod_lt_of_pos _ (by decide)
    obtain ⟨pr, hpr, p0, p1⟩ : ∃ pr : Int, atI [D.int 2147483647, .int 2147483629, .int 2147483587, .int 2147483579, .int 2147483563] ((c + 1) % 5) = some (.int pr) ∧ 0 < pr ∧ pr ≤ 2147483647 := by
      have cs : (c + 1) % 5 = 0 ∨ (c + 1) % 5 = 1 ∨ (c + 1) % 5 = 2 ∨ (c + 1) % 5 = 3 ∨ (c + 1) % 5 = 4 := by omega
      rcases cs with e | e | e | e | e <;> rw [e]
      · exact ⟨2147483647, atI_nat (j := 0) rfl, by decide, by decide⟩
      · exact ⟨2147483629, atI_nat (j := 1) rfl, by decide, by decide⟩
      · exact ⟨2147483587, atI_nat (j := 2) rfl, by decide, by decide⟩
      · exact ⟨2147483579, atI_nat (j := 3) rfl, by decide, by decide⟩
      · exact ⟨2147483563, atI_nat (j := 4) rfl, by decide, by decide⟩
    rw [hpr]
    have b1 : 65537 * (c + 1) ≤ 65537 * 1000000 := by omega
    have b2 : 0 ≤ 65537 * (c + 1) := by omega
    have b3 : 0 ≤ 65537 * (c + 1) * (c + 1) := Int.mul_nonneg b2 (by omega)
    have b4 : 65537 * (c + 1) * (c + 1) ≤ (65537 * 1000000) * 1000000 := Int.mul_le_mul b1 (by omega) (by omega) (by decide)
    have ib : Builtin.Int.intBits (m + 65537 * (c + 1) * (c + 1) + 29) ≤ 64 := intBits_le_64 (by omega) (by omega)
    simp only [e_onO, e_onI]
    refine ⟨.inl ⟨by decide, by decide⟩, .inl ⟨by omega, by omega⟩, by omega, p0, .inl ⟨by decide, by decide⟩, ?_⟩
    generalize (m + 65537 * (c + 1) * (c + 1) + 29) ^ 3 = y
    have y0 : 0 ≤ y % pr := Int.emod_nonneg _ (by omega)
    have y1 : y % pr < pr := Int.emod_lt_of_pos _ p0
    refine ⟨.inl ⟨by omega, by omega⟩, ⟨by decide, by decide⟩, z0, .inl (q _ _ (Int.emod_nonneg _ (by omega)) (Int.emod_lt_of_pos _ z0) ⟨_, _, _, rfl, g0, g1, m0, m1, by omega, by omega⟩)⟩
theorem sem_potA (ds : List D) (st : DSt) (Q : DK) (h : g_pot ds st Q) : F__law_pot_of { nx := fun _ st' => Rt st Q .non st', rt := Rt st Q } (startD 4 ds) st := by
  obtain ⟨ns, x, k, rfl, hx, k3, q⟩ := h
  have sq := hx.seq
  have st4 : startD 4 [x, D.int (k : Nat)] = [some x, some (.int k), none, none] := rfl
  have big : (100000 : Nat) ≤ sizeLine := by decide
  have fin : ∀ (v g : Int), 0 ≤ g → g < 10 ^ 400 → CMul (v % 2305843009213693951) 48271 ∧ CMul 7919 (k : Int) ∧ CMul (7919 * (k : Int)) k ∧ Rt st Q (.ref st.length) (st ++ [.lst [.int g, .int ((v % 2305843009213693951 * 48271 + 7919 * (k : Int) * (k : Int) + 13) % 2305843009213693921), .int 0]]) := fun v g g0 g1 => by
    have a0 : 0 ≤ v % 2305843009213693951 := Int.emod_nonneg _ (by decide)
    have a1 : v % 2305843009213693951 < 2305843009213693951 := Int.emod_lt_of_pos _ (by decide)
    refine ⟨.inl ⟨by omega, by omega⟩, .inl ⟨by decide, by decide⟩, .inl ⟨by omega, by omega⟩, .inl (q _ ⟨g, _, 0, rfl, g0, g1, Int.emod_nonneg _ (by decide), Int.lt_trans (Int.emod_lt_of_pos _ (by decide)) (by decide), by decide, by decide⟩)⟩
  have rest : ∀ v : Int, F__law_pot_of { nx := fun _ st' => Rt st Q .non st', rt := Rt st Q } (startD 4 [x, D.int (k : Nat)]) st ∨ True := fun _ => .inr trivial
  have key : ∀ v : Int, (sSeq (sSet 3 (dOp dMul (dOp dMod (dCB dAbs (daCons (dVar 2) daNil)) (dOp dPow (dOp dPow (dC (.int 10)) (dC (.int 60))) (dC (.int 5)))) (dCB dInt (daCons (dOp dGe (dCB dAbs (daCons (dVar 2) daNil)) (dOp dPow (dC (.int 10)) (dC (.int 18)))) daNil)))) (sRet (dLstN (daCons (dVar 3) (daCons (dOp dMod (dOp dAdd (dOp dAdd (dOp dMul (dOp dMod (dVar 2) (dC (.int 2305843009213693951))) (dC (.int 48271))) (dOp dMul (dOp dMul (dC (.int 7919)) (dVar 1)) (dVar 1))) (dC (.int 13))) (dC (.int 2305843009213693921))) (daCons (dC (.int 0)) daNil)))))) { nx := fun _ st' => Rt st Q .non st', rt := Rt st Q } [some x, some (.int k), some (.int v), none] st := fun v => by
    rw [e_seq]
    simp only [e_var, e_C, e_op, e_neg, e_isN, e_notN, e_and, e_or, e_not, e_test, e_tAnd, e_tOr, e_tNot, e_tYes, e_if, e_aNil, e_aCons, e_tup, e_lst, e_lstN, e_len0, e_len1, e_len2, e_len3, e_len4, e_len5, e_cb, e_on1, e_on2, e_onI, e_onB, e_onO, e_onO0, e_onOO, e_I0, e_I, e_add, e_addT, e_addS, e_addL, e_addLR, e_addRL, e_addRR, e_mul, e_mulL, e_mulT, e_rev, e_revT, e_ix, e_eqI, e_eqS, e_eqB, e_neI, e_neS, e_neB, e_ltI, e_chain, e_len, e_abs, e_2I, e_tuple1, e_tuple2, e_tuple3, e_listT, e_listN, e_allR, e_seqT, e_seqK, e_seqL, e_isi, e_isB, e_notB, e_truth, e_next, e_drop, e_ret, e_retN, e_ifS, e_set, e_asg, e_par, e_nm, e_gsN, e_gsC, e_gTpK, e_gTpL, e_sum, e_maxL, e_minL, e_maxDef, e_int, e_intB, e_aug, e_on3, e_par3, e_newK, e_getK, e_keyI, e_keyS, e_inK, e_ninK, e_putK, e_lenK, e_lstS, e_seqX, e_gTpT, e_oN, e_oS, e_sl, e_slT, e_slL, e_finT, e_finN, e_index, e_idxT, e_idxL, e_mIx, e_ixST, e_ixSL, e_mtL, e_w, e_w1, e_w2, e_wE, e_wZ, e_itK, e_itT, e_itL, e_itT2, e_itL2, e_lc, e_for, e_wipe0, e_wipe, e_okI, e_okR, e_gSb, List.getElem?_cons_zero, List.getElem?_cons_succ, List.set_cons_zero, List.set_cons_succ]
    generalize (if v < 0 then -v else v) = w
    have p5 : (0 : Int) < (10 ^ (60 : Int).toNat) ^ (5 : Int).toNat := by decide +kernel
    have r0 : 0 ≤ w % (10 ^ (60 : Int).toNat) ^ (5 : Int).toNat := Int.emod_nonneg _ (by omega)
    have r1 : w % (10 ^ (60 : Int).toNat) ^ (5 : Int).toNat < 10 ^ 400 := Int.lt_of_lt_of_le (Int.emod_lt_of_pos _ p5) (by decide +kernel)
    refine ⟨⟨by decide, by decide +kernel⟩, ⟨by decide, by decide +kernel⟩, p5, ⟨by decide, by decide +kernel⟩, ?_⟩
    generalize w % (10 ^ (60 : Int).toNat) ^ (5 : Int).toNat = u at r0 r1
    generalize decide ((10 : Int) ^ (18 : Int).toNat ≤ w) = b
    cases b with
    | true =>
      refine ⟨.inr ⟨by decide, by decide⟩, ?_⟩
      obtain ⟨f1, f2, f3, f4⟩ := fin v (u * 1) (by omega) (by omega)
      exact ⟨by decide, f1, f2, f3, by decide, f4⟩
    | false =>
      refine ⟨.inr ⟨by decide, by decide⟩, ?_⟩
      obtain ⟨f1, f2, f3, f4⟩ := fin v (u * 0) (by omega) (by rw [Int.mul_zero]; decide +kernel)
      exact ⟨by decide, f1, f2, f3, by decide, f4⟩
  simp only [F__law_pot_of, st4]
  try dsimp only
  rw [e_seq]
  try simp only [e_var, e_C, e_op, e_neg, e_isN, e_notN, e_and, e_or, e_not, e_test, e_tAnd, e_tOr, e_tNot, e_tYes, e_if, e_aNil, e_aCons, e_tup, e_lst, e_lstN, e_len0, e_len1, e_len2, e_len3, e_len4, e_len5, e_cb, e_on1, e_on2, e_onI, e_onB, e_onO, e_onO0, e_onOO, e_I0, e_I, e_add, e_addT, e_addS, e_addL, e_addLR, e_addRL, e_addRR, e_mul, e_mulL, e_mulT, e_rev, e_revT, e_ix, e_eqI, e_eqS, e_eqB, e_neI, e_neS, e_neB, e_ltI, e_chain, e_len, e_abs, e_2I, e_tuple1, e_tuple2, e_tuple3, e_listT, e_listN, e_allR, e_seqT, e_seqK, e_seqL, e_isi, e_isB, e_notB, e_truth, e_next, e_drop, e_ret, e_retN, e_ifS, e_set, e_asg, e_par, e_nm, e_gsN, e_gsC, e_gTpK, e_gTpL, e_sum, e_maxL, e_minL, e_maxDef, e_int, e_intB, e_aug, e_on3, e_par3, e_newK, e_getK, e_keyI, e_keyS, e_inK, e_ninK, e_putK, e_lenK, e_lstS, e_seqX, e_gTpT, e_oN, e_oS, e_sl, e_slT, e_slL, e_finT, e_finN, e_index, e_idxT, e_idxL, e_mIx, e_ixST, e_ixSL, e_mtL, e_w, e_w1, e_w2, e_wE, e_wZ, e_itK, e_itT, e_itL, e_itT2, e_itL2, e_lc, e_for, e_wipe0, e_wipe, e_okI, e_okR, e_gSb, List.getElem?_cons_zero, List.getElem?_cons_succ, List.set_cons_zero, List.set_cons_succ, sq, List.length_map]
  by_cases lt : k < ns.length
  · have ha : atI (ns.map D.int) (k : Int) = some (.int ns[k]) := atI_nat (by rw [List.getElem?_map, List.getElem?_eq_getElem lt]; rfl)
    refine iteT' (decide_eq_true (by omega)) ?_
    rw [ha]
    exact key _
  · refine iteF' (decide_eq_false (by omega)) ⟨.inl ⟨by decide, by decide⟩, ?_⟩
    exact key _
end DL
--ELX
--ELO
namespace DL
open PySem PySem.Spec PyProof.Rows L2 LamX PySem.W SL
def OfX (x : D) (xs : List D) : Prop := x = .lst xs ∨ ∃ z, x = .str z ∧ z.length ≤ 1000 ∧ xs = sgnsD z
def g_ofX : DRs := fun ds st Q => ∃ (p : Nat) (x : D) (xs : List D) (n : Nat), ds = [.ref p, x] ∧ OfX x xs ∧ xs ≠ [] ∧ xs.length ≤ 1000 ∧ Pot (n + 1) p st ∧ ∀ (d : D) (o : O), d ∈ xs → PotO n o → Q d (st.set p o)
theorem ar_ofX (ds : List D) (st : DSt) (Q : DK) (h : g_ofX ds st Q) : ds.length = 2 := by
  obtain ⟨p, x, xs, n, rfl, _⟩ := h
  rfl
theorem sem_ofX (ds : List D) (st : DSt) (Q : DK) (h : g_ofX ds st Q) : F__law_of_v2 g_take { nx := fun _ st' => Rt st Q .non st', rt := Rt st Q } (startD 2 ds) st := by
  obtain ⟨p, x, xs, n, rfl, ox, ne, l, pot, q⟩ := h
  have st2 : startD 2 [D.ref p, x] = [some (.ref p), some x] := rfl
  have big : (100000 : Nat) ≤ sizeLine := by decide
  have l0 : 0 < xs.length := List.length_pos_iff.mpr ne
  simp only [F__law_of_v2, st2]
  rcases ox with rfl | ⟨z, rfl, lz, rfl⟩
  · exists 5
    refine ⟨p, _, n, rfl, pot, by omega, by omega, fun r o r0 r1 po => ?_⟩
    have lt : r.toNat < xs.length := by omega
    have ha : atI xs r = some xs[r.toNat] := by
      have z := atI_nat (xs := xs) (j := r.toNat) (v := xs[r.toNat]) (List.getElem?_eq_getElem lt)
      rw [Int.toNat_of_nonneg r0] at z
      exact z
    exists 5, ha
    exact .inl (q _ o (List.getElem_mem lt) po)
  · exists 5
    have ls : (sgnsD z).length = z.length := by rw [sgns_len, sg_len]
    refine ⟨by omega, p, _, n, rfl, pot, by omega, by omega, fun r o r0 r1 po => ?_⟩
    have lt : r.toNat < (sg z).length := by rw [← sg_len]; omega
    have ha : atI (sg z) r = some (sg z)[r.toNat] := by
      have z := atI_nat (xs := sg z) (j := r.toNat) (v := (sg z)[r.toNat]) (List.getElem?_eq_getElem lt)
      rw [Int.toNat_of_nonneg r0] at z
      exact z
    exists 5
    refine ⟨by omega, ?_⟩
    rw [show z.cps.toList = sg z from rfl, ha, e_onO]
    exact .inl (q _ o (List.mem_map.mpr ⟨_, List.getElem_mem lt, rfl⟩) po)
end DL
--ELX
--ELO
namespace DL
open PySem PySem.Spec PyProof.Rows L2 LamX PySem.W SL
def kindD (far tri : Bool) : D := .tup [.str (wayS tri), .str (ruleS far)]
theorem Pot.set2 {n k p : Nat} {st : DSt} {o : O} (h : Pot n p st) (po : PotO k o) : Pot k p (st.set p o) := by
  obtain ⟨o0, e, _⟩ := h
  exact ⟨o, List.getElem?_set_self (List.getElem?_eq_some_iff.mp e).1, po⟩
def g_kindD : DRs := fun ds st Q => ∃ (p n : Nat), ds = [.ref p] ∧ Pot (n + 2) p st ∧ ∀ (far tri : Bool) (o : O), PotO n o → Q (kindD far tri) (st.set p o)
theorem ar_kindD (ds : List D) (st : DSt) (Q : DK) (h : g_kindD ds st Q) : ds.length = 1 := by
  obtain ⟨p, n, rfl, _⟩ := h
  rfl
theorem sem_kindD (ds : List D) (st : DSt) (Q : DK) (h : g_kindD ds st Q) : F__law_drawn_kind g_ofX { nx := fun _ st' => Rt st Q .non st', rt := Rt st Q } (startD 1 ds) st := by
  obtain ⟨p, n, rfl, pot, q⟩ := h
  have st1 : startD 1 [D.ref p] = [some (.ref p)] := rfl
  simp only [F__law_drawn_kind, st1]
  exists 5
  refine ⟨p, _, [.str "linear", .str "triangular"], n + 1, rfl, .inl rfl, by simp, by simp, pot, fun d o hd po => ?_⟩
  obtain ⟨tri, rfl⟩ : ∃ tri, d = .str (wayS tri) := by
    rcases List.mem_cons.mp hd with e | e
    · exact ⟨false, e⟩
    · exact ⟨true, List.mem_singleton.mp e⟩
  exists 5
  refine ⟨p, _, [.str "names", .str "farther"], n, rfl, .inl rfl, by simp, by simp, pot.set2 po, fun d o2 hd po2 => ?_⟩
  obtain ⟨far, rfl⟩ : ∃ far, d = .str (ruleS far) := by
    rcases List.mem_cons.mp hd with e | e
    · exact ⟨false, e⟩
    · exact ⟨true, List.mem_singleton.mp e⟩
  exists 5
  rw [List.set_set]
  exact .inl (q far tri o2 po2)
theorem join_fold : ∀ (l : List Nat) (acc : Array Nat), ((l.map fun c => (⟨#[c]⟩ : Str)).foldl (fun acc p => acc ++ ("" : Str).cps ++ p.cps) acc).toList = acc.toList ++ l
  | [], acc => by simp
  | c :: r, acc => by
    rw [List.map_cons, List.foldl_cons, join_fold r]
    have e : ("" : Str).cps = #[] := rfl
    rw [e]
    simp
theorem sg_join (l : List Nat) : sg (Txt.join "" (l.map fun c => (⟨#[c]⟩ : Str))) = l := by
  show ((((l.map fun c => (⟨#[c]⟩ : Str)).drop 1).foldl (fun acc p => acc ++ ("" : Str).cps ++ p.cps) ((l.map fun c => (⟨#[c]⟩ : Str)).headD Str.empty).cps)).toList = l
  cases l with
  | nil => rfl
  | cons c r =>
    rw [List.map_cons, List.drop_one, List.tail_cons]
    show ((r.map fun c => (⟨#[c]⟩ : Str)).foldl _ #[c]).toList = _
    rw [join_fold]
    rfl
end DL
--ELX
--ELO
namespace DL
open PySem PySem.Spec PyProof.Rows L2 LamX PySem.W SL
section
variable {far tri : Bool} {c m : Nat} {P : List (List Int)} {R : List (List (List Int))}
theorem NmS.get (W : NmS far tri c m P R) {a i : Nat} (ha : Wd a) (hi : i < c) : (prw tri c (nm a)).getD i 0 = ((pr P a i : Nat) : Int) := by
  have z := (W.S.pr_at (W.lt a ha) hi).1
  rw [W.row a ha] at z
  rw [List.getD_eq_getElem?_getD, z]
  rfl
end
def namesL (ks : List Nat) : List D := ks.map fun a => .str (nm a)
end DL
--ELX
--ELO
namespace DL
open PySem PySem.Spec PyProof.Rows L2 LamX PySem.W SL
theorem sm_name {z : Str} (w : Word 0 z) : Sm 0 82 (.str z) := by
  refine ⟨.str z, by simp [pdT], ⟨by simp [PyData.showable], by simp [PyData.depth], ?_, ?_⟩⟩
  · rw [PyData.shown_str]
    have z1 := StrLaws.reprText_len z fun c hc => by have := w.ch c hc; have : (16 : Nat) ^ 8 = 4294967296 := (by decide); omega
    have := w.hi
    rw [sg_len z] at z1
    omega
  · simp only [PyData.canLay0]
    unfold PyData.strOk
    rw [← Array.all_toList, List.all_eq_true]
    intro c hc
    have := w.ch c hc
    exact decide_eq_true (by omega)
theorem word0 : Word 0 "" := ⟨by decide, by decide, fun c hc => by cases hc⟩
theorem sm_ent {sl : List Int} (ws : ∀ x ∈ sl, x = -1 ∨ Wd x.toNat) (l : sl.length ≤ 64) : Sm 1 (64 * 84 + 3) (.tup (entD sl)) := by
  refine sm_tup (k := 0) (c := 82) (fun d hd => ?_) (by rw [ent_len]; exact l)
  rw [entD_eq] at hd
  obtain ⟨x, hx, rfl⟩ := List.mem_map.mp hd
  unfold entS
  split
  · exact sm_name word0
  · rename_i q
    rcases ws x hx with e | e
    · rw [e] at q; exact absurd (by decide) q
    · exact sm_name (e.1.mono (by decide))
theorem lay_ent {far tri : Bool} {c m : Nat} {P : List (List Int)} {R : List (List (List Int))} {h : List Nat} (W : NmS far tri c m P R) (hh : Hist m c h) (wd : ∀ a ∈ h, Wd a) : Sm 1 (64 * 84 + 3) (.tup (entD (layF P R h))) := by
  have L := (layF_good W.S hh).1.lay
  have ws := lay_wds W hh wd
  refine sm_ent (fun x hx => ?_) (by rw [L.len]; exact W.o.l)
  obtain ⟨s, hs, e⟩ := List.getElem_of_mem hx
  rcases L.either (s := s) (by rw [← L.len]; exact hs) with q | ⟨k, tk⟩
  · rw [List.getElem?_eq_getElem hs, e] at q
    exact .inl (Option.some.inj q)
  · have w := ws _ _ tk
    unfold At at tk
    rw [List.getElem?_eq_getElem hs, e] at tk
    rw [Option.some.inj tk, Int.toNat_natCast]
    exact .inr w
theorem sm_dist {far tri : Bool} {c m : Nat} {P : List (List Int)} {R : List (List (List Int))} {h : List Nat} (W : NmS far tri c m P R) (hh : Hist m c h) (wd : ∀ a ∈ h, Wd a) : Sm 2 (64 * (2 * 84 + 3 + 2) + 3) (.tup (distD P (layF P R h) h)) := by
  have L := (layF_good W.S hh).1.lay
  have K := (layF_good W.S hh).2
  have ws := lay_wds W hh wd
  have c64 := W.o.l
  refine sm_tup (k := 1) (c := 2 * 84 + 3) (fun d hd => ?_) ?_
  · obtain ⟨a, ha, rfl⟩ := List.mem_map.mp hd
    have hm := (srtN_perm h).mem_iff.mp ha
    have wa := wd a hm
    obtain ⟨_, sc, _⟩ := slot_at L ws ((K a).mpr hm)
    have r := (W.S.rk_at (W.lt a wa) sc).2.1
    refine sm_tup (k := 0) (c := 82) (fun d hd => ?_) (by simp)
    rcases List.mem_cons.mp hd with e | e
    · rw [e]; exact sm_name (wa.1.mono (by decide))
    · rw [List.mem_singleton.mp e]
      obtain ⟨p, e1, e2⟩ := sm_int (i := ((rk P a (pos (layF P R h) (a : Int)) : Nat) : Int)) (by omega) (by omega)
      exact ⟨p, e1, e2.mono (Nat.le_refl _) (by decide)⟩
  · unfold distD
    rw [List.length_map, (srtN_perm h).length_eq]
    exact Nat.le_trans hh.few c64
theorem seek_rng {m c : Nat} {P : List (List Int)} {R : List (List (List Int))} {sl : List Int} (S : Setg m c P R) {a : Nat} (ha : a < m) : ∀ f i, i + f = c → -1 ≤ (seekB P R sl c a f i).1 ∧ (seekB P R sl c a f i).1 ≤ c ∧ (seekB P R sl c a f i).2 ≤ c + 1
  | 0, i, e => by unfold seekB; exact ⟨show (-1 : Int) ≤ -1 by decide, show (-1 : Int) ≤ c by omega, show c ≤ c + 1 by omega⟩
  | f + 1, i, e => by
    have hp := (S.pr_at ha (i := i) (by omega)).2
    unfold seekB
    split
    · exact ⟨by show -1 ≤ ((pr P a i : Nat) : Int); omega, by show ((pr P a i : Nat) : Int) ≤ c; omega, by show i + 1 ≤ c + 1; omega⟩
    · split
      · exact ⟨show (-1 : Int) ≤ -1 by decide, by show (-1 : Int) ≤ c; omega, by show i + 1 ≤ c + 1; omega⟩
      · split
        · exact ⟨show (-1 : Int) ≤ -1 by decide, by show (-1 : Int) ≤ c; omega, by show i + 1 ≤ c + 1; omega⟩
        · exact seek_rng S ha f (i + 1) (by omega)
theorem sm_seek {m c : Nat} {P : List (List Int)} {R : List (List (List Int))} {sl : List Int} (S : Setg m c P R) (c64 : c ≤ 64) {a : Nat} (ha : a < m) : Sm 1 (2 * 22 + 3) (seekD (seekB P R sl c a c 0)) := by
  obtain ⟨r1, r2, r3⟩ := seek_rng (sl := sl) (R := R) S ha c 0 (by omega)
  refine sm_tup (k := 0) (c := 20) (fun d hd => ?_) (by simp)
  rcases List.mem_cons.mp hd with e | e
  · rw [e]; exact sm_int (by omega) (by omega)
  · rw [List.mem_singleton.mp e]; exact sm_int (by omega) (by omega)
theorem st_get {st : DSt} {p : Nat} {o : O} {l : List O} (k : Nat) : (st.set p o ++ l)[st.length + k]? = l[k]? := by
  rw [List.getElem?_append_right (by rw [List.length_set]; omega), List.length_set]
  congr 1
  omega
theorem st_set {st : DSt} {p : Nat} {o x : O} {l : List O} (k : Nat) : (st.set p o ++ l).set (st.length + k) x = st.set p o ++ l.set k x := by
  rw [List.set_append_right _ _ (by rw [List.length_set]; omega), List.length_set]
  congr 2
  omega
end DL
--ELX
--ELO
namespace DL
open PySem PySem.Spec PyProof.Rows L2 LamX PySem.W SL
section
variable {C : Addr}
theorem addN_len {h : List Nat} {a : Nat} : (addN h a).length ≤ h.length + 1 := by
  unfold addN
  split
  · omega
  · rw [List.length_append]; exact Nat.le_refl _
theorem lay_srt {far tri : Bool} {c m : Nat} {P : List (List Int)} {R : List (List (List Int))} {h : List Nat} (W : NmS far tri c m P R) (hh : Hist m c h) : Hist m c (srtN h) ∧ layF P R (srtN h) = layF P R h := by
  have pm := srtN_perm h
  have H2 : Hist m c (srtN h) := ⟨pm.nodup_iff.mpr hh.nd, fun k hk => hh.lt k (pm.mem_iff.mp hk), by rw [pm.length_eq]; exact hh.few⟩
  exact ⟨H2, layF_any W.S W.T H2 hh fun k => pm.mem_iff⟩
end
end DL
--ELX
--ELO
namespace DL
open PySem PySem.Spec PyProof.Rows L2 LamX PySem.W SL
section
variable {C : Addr}
end
end DL
namespace SL
open PySem PySem.Spec PyProof.Rows L2 PySem.W
section
variable {X : Cx}
def lkT (l : List (Key × Str)) (k : Key) : Option Str := (l.find? fun p => decide (p.1 = k)).map (·.2)
def eqT (la lb : List (Key × Str)) : Bool := la.length == lb.length && la.all fun p => decide (lkT lb p.1 = some p.2)
def mapS (l : List (Key × Str)) : List (Key × V) := l.map fun p => (p.1, V.str p.2)
theorem valV_mapS (l : List (Key × Str)) (k : Key) : valV (mapS l) k = (lkT l k).map V.str := by
  unfold valV lkT mapS
  rw [List.find?_map]
  simp only [Function.comp_def, Option.map_map]
theorem hits_T {A : Around} {s : Shared} {lb : List (Key × Str)} {vb : List (Key × Value)} (rb : KV (mapS lb) vb) : ∀ {la : List (Key × Str)} {va : List (Key × Value)}, KV (mapS la) va → KeqHits A s vb va (la.all fun p => decide (lkT lb p.1 = some p.2))
  | [], [], _ => .nil
  | [], _ :: _, h => by cases h
  | p :: la, va, h => by
    cases h with
    | @cons _ q _ va h1 h2 =>
      obtain ⟨k, v⟩ := q
      obtain ⟨e1, rv⟩ := h1
      have e1 : p.1 = k := e1
      subst e1
      obtain ⟨t, rfl⟩ : ∃ t, v = .str p.2 t := rv
      have ih := hits_T (A := A) (s := s) rb h2
      have z := rb.val p.1
      rw [valV_mapS] at z
      rw [List.all_cons]
      cases e : lkT lb p.1 with
      | none =>
        rw [e] at z
        have e2 : decide ((none : Option Str) = some p.2) = false := decide_eq_false (fun x => by cases x)
        rw [e2, Bool.false_and]
        exact .miss (RelO.none_of z)
      | some y =>
        rw [e] at z
        obtain ⟨w', hw, rw'⟩ := RelO.some_of (v := V.str y) z
        obtain ⟨u, rfl⟩ : ∃ u, w' = .str y u := rw'
        have q := KeqHits.hit (A := A) (s := s) hw (SeqAt.EqAt.str_str p.2 t y u) ih
        have e2 : decide (some y = some p.2) = (p.2 == y) := by
          by_cases c : p.2 = y
          · subst c; simp
          · have c2 : ¬ y = p.2 := fun x => c x.symm
            simp [c, c2]
        rw [e2]
        exact q
def rEqT (neg : Bool) : R2 := fun x y H Q => ∃ a b la lb, x = .ref a ∧ y = .ref b ∧ Rd H a (.dK (mapS la)) ∧ Rd H b (.dK (mapS lb)) ∧ Q (.bl (if neg then !eqT la lb else eqT la lb)) H
theorem op_eqT {neg : Bool} (hu : X.A.units < cLine) : OpR X (compareOp (if neg then .NotEq else .Eq)) (rEqT neg) := by
  intro pins s σ H x y v u Q I rx ry h
  obtain ⟨a, b, la, lb, rfl, rfl, ea, eb, q⟩ := h
  cases rx
  cases ry
  obtain ⟨_, ha, va, ra, da⟩ := dk_rd I.hok ea
  obtain ⟨_, hb, vb, rb, db⟩ := dk_rd I.hok eb
  have l1 : va.length = la.length := by rw [← ra.length]; unfold mapS; rw [List.length_map]
  have l2 : vb.length = lb.length := by rw [← rb.length]; unfold mapS; rw [List.length_map]
  have ee : (va.length == vb.length && la.all fun p => decide (lkT lb p.1 = some p.2)) = eqT la lb := by rw [l1, l2]; rfl
  cases neg with
  | true =>
    refine keq_ne ha hb da db hu (fun _ => hits_T rb ra) ?_
    rw [ee]
    exact ⟨.bl _, H, I, rfl, q⟩
  | false =>
    refine keq_eq ha hb da db hu (fun _ => hits_T rb ra) ?_
    rw [ee]
    exact ⟨.bl _, H, I, rfl, q⟩
end
theorem op_eqT0 {X : Cx} (hu : X.A.units < cLine) : OpR X (compareOp .Eq) (rEqT false) := op_eqT (neg := false) hu
section
variable {X : Cx} {k : Nat} {f C : Addr} {fd : FuncData} {ps : List Str} {sp : Sp}
theorem run_fnG1 {pins : List (Addr × Obj)} {σ : L2.St} {H : Hp} {s : Shared} {Q : VK} {us : List Value} {vs : List V} (F : FnG X.prog X.w X.K X.mg X.base k f fd ps sp) (gd : X.A.guards = some []) (room : Room (k + 1) X.A) (bd : Binds X.K fd ps [])
    (I : Inv X pins σ H s) (r : Vals vs us) (h : sp vs H Q E0) : wpAny (model X.prog X.w) X.A.in1 (call (.ref f) us) (EP X pins σ Q) X.xe s := by
  have long : us.length = ps.length := by rw [← r.length]; exact F.size _ _ _ _ h
  have bd' := bd s us I.kIn (by rw [List.append_nil]; exact long)
  rw [List.append_nil] at bd'
  have e := I.env0
  have e1 : Env0 X.prog X.w X.K X.mg X.base X.A.in1 X.stack s H := ⟨e.frames, e.mod, e.bs, e.bsz, e.funs, e.frf, e.hok, e.bare⟩
  refine wpAny_call (codeAny_mono (F.go X.A.in1 X.stack s H ⟨us, []⟩ us vs Q E0 gd room.in1 e1 bd' r h) fun r s' here => ?_)
  cases r with
  | error _ => exact False.elim here
  | ok fl => cases fl with
    | ret _ => exact I.after here
    | next => exact False.elim here
    | brk => exact False.elim here
    | cont => exact False.elim here
def rLenO (C : Addr) (sp : Sp) : List V → Hp → VK → Prop := fun xs H Q => ∃ a dx fs, xs = [.ref a] ∧ H a = some (.ins C dx fs) ∧ sp [.ref a] H (fun v H' => ∃ n : Int, v = .int n ∧ 0 ≤ n ∧ n < 2 ^ 63 ∧ Q (.int n) H') E0
theorem call_lenO (hm : Meth X.K C "__len__" f) (F : FnG X.prog X.w X.K X.mg X.base k f fd ps sp) (gd : X.A.guards = some []) (room : Room (k + 1) X.A) (bd : Binds X.K fd ps []) : CallR X (.builtin "len") (rLenO C sp) := by
  intro pins s σ H xs us Q I r h
  obtain ⟨a, dx, fs, rfl, ea, h⟩ := h
  obtain ⟨u, rfl, ru⟩ := vals1 r
  cases ru
  obtain ⟨mA, J, _⟩ := ins_get I.hok ea
  obtain ⟨od, J, _⟩ := J.look
  obtain ⟨m, hF⟩ := I.fr
  refine PySem.W.len_K hF I.ok.mod.kin J hm.at_ hm.fn (thn (run_fnG1 (us := [.ref a]) (vs := [.ref a]) F gd room bd I (.cons rfl .nil) h) ?_)
  rintro w s1 ⟨v, H1, I1, rv, n, rfl, n0, n1, q⟩
  obtain ⟨t, rfl⟩ : ∃ t, w = .int n t := rv
  exact ⟨⟨n0, n1⟩, .int n, H1, I1.tok _, ⟨s1.toks, rfl⟩, q⟩
end
end SL
namespace DL
open PySem PySem.Spec PyProof.Rows L2 LamX PySem.W SL
section
variable {T : List (Addr × Str)} {X : Cx} {K : Frag} {C : Addr} {a b o e : Expr} {fa fb fo fe : DTE} {pos : Pos}
def mapD (l : List (Key × Str)) : List (Key × D) := l.map fun p => (p.1, D.str p.2)
theorem mapD_rd {M : Pl} {H : Hp} : ∀ {l : List (Key × Str)} {ys : List (Key × V)}, KVs K M H (mapD l) ys → ys = mapS l
  | [], [], _ => rfl
  | [], _ :: _, h => by have := h.ks; cases this
  | _ :: _, [], h => by have := h.ks; cases this
  | p :: l, (k, v) :: ys, h => by
    have hk := h.ks
    have hv := h.vs
    unfold mapD at hk hv
    rw [List.map_cons, List.map_cons, List.map_cons] at hk hv
    obtain ⟨e1, e2⟩ := List.cons.inj hk
    have e1 : p.1 = k := e1
    subst e1
    cases hv with
    | cons r1 r2 =>
      cases r1
      rw [mapD_rd (l := l) (ys := ys) ⟨e2, r2⟩]
      rfl
def dEqT (neg : Bool) : DR2 := fun x y st Q => onDk st x fun _ ka => onDk st y fun _ kb => ∃ la lb : List (Key × Str), ka = mapD la ∧ kb = mapD lb ∧ Q (.bl (if neg then !eqT la lb else eqT la lb)) st
theorem opD_eqT {neg : Bool} : OpD T K (rEqT neg) (dEqT neg) := by
  intro M H st x y vx vy Q' Q s rx ry h k
  obtain ⟨n, ka, rfl, e1, h⟩ := onDk.of h
  obtain ⟨m, kb, rfl, e2, la, lb, rfl, rfl, q⟩ := onDk.of h
  obtain ⟨p, ya, rfl, hm, hp, kv⟩ := onDk.rd s rx e1
  obtain ⟨p2, yb, rfl, hm2, hp2, kv2⟩ := onDk.rd s ry e2
  rw [mapD_rd kv] at hp
  rw [mapD_rd kv2] at hp2
  exact ⟨p, p2, la, lb, rfl, rfl, .inl hp, .inl hp2, k.here s (.bl _) q⟩
def rsLenO (C : Addr) (g : DRs) : DRs := fun ds st Q => on1 ds fun x => onIns C st x fun _ _ => g [x] st fun v st1 => ∃ n : Int, v = .int n ∧ 0 ≤ n ∧ n < 2 ^ 63 ∧ Q (.int n) st1
variable {k : Nat} {fn : Addr} {fd : FuncData} {ps : List Str} {g : DRs}
theorem callD_lenO (ng : ∀ ds st Q, g ds st Q → ds.length = ps.length) : CallD T K (rLenO C (spD T K ps.length g)) (rsLenO C g) := by
  intro M H st ds vs Q' Q s r h k
  obtain ⟨x, rfl, h⟩ := on1.of h
  obtain ⟨n, fs, rfl, e, h⟩ := onIns.of h
  obtain ⟨v, rfl, rv⟩ := r.one
  obtain ⟨p, dx, ys, rfl, hm, ha, e3, rs⟩ := ins_rd s rv e
  refine ⟨p, dx, ys, rfl, ha, by show 1 = _; exact ng _ _ _ h, M, st, _, _, s, .cons rv .nil, h, fun M1 H1 st1 d w g1 s1 r1 h1 => ?_⟩
  obtain ⟨i, rfl, i0, i1, q⟩ := h1
  cases r1
  exact ⟨i, rfl, i0, i1, k M1 H1 st1 _ _ g1 s1 (.int i) q⟩
end
section
variable {T : List (Addr × Str)} {X : Cx} {K : Frag} {o e : Expr} {apos cpos : Pos} {fo fe : DTE}
def dropD (kvs : List (Key × D)) (k : Key) : List (Key × D) := kvs.filter fun kv => decide (kv.1 ≠ k)
theorem KVs.drop {M : Pl} {H : Hp} : ∀ {kvs : List (Key × D)} {ys : List (Key × V)} {k : Key}, KVs K M H kvs ys → KVs K M H (dropD kvs k) (dropK ys k)
  | [], [], _, h => h
  | [], _ :: _, _, h => by have := h.ks; cases this
  | _ :: _, [], _, h => by have := h.ks; cases this
  | (j, d) :: kvs, (j2, v) :: ys, k, h => by
    have hk := h.ks
    have hv := h.vs
    rw [List.map_cons, List.map_cons] at hk hv
    obtain ⟨e1, e2⟩ := List.cons.inj hk
    have e1 : j = j2 := e1
    subst e1
    cases hv with
    | cons r1 r2 =>
      have ih := KVs.drop (k := k) (⟨e2, r2⟩ : KVs K M H kvs ys)
      unfold dropD dropK
      by_cases q : j = k
      · rw [List.filter_cons_of_neg (by simp [q]), List.filter_cons_of_neg (by simp [q])]
        exact ih
      · rw [List.filter_cons_of_pos (by simp [q]), List.filter_cons_of_pos (by simp [q])]
        refine ⟨?_, ?_⟩
        · rw [List.map_cons, List.map_cons]
          exact congrArg (j :: ·) ih.ks
        · rw [List.map_cons, List.map_cons]
          exact .cons r1 ih.vs
def dPopK (fo fe : DTE) : DTE := fun r st Q => fo r st fun x st1 => DkD st1 x ∧ fe r st1 fun y st2 => onDk st2 x fun n kvs => onO (keyD y) fun k => onO (valD kvs k) fun d => Q d (st2.set n (.dK (dropD kvs k)))
theorem de_popK (ho : DE T X o fo) (he : DE T X e fe)
    (h1 : attributeBase o "pop" X.env (eval o X.env) = eval o X.env := by rfl)
    (h2 : ((backTo cpos (starEach [e] X.env)).all (fun x => !x.1) && (backToKw cpos (keywordEach [] X.env)).all (fun x => x.1.isSome) && decide (([e] : List Expr).length + ([] : List Keyword).length + (if ([] : List Keyword).isEmpty then 0 else 1) < 30)) = true := by rfl)
    (h3 : (apos.endLine == cpos.line) = true := by rfl) (h4 : backTo cpos (starEach [e] X.env) = [(false, eval e X.env)] := by rfl) :
    DE T X (.Call (.Attribute o "pop" apos) [e] [] cpos) (dPopK fo fe) :=
  PE.imp (pe_dpop1 ho he ⟨h1, h2, h3, h4⟩) fun σ H Q ⟨M, r, st, Q', s, re, h, k⟩ => ⟨M, r, st, _, s, re, h, fun M1 H1 st1 x vx g1 s1 r1 ⟨hd, h1⟩ => by
    obtain ⟨n, kvs, rfl, e1, _⟩ := onDk.of hd
    obtain ⟨p, ys, rfl, hm, hp, kv⟩ := onDk.rd s1 r1 e1
    exact ⟨p, rfl, .inl ⟨ys, .inl hp⟩, M1, r, st1, _, s1, re.grow g1, h1, fun M2 H2 st2 y vy g2 s2 r2 h2 => by
      obtain ⟨n', kvs3, en, e3, h3⟩ := onDk.of h2
      cases en
      obtain ⟨kk, ek, h3⟩ := onO.of h3
      obtain ⟨d, ed, h3⟩ := onO.of h3
      obtain ⟨p3, ys3, ep, hm3, hp3, kv3⟩ := onDk.rd s2 (r1.grow g2) e3
      cases ep
      have := r2.key ek
      subst this
      rcases kv3.val (k := kk) with ⟨z, _⟩ | ⟨d', v, z, z2, rv⟩
      · rw [z] at ed; cases ed
      · rw [z] at ed
        cases ed
        exact ⟨ys3, kk, v, hp3, rfl, z2, Kn.setD ((k.grow g1).grow g2) s2 hm3 kv3.drop rv h3⟩⟩⟩
end
section
variable {fa fb fo fe : DTE} {r : DEnv} {st : DSt} {Q : DK} {x y : D} {C : Addr} {g : DRs} {neg : Bool}
@[simp] theorem e_popK : dPopK fo fe r st Q = fo r st fun x st1 => DkD st1 x ∧ fe r st1 fun y st2 => onDk st2 x fun n kvs => onO (keyD y) fun k => onO (valD kvs k) fun d => Q d (st2.set n (.dK (dropD kvs k))) := rfl
@[simp] theorem e_eqT : dEqT neg x y st Q = onDk st x fun _ ka => onDk st y fun _ kb => ∃ la lb : List (Key × Str), ka = mapD la ∧ kb = mapD lb ∧ Q (.bl (if neg then !eqT la lb else eqT la lb)) st := rfl
@[simp] theorem e_lenO : rsLenO C g [x] st Q = onIns C st x fun _ _ => g [x] st fun v st1 => ∃ n : Int, v = .int n ∧ 0 ≤ n ∧ n < 2 ^ 63 ∧ Q (.int n) st1 := rfl
end
end DL
local macro_rules
  | `(tactic| exists 4) => `(tactic| try simp only [DL.e_var, DL.e_C, DL.e_op, DL.e_neg, DL.e_isN, DL.e_notN, DL.e_and, DL.e_or, DL.e_not, DL.e_test, DL.e_tAnd, DL.e_tOr, DL.e_tNot, DL.e_tYes, DL.e_if, DL.e_aNil, DL.e_aCons, DL.e_tup, DL.e_lst, DL.e_lstN, DL.e_len0, DL.e_len1, DL.e_len2, DL.e_len3, DL.e_len4, DL.e_len5, DL.e_cb, DL.e_on1, DL.e_on2, DL.e_onI, DL.e_onB, DL.e_onO, DL.e_onO0, DL.e_onOO, DL.e_I0, DL.e_I, DL.e_add, DL.e_addT, DL.e_addS, DL.e_addL, DL.e_addLR, DL.e_addRL, DL.e_addRR, DL.e_mul, DL.e_mulL, DL.e_mulT, DL.e_rev, DL.e_revT, DL.e_ix, DL.e_eqI, DL.e_eqS, DL.e_eqB, DL.e_neI, DL.e_neS, DL.e_neB, DL.e_ltI, DL.e_chain, DL.e_len, DL.e_abs, DL.e_2I, DL.e_tuple1, DL.e_tuple2, DL.e_tuple3, DL.e_listT, DL.e_listN, DL.e_allR, DL.e_seqT, DL.e_seqK, DL.e_seqL, DL.e_isi, DL.e_isB, DL.e_notB, DL.e_truth, DL.e_next, DL.e_drop, DL.e_ret, DL.e_retN, DL.e_ifS, DL.e_set, DL.e_asg, DL.e_par, DL.e_nm, DL.e_gsN, DL.e_gsC, DL.e_gTpK, DL.e_gTpL, DL.e_sum, DL.e_maxL, DL.e_minL, DL.e_maxDef, DL.e_int, DL.e_intB, DL.e_aug, DL.e_on3, DL.e_par3, DL.e_newK, DL.e_getK, DL.e_keyI, DL.e_keyS, DL.e_inK, DL.e_ninK, DL.e_putK, DL.e_lenK, DL.e_lstS, DL.e_seqX, DL.e_gTpT, DL.e_oN, DL.e_oS, DL.e_sl, DL.e_slT, DL.e_slL, DL.e_finT, DL.e_finN, DL.e_index, DL.e_idxT, DL.e_idxL, DL.e_mIx, DL.e_ixST, DL.e_ixSL, DL.e_mtL, DL.e_w, DL.e_w1, DL.e_w2, DL.e_wE, DL.e_wZ, DL.e_itK, DL.e_itT, DL.e_itL, DL.e_itT2, DL.e_itL2, DL.e_lc, DL.e_for, DL.e_wipe0, DL.e_wipe, DL.e_okI, DL.e_okR, DL.e_gSb, List.getElem?_cons_zero, List.getElem?_cons_succ, List.set_cons_zero, List.set_cons_succ, DL.e_getD, DL.e_get1, DL.e_lockK, DL.e_dlockK, DL.e_wItemsK, DL.e_wKeysK, DL.e_getR, DL.e_inR, DL.e_ninR, DL.e_dictP, DL.e_sortTs, DL.e_maxTs, DL.e_pop, DL.e_lenSetL, DL.e_gSbK, DL.e_popK, DL.e_eqT, DL.e_lenO, DL.e_fld, DL.e_sFld, DL.e_meth, DL.e_mk, DL.e_onS, DL.e_ixAS, DL.e_ixAT, DL.e_ixAK, DL.e_ixAL, DL.e_ixAR, DL.e_lenAS, DL.e_lenAT, DL.e_lenAK, DL.e_lenAL, DL.e_lenAR, DL.e_wStr, DL.e_join, DL.e_sidx, DL.e_ltS, DL.e_inS, DL.e_addSS, DL.e_sortKS, DL.e_mIndexS])
  | `(tactic| exists 4, $es,*) => `(tactic| try simp only [DL.e_var, DL.e_C, DL.e_op, DL.e_neg, DL.e_isN, DL.e_notN, DL.e_and, DL.e_or, DL.e_not, DL.e_test, DL.e_tAnd, DL.e_tOr, DL.e_tNot, DL.e_tYes, DL.e_if, DL.e_aNil, DL.e_aCons, DL.e_tup, DL.e_lst, DL.e_lstN, DL.e_len0, DL.e_len1, DL.e_len2, DL.e_len3, DL.e_len4, DL.e_len5, DL.e_cb, DL.e_on1, DL.e_on2, DL.e_onI, DL.e_onB, DL.e_onO, DL.e_onO0, DL.e_onOO, DL.e_I0, DL.e_I, DL.e_add, DL.e_addT, DL.e_addS, DL.e_addL, DL.e_addLR, DL.e_addRL, DL.e_addRR, DL.e_mul, DL.e_mulL, DL.e_mulT, DL.e_rev, DL.e_revT, DL.e_ix, DL.e_eqI, DL.e_eqS, DL.e_eqB, DL.e_neI, DL.e_neS, DL.e_neB, DL.e_ltI, DL.e_chain, DL.e_len, DL.e_abs, DL.e_2I, DL.e_tuple1, DL.e_tuple2, DL.e_tuple3, DL.e_listT, DL.e_listN, DL.e_allR, DL.e_seqT, DL.e_seqK, DL.e_seqL, DL.e_isi, DL.e_isB, DL.e_notB, DL.e_truth, DL.e_next, DL.e_drop, DL.e_ret, DL.e_retN, DL.e_ifS, DL.e_set, DL.e_asg, DL.e_par, DL.e_nm, DL.e_gsN, DL.e_gsC, DL.e_gTpK, DL.e_gTpL, DL.e_sum, DL.e_maxL, DL.e_minL, DL.e_maxDef, DL.e_int, DL.e_intB, DL.e_aug, DL.e_on3, DL.e_par3, DL.e_newK, DL.e_getK, DL.e_keyI, DL.e_keyS, DL.e_inK, DL.e_ninK, DL.e_putK, DL.e_lenK, DL.e_lstS, DL.e_seqX, DL.e_gTpT, DL.e_oN, DL.e_oS, DL.e_sl, DL.e_slT, DL.e_slL, DL.e_finT, DL.e_finN, DL.e_index, DL.e_idxT, DL.e_idxL, DL.e_mIx, DL.e_ixST, DL.e_ixSL, DL.e_mtL, DL.e_w, DL.e_w1, DL.e_w2, DL.e_wE, DL.e_wZ, DL.e_itK, DL.e_itT, DL.e_itL, DL.e_itT2, DL.e_itL2, DL.e_lc, DL.e_for, DL.e_wipe0, DL.e_wipe, DL.e_okI, DL.e_okR, DL.e_gSb, List.getElem?_cons_zero, List.getElem?_cons_succ, List.set_cons_zero, List.set_cons_succ, DL.e_getD, DL.e_get1, DL.e_lockK, DL.e_dlockK, DL.e_wItemsK, DL.e_wKeysK, DL.e_getR, DL.e_inR, DL.e_ninR, DL.e_dictP, DL.e_sortTs, DL.e_maxTs, DL.e_pop, DL.e_lenSetL, DL.e_gSbK, DL.e_popK, DL.e_eqT, DL.e_lenO, DL.e_fld, DL.e_sFld, DL.e_meth, DL.e_mk, DL.e_onS, DL.e_ixAS, DL.e_ixAT, DL.e_ixAK, DL.e_ixAL, DL.e_ixAR, DL.e_lenAS, DL.e_lenAT, DL.e_lenAK, DL.e_lenAL, DL.e_lenAR, DL.e_wStr, DL.e_join, DL.e_sidx, DL.e_ltS, DL.e_inS, DL.e_addSS, DL.e_sortKS, DL.e_mIndexS, $[$es:term],*])
namespace DL
open PySem PySem.Spec PyProof.Rows L2 LamX PySem.W SL
def F_Table_value_of (C : Addr) (g_require_name : DRs) : DTS := (sSeq (sDrop (dCB g_require_name (daCons (dVar 1) daNil))) (sSeq (sIf (dTest (dInK true (dVar 1) (dFld C "contents" (dVar 0)))) sNever sNext) (sRet (dOp dGetK (dFld C "contents" (dVar 0)) (dVar 1)))))
def F_Table_take_out (C : Addr) (g_Table_value_of : DRs) (g_Table_settle_all : DRs) : DTS := (sSeq (sSet 2 (dMeth C "value_of" g_Table_value_of (dVar 0) (daCons (dVar 1) daNil))) (sSeq (sDrop (dPopK (dFld C "contents" (dVar 0)) (dVar 1))) (sSeq (sDrop (dMeth C "settle_all" g_Table_settle_all (dVar 0) daNil)) (sRet (dVar 2)))))
def F_Table___len__ (C : Addr) : DTS := (sRet (dCB dLenK (daCons (dFld C "contents" (dVar 0)) daNil)))
def F_Table_slots (C : Addr) : DTS := (sRet (dFld C "count" (dVar 0)))
def F_Table_settle_all (C : Addr) (g_Table_names : DRs) (g_Table_settle : DRs) : DTS := (sSeq (sFldD C "entries" (dOp dMulN (dLst (daCons (dC (.str "")) daNil)) (dFld C "count" (dVar 0))) (dVar 0)) (sFor (wSeq (dMeth C "names" g_Table_names (dVar 0) daNil)) (gNm 1) (sDrop (dMeth C "settle" g_Table_settle (dVar 0) (daCons (dVar 1) daNil)))))
def F__law_drawn_value (g__law_of : DRs) : DTS := (sRet (dJoin (dC (.str "")) (dLcG (wRng1 (daCons (dCB g__law_of (daCons (dVar 0) (daCons (dLst (daCons (dC (.int 1)) (daCons (dC (.int 0)) (daCons (dC (.int 2)) (daCons (dC (.int 8)) daNil))))) daNil))) daNil)) (gNm 1) dtYes (dCB g__law_of (daCons (dVar 0) (daCons (dC (.str "xyz")) daNil))) [1] finT)))
end DL
--ELX
--ELO
--ELP
namespace DL
open PySem PySem.Spec PyProof.Rows L2 LamX PySem.W SL
section
variable {C : Addr}
theorem lk_value_of {far tri : Bool} {c i j : Nat} : List.lookup ("value_of" : Str) (fsT far tri c i j) = none := rfl
theorem lk_take_out {far tri : Bool} {c i j : Nat} : List.lookup ("take_out" : Str) (fsT far tri c i j) = none := rfl
theorem lk_settle_all {far tri : Bool} {c i j : Nat} : List.lookup ("settle_all" : Str) (fsT far tri c i j) = none := rfl
theorem lk_slots {far tri : Bool} {c i j : Nat} : List.lookup ("slots" : Str) (fsT far tri c i j) = none := rfl
theorem lk_grow {far tri : Bool} {c i j : Nat} : List.lookup ("grow" : Str) (fsT far tri c i j) = none := rfl
theorem lk_add_all {far tri : Bool} {c i j : Nat} : List.lookup ("add_all" : Str) (fsT far tri c i j) = none := rfl
theorem lk_clone {far tri : Bool} {c i j : Nat} : List.lookup ("clone" : Str) (fsT far tri c i j) = none := rfl
def g_valueOf (C : Addr) : DRs := fun ds st Q => ∃ (far tri : Bool) (c n i j : Nat) (kvs : List (Key × D)) (z : Str) (d : D), ds = [.ref n, .str z] ∧ st[n]? = some (.ins C (fsT far tri c i j)) ∧ st[i]? = some (.dK kvs) ∧ Word 1 z ∧ valD kvs (.inr z) = some d ∧ Q d st
theorem ar_valueOf (ds : List D) (st : DSt) (Q : DK) (h : g_valueOf C ds st Q) : ds.length = 2 := by
  obtain ⟨far, tri, c, n, i, j, kvs, z, d, rfl, _⟩ := h
  rfl
theorem sem_valueOf (ds : List D) (st : DSt) (Q : DK) (h : g_valueOf C ds st Q) : F_Table_value_of C g_reqN { nx := fun _ st' => Rt st Q .non st', rt := Rt st Q } (startD 2 ds) st := by
  obtain ⟨far, tri, c, n, i, j, kvs, z, d, rfl, t, tc, w, e, q⟩ := h
  have st2 : startD 2 [D.ref n, D.str z] = [some (.ref n), some (.str z)] := rfl
  simp only [F_Table_value_of, st2]
  try dsimp only
  rw [e_seq]
  exists 4
  refine ⟨z, rfl, w, ?_⟩
  try dsimp only
  rw [e_seq]
  exists 4, onIns_ref t, lk_contents, onDk_ref tc, e
  refine iteF' rfl ?_
  exists 4, onIns_ref t, lk_contents, onDk_ref tc, e
  exact .inl q
def g_lenT (C : Addr) : DRs := fun ds st Q => ∃ (far tri : Bool) (c n i j : Nat) (kvs : List (Key × D)), ds = [.ref n] ∧ st[n]? = some (.ins C (fsT far tri c i j)) ∧ st[i]? = some (.dK kvs) ∧ Q (.int kvs.length) st
theorem ar_lenT (ds : List D) (st : DSt) (Q : DK) (h : g_lenT C ds st Q) : ds.length = 1 := by
  obtain ⟨far, tri, c, n, i, j, kvs, rfl, _⟩ := h
  rfl
theorem sem_lenT (ds : List D) (st : DSt) (Q : DK) (h : g_lenT C ds st Q) : F_Table___len__ C { nx := fun _ st' => Rt st Q .non st', rt := Rt st Q } (startD 1 ds) st := by
  obtain ⟨far, tri, c, n, i, j, kvs, rfl, t, tc, q⟩ := h
  have st1 : startD 1 [D.ref n] = [some (.ref n)] := rfl
  simp only [F_Table___len__, st1]
  exists 4, onIns_ref t, lk_contents, onDk_ref tc
  exact .inl q
def g_slotsT (C : Addr) : DRs := fun ds st Q => ∃ (far tri : Bool) (c n i j : Nat), ds = [.ref n] ∧ st[n]? = some (.ins C (fsT far tri c i j)) ∧ Q (.int c) st
theorem ar_slotsT (ds : List D) (st : DSt) (Q : DK) (h : g_slotsT C ds st Q) : ds.length = 1 := by
  obtain ⟨far, tri, c, n, i, j, rfl, _⟩ := h
  rfl
theorem sem_slotsT (ds : List D) (st : DSt) (Q : DK) (h : g_slotsT C ds st Q) : F_Table_slots C { nx := fun _ st' => Rt st Q .non st', rt := Rt st Q } (startD 1 ds) st := by
  obtain ⟨far, tri, c, n, i, j, rfl, t, q⟩ := h
  have st1 : startD 1 [D.ref n] = [some (.ref n)] := rfl
  simp only [F_Table_slots, st1]
  exists 4, onIns_ref t, lk_count
  exact .inl q
def g_setAll (C : Addr) : DRs := fun ds st Q => ∃ (far tri : Bool) (c m n i j : Nat) (P : List (List Int)) (R : List (List (List Int))) (h : List Nat) (kvs : List (Key × D)), ds = [.ref n] ∧ st[n]? = some (.ins C (fsT far tri c i j)) ∧ st[i]? = some (.dK kvs) ∧ kvs.map (·.1) = keysT h ∧ NmS far tri c m P R ∧ Hist m c h ∧ (∀ a ∈ h, Wd a) ∧ h.length < 64 ∧
  Q .non (st.set n (.ins C (fsT far tri c i st.length)) ++ [.lst (entD (layF P R h))])
theorem ar_setAll (ds : List D) (st : DSt) (Q : DK) (h : g_setAll C ds st Q) : ds.length = 1 := by
  obtain ⟨far, tri, c, m, n, i, j, P, R, h, kvs, rfl, _⟩ := h
  rfl
theorem put_ent {far tri : Bool} {c i j j2 : Nat} : putFD "entries" (.ref j2) (fsT far tri c i j) = fsT far tri c i j2 := rfl
set_option maxHeartbeats 2000000 in
theorem sem_setAll (ds : List D) (st : DSt) (Q : DK) (h : g_setAll C ds st Q) : F_Table_settle_all C (g_names C) (g_settle C) { nx := fun _ st' => Rt st Q .non st', rt := Rt st Q } (startD 2 ds) st := by
  obtain ⟨far, tri, c, m, n, i, j, P, R, h, kvs, rfl, t, tc, ks, W, hh, wd, l, q⟩ := h
  have st2 : startD 2 [D.ref n] = [some (.ref n), none] := rfl
  have o := W.o
  have S := W.S
  have c64 := o.l
  have c0 := o.p
  have ln : n < st.length := (List.getElem?_eq_some_iff.mp t).1
  have ni : i ≠ n := fun e => by rw [e, t] at tc; cases tc
  obtain ⟨H2, eL⟩ := lay_srt W hh
  have wd2 : ∀ a ∈ srtN h, Wd a := fun a ha => wd a ((srtN_perm h).mem_iff.mp ha)
  simp only [F_Table_settle_all, st2]
  try dsimp only
  rw [e_seq]
  exists 4, onIns_ref t, lk_count
  refine ⟨⟨by omega, by show 1 * _ ≤ _; omega, by omega⟩, ?_⟩
  rw [Int.toNat_natCast, rep_flat]
  have e0 : List.replicate c (D.str "") = entD (layF P R []) := by
    have z : layF P R [] = emp c := by unfold layF layG; rw [S.rl]; rfl
    rw [z, entD_eq]
    unfold emp
    rw [List.map_replicate]
    rfl
  rw [e0]
  have t1 : ∀ X : List O, (st ++ X)[n]? = some (.ins C (fsT far tri c i j)) := fun X => by rw [List.getElem?_append_left ln]; exact t
  rw [onIns_ref (t1 _)]
  refine ⟨show (5 : Nat) ≤ 900 by decide, ?_⟩
  rw [put_ent, List.set_append_left _ _ ln]
  have g1 : ∀ X : List O, (st.set n (.ins C (fsT far tri c i st.length)) ++ X)[n]? = some (.ins C (fsT far tri c i st.length)) := fun X => by
    rw [List.getElem?_append_left (by rw [List.length_set]; exact ln)]
    exact List.getElem?_set_self ln
  have li : i < st.length := (List.getElem?_eq_some_iff.mp tc).1
  have g2 : ∀ X : List O, (st.set n (.ins C (fsT far tri c i st.length)) ++ X)[i]? = some (.dK kvs) := fun X => by
    rw [List.getElem?_append_left (by rw [List.length_set]; exact li), List.getElem?_set_ne ni.symm]
    exact tc
  exists 4
  rw [onIns_ref (g1 _)]
  refine ⟨lk_names, far, tri, c, n, i, st.length, h, kvs, rfl, g1 _, g2 _, ks, wd, l, ?_⟩
  have sl1 : (st.set n (.ins C (fsT far tri c i st.length))).length = st.length := List.length_set
  have own : ∀ x : O, (st.set n (.ins C (fsT far tri c i st.length)) ++ [x])[st.length]? = some x := fun x => by
    rw [List.getElem?_append_right (by omega), sl1, Nat.sub_self]
    rfl
  have put : ∀ x y : O, (st.set n (.ins C (fsT far tri c i st.length)) ++ [x]).set st.length y = st.set n (.ins C (fsT far tri c i st.length)) ++ [y] := fun x y => by
    rw [List.set_append_right _ _ (by omega), sl1, Nat.sub_self]
    rfl
  exists 4
  unfold namesD
  refine for_list (fun a : Nat => D.str (nm a)) (fun left r st' => ∃ (pre : List Nat) (x1 : Option D), srtN h = pre ++ left ∧ r = [some (.ref n), x1] ∧ st' = st.set n (.ins C (fsT far tri c i st.length)) ++ [.lst (entD (layF P R pre))]) ?_ ?_ (srtN h) _ _ ⟨[], none, rfl, rfl, rfl⟩
  · rintro x xs r st' N hN ⟨pre, x1, e, rfl, rfl⟩
    have hx : x ∈ srtN h := by rw [e]; exact List.mem_append_right _ List.mem_cons_self
    have wx := wd2 x hx
    have hp : Hist m c pre := ⟨(List.nodup_append.mp (by rw [← e]; exact H2.nd)).1, fun k hk => H2.lt k (by rw [e]; exact List.mem_append_left _ hk), by have := H2.few; rw [e, List.length_append] at this; omega⟩
    have nx : x ∉ pre := fun q => by
      have := (List.nodup_append.mp (by rw [← e]; exact H2.nd)).2.2 x q x List.mem_cons_self
      exact this rfl
    have lt : pre.length < c := by have := H2.few; rw [e, List.length_append, List.length_cons] at this; omega
    have wdp : ∀ a ∈ pre, Wd a := fun a ha => wd2 a (by rw [e]; exact List.mem_append_left _ ha)
    have G := step_go S (layF_good S hp).1 (layF_good S hp).2 (W.lt _ wx) nx lt
    have e2 : layF P R (pre ++ [x]) = (ins P R (layF P R pre) x).1 := by unfold layF; rw [layG_app]; rfl
    exists 4, onIns_ref (g1 _)
    refine ⟨lk_settle, far, tri, c, m, n, i, st.length, P, R, nm x, _, rfl, g1 _, own _, W, wx.1, lay_wds W hp wdp, by rw [wx.2]; exact G, ?_⟩
    rw [put, wx.2]
    exact hN _ _ (.inl ⟨pre ++ [x], _, by rw [e]; simp, rfl, by rw [e2]⟩)
  · rintro r st' ⟨pre, x1, e, rfl, rfl⟩
    rw [List.append_nil] at e
    subst e
    exists 4
    rw [eL]
    exact .inl q
def delN (h : List Nat) (a : Nat) : List Nat := h.filter fun b => decide (b ≠ a)
theorem delN_mem {h : List Nat} {a b : Nat} : b ∈ delN h a ↔ b ∈ h ∧ b ≠ a := by
  unfold delN
  rw [List.mem_filter, decide_eq_true_eq]
theorem delN_hist {m c a : Nat} {h : List Nat} (hh : Hist m c h) : Hist m c (delN h a) :=
  ⟨hh.nd.sublist List.filter_sublist, fun k hk => hh.lt k (delN_mem.mp hk).1, Nat.le_trans (List.length_filter_le _ _) hh.few⟩
theorem keys_drop {kvs : List (Key × D)} {h : List Nat} {z : Str} (e : kvs.map (·.1) = keysT h) (wd : ∀ a ∈ h, Wd a) (w : Word 1 z) : (dropD kvs (.inr z)).map (·.1) = keysT (delN h (num z)) := by
  have e2 : (dropD kvs (.inr z)).map (·.1) = (kvs.map (·.1)).filter fun k => decide (k ≠ (Sum.inr z : Key)) := by
    unfold dropD
    rw [List.filter_map]
    rfl
  rw [e2, e]
  unfold keysT delN
  rw [List.filter_map]
  congr 1
  refine List.filter_congr fun a ha => ?_
  show decide ((Sum.inr (nm a) : Key) ≠ Sum.inr z) = decide (a ≠ num z)
  refine decide_eq_decide.mpr (not_congr ⟨fun x => ?_, fun x => ?_⟩)
  · have e3 : nm a = z := Sum.inr.inj x
    rw [← e3, (wd a ha).2]
  · rw [x, nm_num w]
def g_takeOut (C : Addr) : DRs := fun ds st Q => ∃ (far tri : Bool) (c m n i j : Nat) (P : List (List Int)) (R : List (List (List Int))) (h : List Nat) (kvs : List (Key × D)) (z v : Str), ds = [.ref n, .str z] ∧ Tab C far tri c m n i j P R h kvs st ∧ Word 1 z ∧ valD kvs (.inr z) = some (.str v) ∧ h.length < 64 ∧
  Q (.str v) ((st.set i (.dK (dropD kvs (.inr z)))).set n (.ins C (fsT far tri c i st.length)) ++ [.lst (entD (layF P R (delN h (num z))))])
theorem ar_takeOut (ds : List D) (st : DSt) (Q : DK) (h : g_takeOut C ds st Q) : ds.length = 2 := by
  obtain ⟨far, tri, c, m, n, i, j, P, R, h, kvs, z, v, rfl, _⟩ := h
  rfl
theorem sem_takeOut (ds : List D) (st : DSt) (Q : DK) (h : g_takeOut C ds st Q) : F_Table_take_out C (g_valueOf C) (g_setAll C) { nx := fun _ st' => Rt st Q .non st', rt := Rt st Q } (startD 3 ds) st := by
  obtain ⟨far, tri, c, m, n, i, j, P, R, h, kvs, z, v, rfl, T, w, e, l, q⟩ := h
  have st3 : startD 3 [D.ref n, D.str z] = [some (.ref n), some (.str z), none] := rfl
  have ni : i ≠ n := fun e => by have := T.tc; rw [e, T.t] at this; cases this
  have li : i < st.length := (List.getElem?_eq_some_iff.mp T.tc).1
  have t2 : ∀ X : O, (st.set i X)[n]? = some (.ins C (fsT far tri c i j)) := fun X => by rw [List.getElem?_set_ne ni]; exact T.t
  have t3 : ∀ X : O, (st.set i X)[i]? = some X := fun X => List.getElem?_set_self li
  have d1 : DkD st (.ref i) := by unfold DkD; rw [onDk_ref T.tc]; trivial
  simp only [F_Table_take_out, st3]
  try dsimp only
  rw [e_seq]
  exists 4, onIns_ref T.t
  refine ⟨lk_value_of, far, tri, c, n, i, j, kvs, z, _, rfl, T.t, T.tc, w, e, ?_⟩
  try dsimp only
  rw [e_seq]
  exists 4, onIns_ref T.t, lk_contents, onDk_ref T.tc, e
  refine ⟨d1, ?_⟩
  try dsimp only
  rw [e_seq]
  exists 4, onIns_ref (t2 _)
  have ll : (delN h (num z)).length ≤ h.length := List.length_filter_le _ _
  refine ⟨lk_settle_all, far, tri, c, m, n, i, j, P, R, delN h (num z), _, rfl, t2 _, t3 _, keys_drop T.ks T.wd w, T.W, delN_hist T.hh, fun a ha => T.wd a (delN_mem.mp ha).1, by omega, ?_⟩
  exists 4
  rw [List.length_set]
  exact .inl q
end
end DL
--ELX
--ELO
--ELP
namespace DL
open PySem PySem.Spec PyProof.Rows L2 LamX PySem.W SL
def g_valueD : DRs := fun ds st Q => ∃ (p n : Nat), ds = [.ref p] ∧ Pot (n + 9) p st ∧ ∀ (z : Str) (o : O), Word 0 z → PotO n o → Q (.str z) (st.set p o)
theorem ar_valueD (ds : List D) (st : DSt) (Q : DK) (h : g_valueD ds st Q) : ds.length = 1 := by
  obtain ⟨p, n, rfl, _⟩ := h
  rfl
theorem xyz_sg : sg "xyz" = [120, 121, 122] := by decide +kernel
theorem sem_valueD (ds : List D) (st : DSt) (Q : DK) (h : g_valueD ds st Q) : F__law_drawn_value g_ofX { nx := fun _ st' => Rt st Q .non st', rt := Rt st Q } (startD 2 ds) st := by
  obtain ⟨p, n, rfl, pot, q⟩ := h
  have st2 : startD 2 [D.ref p] = [some (.ref p), none] := rfl
  have big : (100000 : Nat) ≤ sizeLine := by decide
  simp only [F__law_drawn_value, st2]
  exists 4
  refine ⟨p, _, [1, 0, 2, 8].map fun i : Nat => D.int i, n + 8, rfl, .inl rfl, by simp, by simp, pot, fun d o hd po => ?_⟩
  obtain ⟨w, hw, rfl⟩ := List.mem_map.mp hd
  have w8 : w ≤ 8 := by
    simp only [List.mem_cons, List.not_mem_nil, or_false] at hw
    omega
  exists 4
  refine ⟨⟨by omega, by omega⟩, by rw [rgD_length]; omega, ?_⟩
  rw [Int.toNat_natCast]
  refine compL_inv w (fun k acc st' => ∃ (l : List Nat) (o : O), acc = l.map (fun c => D.str ⟨#[c]⟩) ∧ l.length = k ∧ Ltr l ∧ PotO (n + 8 - k) o ∧ k ≤ w ∧ st' = st.set p o) ?_ ?_ _ _ 0 _ (by rw [rgD_length]; omega) ⟨[], o, rfl, rfl, (fun c hc => by cases hc), po, Nat.zero_le _, rfl⟩
  · rintro k d acc st' N lk ⟨l, o1, rfl, ll, hl, po1, _, rfl⟩ hN
    exists 4
    refine ⟨p, _, sgnsD "xyz", n + 8 - (k + 1), rfl, .inr ⟨"xyz", rfl, by decide +kernel, rfl⟩, ?_, ?_, ?_, fun d2 o2 hd2 po2 => ?_⟩
    · intro e
      have := congrArg List.length e
      rw [sgns_len, xyz_sg] at this
      simp at this
    · rw [sgns_len, xyz_sg]; simp
    · exact pot.set2 (po1.less (by omega))
    · obtain ⟨c, hc, rfl⟩ := sgns_mem hd2
      rw [xyz_sg] at hc
      simp only [List.mem_cons, List.not_mem_nil, or_false] at hc
      rw [List.set_set]
      refine hN _ _ ⟨l ++ [c], o2, by rw [List.map_append]; rfl, by rw [List.length_append, ll]; rfl, fun c' hc' => ?_, po2, by omega, rfl⟩
      rcases List.mem_append.mp hc' with e | e
      · exact hl c' e
      · rw [List.mem_singleton.mp e]; omega
  · rintro acc st' ⟨l, o1, rfl, ll, hl, po1, _, rfl⟩
    have e1 : strsD (l.map fun c => D.str ⟨#[c]⟩) = some (l.map fun c => (⟨#[c]⟩ : Str)) := by
      have z := strsD_strs (l.map fun c => (⟨#[c]⟩ : Str))
      rw [List.map_map] at z
      exact z
    have e2 : ((l.map fun c => (⟨#[c]⟩ : Str)).map (·.length)).sum = l.length := by
      rw [List.map_map]
      clear e1 hl ll
      induction l with
      | nil => rfl
      | cons a r ih => rw [List.map_cons, List.sum_cons, ih]; show 1 + _ = _; rw [List.length_cons]; omega
    exists 4, e1
    refine ⟨?_, .inl (q _ _ ⟨by omega, by rw [sg_join]; omega, by rw [sg_join]; exact hl⟩ (po1.less (by omega)))⟩
    rw [e2]
    show _ + _ * 0 ≤ _
    omega
theorem srtN_eq {h h2 : List Nat} (p : h2.Perm h) : srtN h2 = srtN h := one_sort ((srtN_perm h2).trans (p.trans (srtN_perm h).symm)) (srtN_pw h2) (srtN_pw h)
theorem comp_lk {te : DTE} {r : DEnv} {Q : List D → DSt → Prop} {st : DSt} {I : DIt} {i n : Nat} {o : O} {α : Type} (es : I.src = some (n, o)) (ok : st[n]? = some o) (f h : α → D) :
    ∀ (items : List α) (acc : List D), (∀ a ∈ items, Ev te (r.set i (some (f a))) st (h a)) → Q (acc ++ items.map h) st → compL I (gNm i) dtYes te r Q (items.map f) acc st
  | [], acc, _, q => by
    have q' : Q acc st := by simpa using q
    show okI I st (Q acc st)
    unfold okI
    rw [es]
    exact ⟨ok, q'⟩
  | a :: as, acc, hh, q => by
    show okI I st (te (r.set i (some (f a))) st fun y st4 => compL I (gNm i) dtYes te r Q (as.map f) (acc ++ [y]) st4)
    unfold okI
    rw [es]
    refine ⟨ok, hh a List.mem_cons_self _ ?_⟩
    exact comp_lk es ok f h as _ (fun b hb => hh b (List.mem_cons_of_mem _ hb)) (by simpa using q)
def Agr (h : List Nat) (kn kvs : List (Key × D)) : Prop := ∀ a ∈ h, ∃ v, Word 0 v ∧ valD kn (.inr (nm a)) = some (.str v) ∧ valD kvs (.inr (nm a)) = some (.str v)
theorem keysT_len {kvs : List (Key × D)} {h : List Nat} (e : kvs.map (·.1) = keysT h) : kvs.length = h.length := by
  have := congrArg List.length e
  unfold keysT at this
  rw [List.length_map, List.length_map] at this
  exact this
theorem keysT_K {kvs : List (Key × D)} {h : List Nat} (e : kvs.map (·.1) = keysT h) : keysK kvs = h.map fun a => D.str (nm a) := by
  have z : keysK kvs = (kvs.map (·.1)).map kD := by unfold keysK; rw [List.map_map]; rfl
  rw [z, e]
  unfold keysT
  rw [List.map_map]
  rfl
section
variable {C : Addr}
def g_sameT (C : Addr) : DRs := fun ds st Q => ∃ (far tri : Bool) (c m n i j q : Nat) (P : List (List Int)) (R : List (List (List Int))) (h h2 : List Nat) (kvs kn : List (Key × D)), ds = [.ref n, .ref q, .int c, kindD far tri] ∧ Tab C far tri c m n i j P R h kvs st ∧ st[q]? = some (.dK kn) ∧ q ≠ i ∧ kn.map (·.1) = keysT h2 ∧ h2.Perm h ∧ Agr h kn kvs ∧ h.length < 64 ∧ Q (.bl true) st
end
end DL
--ELX
--ELO
--ELP
namespace DL
open PySem PySem.Spec PyProof.Rows L2 LamX PySem.W SL
def VOk (kvs : List (Key × D)) : Prop := ∃ l : List (Key × Str), kvs = mapD l ∧ ∀ p ∈ l, Word 0 p.2
theorem VOk.nil : VOk [] := ⟨[], rfl, fun p hp => by cases hp⟩
theorem VOk.drop {kvs : List (Key × D)} {k : Key} (h : VOk kvs) : VOk (dropD kvs k) := by
  obtain ⟨l, rfl, w⟩ := h
  refine ⟨l.filter fun p => decide (p.1 ≠ k), ?_, fun p hp => w p (List.mem_filter.mp hp).1⟩
  unfold dropD mapD
  rw [List.filter_map]
  rfl
theorem VOk.put {kvs : List (Key × D)} {k : Key} {v : Str} (h : VOk kvs) (wv : Word 0 v) : VOk (putD kvs k (.str v)) := by
  obtain ⟨l, rfl, w⟩ := h
  unfold putD
  have ea : ((mapD l).any fun kv => decide (kv.1 = k)) = l.any fun kv => decide (kv.1 = k) := by
    unfold mapD
    rw [List.any_map]
    rfl
  rw [ea]
  split
  · refine ⟨l.map fun p => if p.1 = k then (p.1, v) else p, ?_, fun p hp => ?_⟩
    · unfold mapD
      rw [List.map_map, List.map_map]
      refine List.map_congr_left fun p _ => ?_
      show (if p.1 = k then (p.1, D.str v) else (p.1, D.str p.2)) = _
      by_cases e : p.1 = k
      · simp [e]
      · simp [e]
    · obtain ⟨p0, h0, rfl⟩ := List.mem_map.mp hp
      split
      · exact wv
      · exact w _ h0
  · refine ⟨l ++ [(k, v)], ?_, fun p hp => ?_⟩
    · unfold mapD
      rw [List.map_append]
      rfl
    · rcases List.mem_append.mp hp with e | e
      · exact w p e
      · rw [List.mem_singleton.mp e]; exact wv
theorem VOk.val {kvs : List (Key × D)} {k : Key} (h : VOk kvs) (hk : k ∈ kvs.map (·.1)) : ∃ v, Word 0 v ∧ valD kvs k = some (.str v) := by
  have z := key_yes hk
  obtain ⟨l, rfl, w⟩ := h
  unfold valD at z ⊢
  cases e : (mapD l).find? fun kv => decide (kv.1 = k) with
  | none => rw [e] at z; cases z
  | some kv =>
    have hm := List.mem_of_find?_eq_some e
    unfold mapD at hm
    obtain ⟨p, hp, rfl⟩ := List.mem_map.mp hm
    exact ⟨p.2, w p hp, rfl⟩
theorem VOk.agr {kvs : List (Key × D)} {h : List Nat} (v : VOk kvs) (e : kvs.map (·.1) = keysT h) : Agr h kvs kvs := fun a ha => by
  obtain ⟨x, wx, ex⟩ := v.val (k := .inr (nm a)) (by rw [e]; exact List.mem_map.mpr ⟨a, ha, rfl⟩)
  exact ⟨x, wx, ex, ex⟩
structure Kst (C : Addr) (far tri : Bool) (c m n i j q p k B : Nat) (P : List (List Int)) (R : List (List (List Int))) (h : List Nat) (kvs : List (Key × D)) (st S : DSt) : Prop where
  T : Tab C far tri c m n i j P R h kvs S
  tq : S[q]? = some (.dK kvs)
  po : Pot k p S
  le : st.length ≤ S.length
  fr : ∀ x, x < B → x ≠ p → S[x]? = st[x]?
  vo : VOk kvs
  qi : q ≠ i
  pB : p < B
  bn : B ≤ n
  bi : B ≤ i
  bj : B ≤ j
  bq : B ≤ q
section
variable {C : Addr} {far tri : Bool} {c m n i j q p k B : Nat} {P : List (List Int)} {R : List (List (List Int))} {h : List Nat} {kvs : List (Key × D)} {st S : DSt}
theorem Tab.mv {S' : DSt} (T : Tab C far tri c m n i j P R h kvs S) (e1 : S'[n]? = S[n]?) (e2 : S'[i]? = S[i]?) (e3 : S'[j]? = S[j]?) : Tab C far tri c m n i j P R h kvs S' :=
  ⟨e1.trans T.t, e2.trans T.tc, T.ks, e3.trans T.te, T.W, T.hh, T.wd⟩
theorem some_lt {S : DSt} {n : Nat} {o : O} (e : S[n]? = some o) : n < S.length := (List.getElem?_eq_some_iff.mp e).1
theorem app_at {S X : DSt} {n : Nat} {o : O} (e : S[n]? = some o) : (S ++ X)[n]? = S[n]? := List.getElem?_append_left (some_lt e)
theorem Kst.app {X : DSt} (K : Kst C far tri c m n i j q p k B P R h kvs st S) (bl : B ≤ S.length) : Kst C far tri c m n i j q p k B P R h kvs st (S ++ X) :=
  ⟨K.T.mv (app_at K.T.t) (app_at K.T.tc) (app_at K.T.te), (app_at K.tq).trans K.tq, K.po.app, by rw [List.length_append]; have := K.le; omega, fun x hx np => by rw [List.getElem?_append_left (by omega)]; exact K.fr x hx np, K.vo, K.qi, K.pB, K.bn, K.bi, K.bj, K.bq⟩
theorem Kst.pot {k' : Nat} {o : O} (K : Kst C far tri c m n i j q p k B P R h kvs st S) (po : PotO k' o) : Kst C far tri c m n i j q p k' B P R h kvs st (S.set p o) := by
  have := K.pB
  have := K.bn
  have := K.bi
  have := K.bj
  have := K.bq
  have ne : ∀ x, B ≤ x → (S.set p o)[x]? = S[x]? := fun x hx => List.getElem?_set_ne (by omega)
  exact ⟨K.T.mv (ne _ K.bn) (ne _ K.bi) (ne _ K.bj), (ne _ K.bq).trans K.tq, K.po.set2 po, by rw [List.length_set]; exact K.le, fun x hx np => by rw [List.getElem?_set_ne (fun e => np e.symm)]; exact K.fr x hx np, K.vo, K.qi, K.pB, K.bn, K.bi, K.bj, K.bq⟩
theorem Kst.bl (K : Kst C far tri c m n i j q p k B P R h kvs st S) : B ≤ S.length := by
  have := some_lt K.T.t
  have := K.bn
  omega
theorem Kst.put {z v : Str} (K : Kst C far tri c m n i j q p k B P R h kvs st S) (w : Word 1 z) (wv : Word 0 v) (few : num z ∈ h ∨ h.length < c) :
    Kst C far tri c m n i j q p k B P R (addN h (num z)) (putD kvs (.inr z) (.str v)) st (((S.set q (.dK (putD kvs (.inr z) (.str v)))).set j (.lst (entD (layF P R (addN h (num z)))))).set i (.dK (putD kvs (.inr z) (.str v)))) := by
  have T := K.T
  have ij : j ≠ i := fun e => by have := T.te; rw [e, T.tc] at this; cases this
  have nj : j ≠ n := fun e => by have := T.te; rw [e, T.t] at this; cases this
  have ni : i ≠ n := fun e => by have := T.tc; rw [e, T.t] at this; cases this
  have qn : q ≠ n := fun e => by have := K.tq; rw [e, T.t] at this; cases this
  have qj : q ≠ j := fun e => by have := K.tq; rw [e, T.te] at this; cases this
  have qi := K.qi
  have bi := K.bi
  have bj := K.bj
  have bq := K.bq
  have pB := K.pB
  refine ⟨⟨?_, ?_, keys_put T.ks T.wd w, ?_, T.W, add_hist T.W T.hh w.wd few, add_wd T.wd w.wd⟩, ?_, ?_, ?_, fun x hx np => ?_, K.vo.put wv, qi, pB, K.bn, bi, bj, bq⟩
  · rw [List.getElem?_set_ne ni, List.getElem?_set_ne nj, List.getElem?_set_ne qn]; exact T.t
  · exact List.getElem?_set_self (by rw [List.length_set, List.length_set]; exact some_lt T.tc)
  · rw [List.getElem?_set_ne ij.symm]
    exact List.getElem?_set_self (by rw [List.length_set]; exact some_lt T.te)
  · rw [List.getElem?_set_ne qi.symm, List.getElem?_set_ne qj.symm]
    exact List.getElem?_set_self (some_lt K.tq)
  · obtain ⟨o, e, po⟩ := K.po
    exact ⟨o, by rw [List.getElem?_set_ne (by omega), List.getElem?_set_ne (by omega), List.getElem?_set_ne (by omega)]; exact e, po⟩
  · rw [List.length_set, List.length_set, List.length_set]; exact K.le
  · rw [List.getElem?_set_ne (by omega), List.getElem?_set_ne (by omega), List.getElem?_set_ne (by omega)]
    exact K.fr x hx np
theorem Kst.out {a : Nat} (K : Kst C far tri c m n i j q p k B P R h kvs st S) (ha : a ∈ h) :
    Kst C far tri c m n i S.length q p k B P R (delN h a) (dropD kvs (.inr (nm a))) st (((S.set i (.dK (dropD kvs (.inr (nm a))))).set n (.ins C (fsT far tri c i S.length)) ++ [O.lst (entD (layF P R (delN h a)))]).set q (.dK (dropD kvs (.inr (nm a))))) := by
  have T := K.T
  have wa := T.wd a ha
  have ni : i ≠ n := fun e => by have := T.tc; rw [e, T.t] at this; cases this
  have qn : q ≠ n := fun e => by have := K.tq; rw [e, T.t] at this; cases this
  have lq := some_lt K.tq
  have ln := some_lt T.t
  have li := some_lt T.tc
  have qi := K.qi
  have bi := K.bi
  have bn := K.bn
  have bq := K.bq
  have pB := K.pB
  have kd := keys_drop T.ks T.wd wa.1
  rw [wa.2] at kd
  have ll : ((S.set i (.dK (dropD kvs (.inr (nm a))))).set n (.ins C (fsT far tri c i S.length))).length = S.length := by rw [List.length_set, List.length_set]
  have app : ∀ (x : Nat) (X : DSt), x < S.length → ((S.set i (.dK (dropD kvs (.inr (nm a))))).set n (.ins C (fsT far tri c i S.length)) ++ X)[x]? = ((S.set i (.dK (dropD kvs (.inr (nm a))))).set n (.ins C (fsT far tri c i S.length)))[x]? := fun x X hx => List.getElem?_append_left (by rw [ll]; exact hx)
  refine ⟨⟨?_, ?_, kd, ?_, T.W, delN_hist T.hh, fun b hb => T.wd b (delN_mem.mp hb).1⟩, ?_, ?_, ?_, fun x hx np => ?_, K.vo.drop, qi, pB, bn, bi, by omega, bq⟩
  · rw [List.getElem?_set_ne qn, app _ _ ln]
    exact List.getElem?_set_self (by rw [List.length_set]; exact ln)
  · rw [List.getElem?_set_ne qi, app _ _ li, List.getElem?_set_ne ni.symm]
    exact List.getElem?_set_self li
  · rw [List.getElem?_set_ne (by omega), List.getElem?_append_right (by omega), ll, Nat.sub_self]
    rfl
  · exact List.getElem?_set_self (by rw [List.length_append, ll]; omega)
  · obtain ⟨o, e, po⟩ := K.po
    exact ⟨o, by rw [List.getElem?_set_ne (by omega), app _ _ (by omega), List.getElem?_set_ne (by omega), List.getElem?_set_ne (by omega)]; exact e, po⟩
  · rw [List.length_set, List.length_append, ll]; have := K.le; omega
  · rw [List.getElem?_set_ne (by omega), app _ _ (by omega), List.getElem?_set_ne (by omega), List.getElem?_set_ne (by omega)]
    exact K.fr x hx np
theorem Kst.less {k' : Nat} (K : Kst C far tri c m n i j q p k B P R h kvs st S) (l : k' ≤ k) : Kst C far tri c m n i j q p k' B P R h kvs st S := { K with po := K.po.less l }
end
end DL
--ELX
--ELO
--ELP
namespace DL
open PySem PySem.Spec PyProof.Rows L2 LamX PySem.W SL
section
variable {C : Addr} {far tri : Bool} {c m n i j q p k B : Nat} {P : List (List Int)} {R : List (List (List Int))} {h : List Nat} {kvs : List (Key × D)} {st S : DSt}
theorem Kst.self (K : Kst C far tri c m n i j q p k B P R h kvs st S) : Kst C far tri c m n i j q p k B P R h kvs S S := { K with le := Nat.le_refl _, fr := fun _ _ _ => rfl }
theorem Kst.trans {j' k' : Nat} {h' : List Nat} {kvs' : List (Key × D)} {S' : DSt} (K : Kst C far tri c m n i j q p k B P R h kvs st S) (K' : Kst C far tri c m n i j' q p k' B P R h' kvs' S S') : Kst C far tri c m n i j' q p k' B P R h' kvs' st S' :=
  { K' with le := Nat.le_trans K.le K'.le, fr := fun x hx np => (K'.fr x hx np).trans (K.fr x hx np) }
theorem rt_cut {o : O} {kk : Nat} {d : D} {Q : DK} (lt : p < st.length) (le : st.length ≤ S.length) (hp : S[p]? = some o) (po : PotO kk o) (fr : ∀ x, x < st.length → x ≠ p → S[x]? = st[x]?) (cl : clo st.length d = true) (q : Q d (st.set p o)) : Rt st Q d S := by
  have e : S = st.set p o ++ S.drop st.length := by
    refine List.ext_getElem? fun x => ?_
    by_cases hx : x < st.length
    · rw [List.getElem?_append_left (by rw [List.length_set]; exact hx)]
      by_cases xp : x = p
      · subst xp
        rw [hp, List.getElem?_set_self lt]
      · rw [fr x hx xp, List.getElem?_set_ne (fun e => xp e.symm)]
    · rw [List.getElem?_append_right (by rw [List.length_set]; omega), List.length_set, List.getElem?_drop]
      congr 1
      omega
  rw [e]
  exact rt_drop List.length_set cl (cs_set (m := st.length) po) q
end
section
variable {C : Addr}
end
end DL
namespace SL
open PySem PySem.Spec PyProof.Rows L2 PySem.W SS
def Cnt (l : List Str) (m : Nat) : Prop := ∃ ks : List Str, ks.Nodup ∧ (∀ y, y ∈ ks ↔ y ∈ l) ∧ ks.length = m
theorem Cnt.nil : Cnt [] 0 := ⟨[], .nil, fun y => .rfl, rfl⟩
theorem any_mem {l : List Str} {y : Str} : (l.any (· == y)) = decide (y ∈ l) := by
  rw [Bool.eq_iff_iff, List.any_eq_true, decide_eq_true_eq]
  exact ⟨fun ⟨x, hx, e⟩ => (beq_iff_eq.mp e) ▸ hx, fun h => ⟨y, h, beq_self_eq_true y⟩⟩
theorem Cnt.snoc {l : List Str} {m : Nat} {x : Str} (c : Cnt l m) : Cnt (l ++ [x]) (if l.any (· == x) then m else m + 1) := by
  obtain ⟨ks, nd, mm, rfl⟩ := c
  rw [any_mem]
  by_cases h : x ∈ l
  · rw [decide_eq_true h, if_pos rfl]
    refine ⟨ks, nd, fun y => ?_, rfl⟩
    rw [mm, List.mem_append, List.mem_singleton]
    exact ⟨.inl, fun z => z.elim id fun e => e ▸ h⟩
  · rw [decide_eq_false h, if_neg (by decide)]
    refine ⟨ks ++ [x], ?_, fun y => ?_, by rw [List.length_append]; rfl⟩
    · rw [List.nodup_append]
      refine ⟨nd, by simp, fun a ha b hb e => ?_⟩
      rw [List.mem_singleton] at hb
      rw [e, hb] at ha
      exact h ((mm x).mp ha)
    · rw [List.mem_append, List.mem_append, mm]
theorem Cnt.le' {l : List Str} {m : Nat} (c : Cnt l m) : m ≤ l.length := by
  obtain ⟨ks, nd, mm, rfl⟩ := c
  have sub : ∀ (ks l : List Str), ks.Nodup → (∀ y ∈ ks, y ∈ l) → ks.length ≤ l.length := by
    intro ks
    induction ks with
    | nil => intro l _ _; exact Nat.zero_le _
    | cons a r ih =>
      intro l nd hs
      have ha := hs a List.mem_cons_self
      have h2 := ih (l.erase a) (List.nodup_cons.mp nd).2 fun y hy => (List.mem_erase_of_ne (fun e : y = a => (List.nodup_cons.mp nd).1 (by rw [← e]; exact hy))).mpr (hs y (List.mem_cons_of_mem _ hy))
      have h3 := List.length_erase_of_mem ha
      have h4 : 0 < l.length := List.length_pos_of_mem ha
      rw [List.length_cons]
      omega
  exact sub ks l nd fun y hy => (mm y).mp hy
section
variable {prog : Program} {w : World} {A : Around} {R : Result → Shared → Prop} {I : Addr} {fp wr : List Addr} {G : Array GenState → Array GenState → Prop} {n : Nat} {P : Nat → Value → Prop} {St : Nat → Shared → Prop}
theorem setOf_mv {h h' : Heap} {a : Addr} {S : Str → Bool} {m : Nat} (e : ∀ o, h.get? a = some o → h'.get? a = some o) (hS : h.SetOf (PySem.strKind prog w) a S m) : h'.SetOf (PySem.strKind prog w) a S m := by
  obtain ⟨o, es, ep, t, ho, rest⟩ := hS
  exact ⟨o, es, ep, t, e o ho, rest⟩
theorem set_turns (W : WalksS prog w A.in1 I fp wr G n P St) (S : Addr) (out : S ∉ fp) (xs : List Str) (len : xs.length = n) (room : n + 1 < scanBound) (isS : ∀ i v, P i v → ∃ t, v = .str (xs.getD i Str.empty) t) :
    ∀ (left i : Nat) (s : Shared), i + left = n → St i s → ∀ m, m ≤ i → Cnt (xs.take i) m → s.heap.SetOf (PySem.strKind prog w) S (fun y => (xs.take i).any (· == y)) m →
      (∀ s' m', Moved (S :: wr) G s s' → Cnt xs m' → s'.heap.SetOf (PySem.strKind prog w) S (fun y => xs.any (· == y)) m' → R (.ok (.ret .none)) s') →
      codeAny (model prog w) A (.builtin "set.update.loop" ⟨[.ref S, .ref I], []⟩) R s := by
  have far : S ∉ wr := fun z => out (W.sub _ z)
  have wider : ∀ b ∈ wr, b ∈ S :: wr := fun b hb => List.mem_cons_of_mem _ hb
  intro left
  induction left with
  | zero =>
    intro i s e hst m le c hS fin
    have e : i = xs.length := by omega
    subst e
    rw [List.take_length] at hS c
    refine codeAny_builtin PyProof.Rows.F.entry_set_update_loop ?_
    rw [Around.under_plainId PyProof.Rows.F.plain_set_update_loop _]
    show wpAny _ A.in1 (pyNext (.ref I) >>= _) _ _ s
    rw [len] at hst
    exact wpAny_bind (W.done s _ _ hst fun s' mv => wpAny_pure (fin s' m (mv.mono wider) c (setOf_mv (fun o ho => mv.heap S _ far ho) hS)))
  | succ left ih =>
    intro i s e hst m le c hS fin
    have lt : i < n := by omega
    have lx : i < xs.length := by omega
    refine codeAny_builtin PyProof.Rows.F.entry_set_update_loop ?_
    rw [Around.under_plainId PyProof.Rows.F.plain_set_update_loop _]
    show wpAny _ A.in1 (pyNext (.ref I) >>= _) _ _ s
    refine wpAny_bind (W.item i s _ _ lt hst fun v s1 hP hst1 mv => ?_)
    obtain ⟨t, rfl⟩ := isS i v hP
    have hS1 := setOf_mv (fun o ho => mv.heap S _ far ho) hS
    have ex : xs.getD i Str.empty = xs[i] := by rw [List.getD_eq_getElem?_getD, List.getElem?_eq_getElem lx]; rfl
    have et : xs.take (i + 1) = xs.take i ++ [xs.getD i Str.empty] := by rw [ex, List.take_succ, List.getElem?_eq_getElem lx]; rfl
    show wpAny _ A.in1 (holding [Value.str (xs.getD i Str.empty) t] (setAdd S (.str (xs.getD i Str.empty) t)) >>= _) _ _ s1
    refine wpAny_bind (wpAny_holding ?_)
    unfold setAdd
    refine wpAny_holding (wpAny_bind ((PySem.strKind prog w).pyHash (k := xs.getD i Str.empty) (strKind_is _ _ _ _) ?_))
    refine wpAny_setAddHashed_of (knd := PySem.strKind prog w) (s := { s1 with toks := s1.toks + 1 }) (strKind_is _ _ _ _) rfl hS1 (by omega) fun h' same hS2 => ?_
    have hS3 : h'.SetOf (PySem.strKind prog w) S (fun y => (xs.take (i + 1)).any (· == y)) (if (xs.take i).any (· == xs.getD i Str.empty) then m else m + 1) := by
      refine SetOf_congr hS2 (fun y => ?_) rfl
      rw [et, List.any_append]
      show _ = (_ || ((xs.getD i Str.empty == y) || false))
      rw [Bool.or_false]
      congr 1
      by_cases z : y = xs.getD i Str.empty
      · rw [decide_eq_true z, z]; simp
      · rw [decide_eq_false z]
        have : (xs.getD i Str.empty == y) = false := by simpa using fun q : xs.getD i Str.empty = y => z q.symm
        rw [this]
    have c2 : Cnt (xs.take (i + 1)) (if (xs.take i).any (· == xs.getD i Str.empty) then m else m + 1) := by rw [et]; exact c.snoc
    refine wpAny_pure ⟨plainId_quiet PyProof.Rows.F.plain_set_update_loop _, ih (i + 1) _ (by omega) (W.frame _ s1 _ _ hst1 (Nat.le_succ _) fun b hb o e => ?_) _ (by split <;> omega) c2 hS3 fun s2 m' mv2 c3 hS4 => ?_⟩
    · rw [same.2 b (fun z : b = S => out (by rw [← z]; exact hb))]
      exact e
    · refine fin s2 m' (Moved.trans W.gtrans ((mv.mono wider).then_heap (Nat.le_succ _) fun b o hb e => ?_) mv2) c3 hS4
      rw [same.2 b (fun z : b = S => hb (by rw [z]; exact List.mem_cons_self))]
      exact e
end
section
variable {prog : Program} {w : World} {A : Around} {E : Value → Shared → Prop} {s : Shared}
def emptySet (led : Bool) : Obj := { cls := .type "set", dict := none, data := .set #[] 0 (.fresh 0 0 led) }
set_option maxHeartbeats 3200000 in
theorem call_setT {l : Addr} {items : Array Value} {xs : List Str} {Q : Value → Shared → Prop} (hh : A.handled = none) (hl : s.heap.IsTuple l items) (hi : StrsAre items.toList xs) (room : xs.length + 1 < scanBound)
    (h : ∀ (h' : Heap) (tk m : Nat), Cnt xs m → h'.SetOf (PySem.strKind prog w) s.heap.objs.size (fun y => xs.any (· == y)) m → (∀ b o, b < s.heap.objs.size → s.heap.get? b = some o → h'.get? b = some o) → Q (.ref s.heap.objs.size) { s with heap := h', toks := tk }) :
    wpAny (model prog w) A (call (.type "set") [.ref l]) Q E s := by
  have called := PySem.F.called_set
  obtain ⟨c, tl, mro⟩ := called.mro
  have made := called.made
  have sub := called.sub
  have nt := called.notType
  have cr := called.canCreate
  have ck := PySem.F.typeCall_set_1 (.ref l)
  refine wpAny_call (codeAny_of_tree ?_)
  show wpAny _ _ (callAny (.type "set") _) _ _ _
  refine wpAny_pure ⟨Code.quiet_builtin _ (by decide +kernel), codeAny_builtin PySem.F.entry_type_call ?_⟩
  rw [Around.under_plain (weight_type_call_type "set" [.ref l] []) rfl]
  repeat (any_goals (first | assumption | wp_step))
  refine codeAny_mono (code_set_new_1 (.ref l) (E := E) (Q₁ := fun obj s1 => ∃ led : Bool, obj = .ref s.heap.objs.size ∧ s1 = { s with heap := s.heap.push (emptySet led) }) fun led => ⟨led, rfl, rfl⟩) fun r s1 made1 => ?_
  cases r with
  | error e => exact made1
  | ok fl =>
    cases fl with
    | next => exact made1.elim
    | brk => exact made1.elim
    | cont => exact made1.elim
    | ret obj =>
      obtain ⟨led, rfl, rfl⟩ := made1
      have at0 : (s.heap.push (emptySet led)).get? s.heap.objs.size = some (emptySet led) := Heap.get?_push_size _ rfl
      have ty : Shared.TypeIs { s with heap := s.heap.push (emptySet led) } (.ref s.heap.objs.size) "set" := ⟨_, at0, rfl⟩
      have lk := called.init.lookup
      have bd := called.init.bind (.ref s.heap.objs.size)
      repeat (any_goals (first | assumption | wp_step))
      refine codeAny_mono (codeAny_call_builtin (R := wants (fun r s2 => r = .none ∧ ∃ h' tk m, s2 = { s with heap := h', toks := tk } ∧ Cnt xs m ∧ h'.SetOf (PySem.strKind prog w) s.heap.objs.size (fun y => xs.any (· == y)) m ∧
          (∀ b o, b < s.heap.objs.size → s.heap.get? b = some o → h'.get? b = some o)) E) called.init.plain PySem.F.entry_set_init (check_set_init_1 ty ?_)) fun r2 s2 got => ?_
      · obtain ⟨⟨ocls, odict, odata, oslots⟩, hol, hcl, nl, hdl⟩ := hl
        simp only at hcl hdl
        subst hcl
        subst hdl
        have hol2 : (s.heap.push (emptySet led)).get? l = some { cls := .type "tuple", dict := odict, data := .seq items nl, slots := oslots } := Heap.get?_push_of_some _ hol
        have t1 := PySem.F.sub_tuple_set
        have t2 := PySem.F.sub_tuple_frozenset
        have t3 : (Value.type "tuple" == Value.type "dict") = false := by decide
        have hl2 : (s.heap.push (emptySet led)).IsTuple l items := ⟨_, hol2, rfl, nl, rfl⟩
        unfold emptySet at hol2 hl2 at0 ty ⊢
        unfold Builtin.«set.__init__» noKeywords Builtin.Frozenset.updateFrom
        generalize hPI : pyIter = PI
        wp_walk
        subst hPI
        refine wpAny_pyIter_tuple hl2 ?_
        refine wpAny_bind (wpAny_runValue ?_)
        have lS : l < s.heap.objs.size := Heap.lt_size hol
        have h3 : A.in1.in1.in1.handled = none := by simp [hh]
        have apart : l ≠ (s.heap.push { cls := .type "set", dict := none, data := .set #[] 0 (.fresh 0 0 led) }).objs.size := by
          rw [Heap.size_push]; exact Nat.ne_of_lt (Nat.lt_succ_of_lt lS)
        have out : s.heap.objs.size ∉ [(s.heap.push { cls := .type "set", dict := none, data := .set #[] 0 (.fresh 0 0 led) }).objs.size, l] := by
          rw [Heap.size_push]
          simp only [List.mem_cons, List.not_mem_nil, or_false, not_or]
          exact ⟨Nat.ne_of_lt (Nat.lt_succ_self _), Nat.ne_of_gt lS⟩
        have len : xs.length = items.size := by rw [← StrsAre.len_eq hi, Array.length_toList]
        have isS : ∀ (i : Nat) (v : Value), items[i]? = some v → ∃ t, v = .str (xs.getD i Str.empty) t := fun i v hv => strs_at hi i v (by rw [Array.getElem?_toList]; exact hv)
        refine set_turns ((Walks.tuple h3 _ l apart items).toS) s.heap.objs.size out xs len (by rw [← len]; exact room) isS items.size 0 _ (Nat.zero_add _) ⟨⟨_, Heap.get?_push_size _ rfl, rfl, rfl⟩, hl2.push _⟩ 0 (Nat.le_refl _) Cnt.nil ?_ ?_
        · exact SetOf_congr ((setObjOf_fresh (knd := PySem.strKind prog w) led).setOf (Heap.get?_push_of_some _ at0) (by unfold scanBound; omega)) (fun _ => rfl) rfl
        · intro s' m mv c3 hS
          obtain ⟨h', g', d', tk', os'⟩ := s'
          obtain rfl : g' = s.gens := mv.gens
          obtain rfl : d' = s.drawn := mv.drawn
          obtain rfl : os' = s.os := mv.os
          show wpAny _ _ _ _ _ _
          refine wpAny_pure ?_
          show wpAny _ _ (ret Value.none) _ _ _
          refine wpAny_pure ⟨rfl, h', tk', m, rfl, c3, hS, fun b o hb e => ?_⟩
          refine mv.heap b o ?_ (Heap.get?_push_of_some _ (Heap.get?_push_of_some _ e))
          simp only [List.mem_cons, List.not_mem_nil, or_false, not_or]
          exact ⟨Nat.ne_of_lt hb, by rw [Heap.size_push]; exact Nat.ne_of_lt (Nat.lt_succ_of_lt hb)⟩
      · cases r2 with
        | error e => exact got
        | ok fl2 =>
          cases fl2 with
          | ret r =>
            obtain ⟨rfl, h', tk, m, rfl, c3, hS, kept⟩ := got
            repeat (any_goals (first | assumption | wp_step))
            exact h _ _ _ c3 hS kept
          | next => exact got.elim
          | brk => exact got.elim
          | cont => exact got.elim
end
def tLenSetS (K : PySem.W.Frag) (ta : TE) : TE := fun σ H Q => ta σ H fun x H1 => ∃ (l : Addr) (xs : List Str), x = .ref l ∧ SqT K H1 l (xs.map V.str) ∧ xs.length ≤ 4000 ∧ ∀ m, Cnt xs m → Q (.int (m : Nat)) H1
theorem strs_of : ∀ {xs : List Str} {us : List Value}, Vals (xs.map V.str) us → StrsAre us xs
  | [], _, .nil => .nil
  | x :: r, _, .cons h t => by
    obtain ⟨k, rfl⟩ := (show ∃ k, _ = Value.str x k from h)
    exact .cons _ k (strs_of t)
theorem pe_lenSetS {X : Cx} {a : Expr} {ta : TE} {p p2 q pos : Pos} (g1 : Gl X "len") (m1 : X.mg "len" = none) (g2 : Gl X "set") (m2 : X.mg "set" = none) (ha : PE X a ta)
    (calm : X.calm = true := by rfl) (one : starEach [a] X.env = (false, eval a X.env) :: starEach [] X.env := by rfl) :
    PE X (.Call (.Name "len" p) [.Call (.Name "set" p2) [a] [] q] [] pos) (tLenSetS X.K ta) := by
  constructor
  intro pins s σ H Q I h
  refine Call_ (ld_blt I g1 m1 boot_len ?_)
  refine callWith_builtin1 (args_cons ?_ rfl) rfl rfl
  refine Call_ (ld_blt I g2 m2 boot_set ?_)
  refine callWith_type1 (args_cons (thn (ha.run pins s σ H _ I h) ?_) one) one rfl
  rintro v s1 ⟨x, H1, I1, r1, l, xs, rfl, seq, few, q1⟩
  refine args_nil ?_
  cases r1
  obtain ⟨its, rv, ht, hz⟩ := I1.tuple seq
  have ii := strs_of rv
  refine call_setT (xs := xs) (I1.ok.hd calm) ht (by simpa using ii) (by unfold scanBound; omega) fun h' tk m c hS kept => ?_
  refine args_nil ?_
  have cl := c.le'
  obtain ⟨o, es, ep, t, ho, ex, dt, _, _, lt, fits, siz⟩ := hS
  have I2 : Inv X pins σ H1 { s1 with heap := h', toks := tk } := I1.kept fun b u hu => kept b u (Heap.lt_size hu) hu
  have few' : (es.size : Int) < 2 ^ 63 := by omega
  refine call_len_set ho ex dt fits few' ⟨.int es.size, H1, I2.tok _, ⟨_, rfl⟩, ?_⟩
  have z := q1 m c
  rw [← siz] at z
  exact z
section
variable {X : Cx} {o e : Expr} {apos cpos : Pos} {td ty : TE}
end
end SL
namespace DL
open PySem PySem.Spec PyProof.Rows L2 LamX PySem.W SL
section
variable {T : List (Addr × Str)} {X : Cx} {K : Frag} {a o e : Expr} {fa fo fe : DTE} {p pos apos cpos : Pos}
def dLenSetS (f : DTE) : DTE := fun r st Q => f r st fun x st1 => onT x fun ds => onO (strsD ds) fun xs => xs.length ≤ 4000 ∧ ∀ m, SL.Cnt xs m → Q (.int (m : Nat)) st1
theorem de_lenSetS {p2 q : Pos} (g1 : Gl X "len") (m1 : X.mg "len" = none) (g2 : Gl X "set") (m2 : X.mg "set" = none) (ha : DE T X a fa) (calm : X.calm = true := by rfl) (one : starEach [a] X.env = (false, eval a X.env) :: starEach [] X.env := by rfl) :
    DE T X (.Call (.Name "len" p) [.Call (.Name "set" p2) [a] [] q] [] pos) (dLenSetS fa) :=
  PE.imp (pe_lenSetS g1 m1 g2 m2 ha calm one) fun σ H Q ⟨M, ρ, st, Q', s, re, hf, k⟩ => ⟨M, ρ, st, _, s, re, hf, fun M1 H1 st1 x vx g1 s1 r1 h1 => by
    obtain ⟨ds, rfl, h1⟩ := onT.of h1
    obtain ⟨xs, e, few, h2⟩ := onO.of h1
    have e := strsD_of e
    subst e
    cases r1 with
    | tup n e0 e3 rs =>
      have z := rs.strs
      subst z
      exact ⟨_, xs, rfl, .inl (.inr ⟨_, e0⟩), few, fun m c => (k.grow g1).here s1 (.int _) (h2 m c)⟩⟩
def dUpdK (fo fe : DTE) : DTE := fun r st Q => fo r st fun x st1 => DkD st1 x ∧ fe r st1 fun y st2 => onDk st2 x fun n kvs => onDk st2 y fun m more => n ≠ m ∧ kvs.length + more.length ≤ sizeLine ∧ Q .non (st2.set n (.dK (mergeD kvs more)))
def dDictC : DRs := fun ds st Q => on1 ds fun x => onDk st x fun n kvs => Q (.ref st.length) (st ++ [.dK kvs])
end
section
variable {f fo fe : DTE} {r : DEnv} {st : DSt} {Q : DK} {x : D}
@[simp] theorem e_lenSetS : dLenSetS f r st Q = f r st fun x st1 => onT x fun ds => onO (strsD ds) fun xs => xs.length ≤ 4000 ∧ ∀ m, SL.Cnt xs m → Q (.int (m : Nat)) st1 := rfl
@[simp] theorem e_updK : dUpdK fo fe r st Q = fo r st fun x st1 => DkD st1 x ∧ fe r st1 fun y st2 => onDk st2 x fun n kvs => onDk st2 y fun m more => n ≠ m ∧ kvs.length + more.length ≤ sizeLine ∧ Q .non (st2.set n (.dK (mergeD kvs more))) := rfl
@[simp] theorem e_dictC : dDictC [x] st Q = onDk st x fun n kvs => Q (.ref st.length) (st ++ [.dK kvs]) := rfl
end
end DL
local macro_rules
  | `(tactic| exists 3) => `(tactic| try simp only [DL.e_var, DL.e_C, DL.e_op, DL.e_neg, DL.e_isN, DL.e_notN, DL.e_and, DL.e_or, DL.e_not, DL.e_test, DL.e_tAnd, DL.e_tOr, DL.e_tNot, DL.e_tYes, DL.e_if, DL.e_aNil, DL.e_aCons, DL.e_tup, DL.e_lst, DL.e_lstN, DL.e_len0, DL.e_len1, DL.e_len2, DL.e_len3, DL.e_len4, DL.e_len5, DL.e_cb, DL.e_on1, DL.e_on2, DL.e_onI, DL.e_onB, DL.e_onO, DL.e_onO0, DL.e_onOO, DL.e_I0, DL.e_I, DL.e_add, DL.e_addT, DL.e_addS, DL.e_addL, DL.e_addLR, DL.e_addRL, DL.e_addRR, DL.e_mul, DL.e_mulL, DL.e_mulT, DL.e_rev, DL.e_revT, DL.e_ix, DL.e_eqI, DL.e_eqS, DL.e_eqB, DL.e_neI, DL.e_neS, DL.e_neB, DL.e_ltI, DL.e_chain, DL.e_len, DL.e_abs, DL.e_2I, DL.e_tuple1, DL.e_tuple2, DL.e_tuple3, DL.e_listT, DL.e_listN, DL.e_allR, DL.e_seqT, DL.e_seqK, DL.e_seqL, DL.e_isi, DL.e_isB, DL.e_notB, DL.e_truth, DL.e_next, DL.e_drop, DL.e_ret, DL.e_retN, DL.e_ifS, DL.e_set, DL.e_asg, DL.e_par, DL.e_nm, DL.e_gsN, DL.e_gsC, DL.e_gTpK, DL.e_gTpL, DL.e_sum, DL.e_maxL, DL.e_minL, DL.e_maxDef, DL.e_int, DL.e_intB, DL.e_aug, DL.e_on3, DL.e_par3, DL.e_newK, DL.e_getK, DL.e_keyI, DL.e_keyS, DL.e_inK, DL.e_ninK, DL.e_putK, DL.e_lenK, DL.e_lstS, DL.e_seqX, DL.e_gTpT, DL.e_oN, DL.e_oS, DL.e_sl, DL.e_slT, DL.e_slL, DL.e_finT, DL.e_finN, DL.e_index, DL.e_idxT, DL.e_idxL, DL.e_mIx, DL.e_ixST, DL.e_ixSL, DL.e_mtL, DL.e_w, DL.e_w1, DL.e_w2, DL.e_wE, DL.e_wZ, DL.e_itK, DL.e_itT, DL.e_itL, DL.e_itT2, DL.e_itL2, DL.e_lc, DL.e_for, DL.e_wipe0, DL.e_wipe, DL.e_okI, DL.e_okR, DL.e_gSb, List.getElem?_cons_zero, List.getElem?_cons_succ, List.set_cons_zero, List.set_cons_succ, DL.e_getD, DL.e_get1, DL.e_lockK, DL.e_dlockK, DL.e_wItemsK, DL.e_wKeysK, DL.e_getR, DL.e_inR, DL.e_ninR, DL.e_dictP, DL.e_sortTs, DL.e_maxTs, DL.e_pop, DL.e_lenSetL, DL.e_gSbK, DL.e_lenSetS, DL.e_updK, DL.e_dictC, DL.e_popK, DL.e_eqT, DL.e_lenO, DL.e_fld, DL.e_sFld, DL.e_meth, DL.e_mk, DL.e_onS, DL.e_ixAS, DL.e_ixAT, DL.e_ixAK, DL.e_ixAL, DL.e_ixAR, DL.e_lenAS, DL.e_lenAT, DL.e_lenAK, DL.e_lenAL, DL.e_lenAR, DL.e_wStr, DL.e_join, DL.e_sidx, DL.e_ltS, DL.e_inS, DL.e_addSS, DL.e_sortKS, DL.e_mIndexS])
  | `(tactic| exists 3, $es,*) => `(tactic| try simp only [DL.e_var, DL.e_C, DL.e_op, DL.e_neg, DL.e_isN, DL.e_notN, DL.e_and, DL.e_or, DL.e_not, DL.e_test, DL.e_tAnd, DL.e_tOr, DL.e_tNot, DL.e_tYes, DL.e_if, DL.e_aNil, DL.e_aCons, DL.e_tup, DL.e_lst, DL.e_lstN, DL.e_len0, DL.e_len1, DL.e_len2, DL.e_len3, DL.e_len4, DL.e_len5, DL.e_cb, DL.e_on1, DL.e_on2, DL.e_onI, DL.e_onB, DL.e_onO, DL.e_onO0, DL.e_onOO, DL.e_I0, DL.e_I, DL.e_add, DL.e_addT, DL.e_addS, DL.e_addL, DL.e_addLR, DL.e_addRL, DL.e_addRR, DL.e_mul, DL.e_mulL, DL.e_mulT, DL.e_rev, DL.e_revT, DL.e_ix, DL.e_eqI, DL.e_eqS, DL.e_eqB, DL.e_neI, DL.e_neS, DL.e_neB, DL.e_ltI, DL.e_chain, DL.e_len, DL.e_abs, DL.e_2I, DL.e_tuple1, DL.e_tuple2, DL.e_tuple3, DL.e_listT, DL.e_listN, DL.e_allR, DL.e_seqT, DL.e_seqK, DL.e_seqL, DL.e_isi, DL.e_isB, DL.e_notB, DL.e_truth, DL.e_next, DL.e_drop, DL.e_ret, DL.e_retN, DL.e_ifS, DL.e_set, DL.e_asg, DL.e_par, DL.e_nm, DL.e_gsN, DL.e_gsC, DL.e_gTpK, DL.e_gTpL, DL.e_sum, DL.e_maxL, DL.e_minL, DL.e_maxDef, DL.e_int, DL.e_intB, DL.e_aug, DL.e_on3, DL.e_par3, DL.e_newK, DL.e_getK, DL.e_keyI, DL.e_keyS, DL.e_inK, DL.e_ninK, DL.e_putK, DL.e_lenK, DL.e_lstS, DL.e_seqX, DL.e_gTpT, DL.e_oN, DL.e_oS, DL.e_sl, DL.e_slT, DL.e_slL, DL.e_finT, DL.e_finN, DL.e_index, DL.e_idxT, DL.e_idxL, DL.e_mIx, DL.e_ixST, DL.e_ixSL, DL.e_mtL, DL.e_w, DL.e_w1, DL.e_w2, DL.e_wE, DL.e_wZ, DL.e_itK, DL.e_itT, DL.e_itL, DL.e_itT2, DL.e_itL2, DL.e_lc, DL.e_for, DL.e_wipe0, DL.e_wipe, DL.e_okI, DL.e_okR, DL.e_gSb, List.getElem?_cons_zero, List.getElem?_cons_succ, List.set_cons_zero, List.set_cons_succ, DL.e_getD, DL.e_get1, DL.e_lockK, DL.e_dlockK, DL.e_wItemsK, DL.e_wKeysK, DL.e_getR, DL.e_inR, DL.e_ninR, DL.e_dictP, DL.e_sortTs, DL.e_maxTs, DL.e_pop, DL.e_lenSetL, DL.e_gSbK, DL.e_lenSetS, DL.e_updK, DL.e_dictC, DL.e_popK, DL.e_eqT, DL.e_lenO, DL.e_fld, DL.e_sFld, DL.e_meth, DL.e_mk, DL.e_onS, DL.e_ixAS, DL.e_ixAT, DL.e_ixAK, DL.e_ixAL, DL.e_ixAR, DL.e_lenAS, DL.e_lenAT, DL.e_lenAK, DL.e_lenAL, DL.e_lenAR, DL.e_wStr, DL.e_join, DL.e_sidx, DL.e_ltS, DL.e_inS, DL.e_addSS, DL.e_sortKS, DL.e_mIndexS, $[$es:term],*])
namespace DL
open PySem PySem.Spec PyProof.Rows L2 LamX PySem.W SL
def F_Table_grow (C : Addr) (g_require_count : DRs) (g_Table_settle_all : DRs) : DTS := (sSeq (sDrop (dCB g_require_count (daCons (dVar 1) (daCons (dFld C "way" (dVar 0)) daNil)))) (sSeq (sIf (dTest (dOp dGt (dCB dLenK (daCons (dFld C "contents" (dVar 0)) daNil)) (dVar 1))) sNever sNext) (sSeq (sFldD C "count" (dVar 1) (dVar 0)) (sDrop (dMeth C "settle_all" g_Table_settle_all (dVar 0) daNil)))))
def F_Table_add_all (C : Addr) (g_Table_put : DRs) (g_Table_value_of : DRs) (g_Table_names : DRs) : DTS := (sSeq (sSet 2 (dLenSetS (dOp dAdd (dMeth C "names" g_Table_names (dVar 0) daNil) (dMeth C "names" g_Table_names (dVar 1) daNil)))) (sSeq (sIf (dTest (dOp dGt (dVar 2) (dFld C "count" (dVar 0)))) sNever sNext) (sFor (wSeq (dMeth C "names" g_Table_names (dVar 1) daNil)) (gNm 3) (sDrop (dMeth C "put" g_Table_put (dVar 0) (daCons (dVar 3) (daCons (dMeth C "value_of" g_Table_value_of (dVar 1) (daCons (dVar 3) daNil)) daNil)))))))
end DL
--ELX
--ELO
--ELP
--ELQ
namespace DL
open PySem PySem.Spec PyProof.Rows L2 LamX PySem.W SL
theorem valD_cons {κ : Type} [DecidableEq κ] {p : κ × D} {r : List (κ × D)} {k : κ} : valD (p :: r) k = if p.1 = k then some p.2 else valD r k := by
  unfold valD
  rw [List.find?_cons]
  by_cases e : p.1 = k
  · simp [e]
  · simp [e]
theorem valD_app1 {κ : Type} [DecidableEq κ] {l : List (κ × D)} {j k : κ} {v : D} (h : ∀ p ∈ l, p.1 ≠ j) : valD (l ++ [(j, v)]) k = if j = k then some v else valD l k := by
  induction l with
  | nil => rw [List.nil_append, valD_cons]
  | cons p r ih =>
    rw [List.cons_append, valD_cons, valD_cons, ih fun q hq => h q (List.mem_cons_of_mem _ hq)]
    have := h p List.mem_cons_self
    by_cases e : p.1 = k
    · rw [if_pos e, if_pos e, if_neg (fun z => this (e.trans z.symm))]
    · rw [if_neg e, if_neg e]
theorem valD_putE {kvs : List (Key × D)} {j k : Key} {v : D} : valD (putD kvs j v) k = if j = k then some v else valD kvs k := by
  unfold putD
  split
  · rename_i h
    have key : ∀ l : List (Key × D), (l.any fun kv => decide (kv.1 = j)) = true → valD (l.map fun kv => if kv.1 = j then (kv.1, v) else kv) k = if j = k then some v else valD l k := by
      intro l
      induction l with
      | nil => intro h; cases h
      | cons p r ih =>
        intro hp
        rw [List.map_cons, valD_cons, valD_cons]
        by_cases e : p.1 = j
        · rw [if_pos e]
          by_cases f : j = k
          · rw [if_pos (e.trans f), if_pos f]
          · rw [if_neg (fun z => f (e.symm.trans z)), if_neg f, if_neg (fun z => f (e.symm.trans z))]
            by_cases q : (r.any fun kv => decide (kv.1 = j)) = true
            · rw [ih q, if_neg f]
            · have e2 : (r.map fun kv => if kv.1 = j then (kv.1, v) else kv) = r := by
                refine (List.map_congr_left fun kv hk => ?_).trans (List.map_id r)
                rw [if_neg fun z => q (List.any_eq_true.mpr ⟨kv, hk, decide_eq_true z⟩)]
                rfl
              rw [e2]
        · rw [if_neg e]
          rw [List.any_cons, decide_eq_false e, Bool.false_or] at hp
          rw [ih hp]
          by_cases f : p.1 = k
          · rw [if_pos f, if_pos f, if_neg (fun z => e (f.trans z.symm))]
          · rw [if_neg f, if_neg f]
    exact key kvs h
  · rename_i h
    exact valD_app1 fun p hp z => h (List.any_eq_true.mpr ⟨p, hp, decide_eq_true z⟩)
def putsN (kvs : List (Key × D)) (ks : List Nat) (f : Nat → D) : List (Key × D) := ks.foldl (fun acc a => putD acc (.inr (nm a)) (f a)) kvs
def addsN (h ks : List Nat) : List Nat := ks.foldl addN h
def valN (kvs : List (Key × D)) (a : Nat) : D := (valD kvs (.inr (nm a))).getD .non
theorem putsN_val {f : Nat → D} {b : Nat} (wb : Wd b) : ∀ (ks : List Nat) (kvs : List (Key × D)), (∀ a ∈ ks, Wd a) → valD (putsN kvs ks f) (.inr (nm b)) = if b ∈ ks then some (f b) else valD kvs (.inr (nm b))
  | [], kvs, _ => by rw [if_neg (by simp)]; rfl
  | a :: r, kvs, w => by
    show valD (putsN (putD kvs (.inr (nm a)) (f a)) r f) _ = _
    rw [putsN_val wb r _ fun x hx => w x (List.mem_cons_of_mem _ hx), valD_putE]
    have wa := w a List.mem_cons_self
    by_cases e : b ∈ r
    · rw [if_pos e, if_pos (List.mem_cons_of_mem _ e)]
    · rw [if_neg e]
      by_cases q : a = b
      · subst q
        rw [if_pos rfl, if_pos List.mem_cons_self]
      · rw [if_neg (fun z => q ((wa.inj wb).mp (Sum.inr.inj z))), if_neg (fun z => by rcases List.mem_cons.mp z with y | y; (· exact q y.symm); (· exact e y))]
theorem putsN_keys {f : Nat → D} : ∀ (ks : List Nat) (kvs : List (Key × D)) (h : List Nat), (∀ a ∈ ks, Wd a) → (∀ a ∈ h, Wd a) → kvs.map (·.1) = keysT h → (putsN kvs ks f).map (·.1) = keysT (addsN h ks)
  | [], _, _, _, _, e => e
  | a :: r, kvs, h, w, wh, e => by
    have wa := w a List.mem_cons_self
    have z := keys_put (v := f a) e wh wa.1
    rw [wa.2] at z
    exact putsN_keys r _ (addN h a) (fun x hx => w x (List.mem_cons_of_mem _ hx)) (add_wd wh wa) z
theorem addsN_mem {b : Nat} : ∀ (ks h : List Nat), b ∈ addsN h ks ↔ b ∈ h ∨ b ∈ ks
  | [], h => by unfold addsN; simp
  | a :: r, h => by
    show b ∈ addsN (addN h a) r ↔ _
    rw [addsN_mem r]
    unfold addN
    split
    · rename_i ha
      rw [List.mem_cons]
      exact ⟨fun z => z.elim .inl fun y => .inr (.inr y), fun z => z.elim .inl fun y => y.elim (fun e => .inl (e ▸ ha)) .inr⟩
    · rw [List.mem_append, List.mem_singleton, List.mem_cons, or_assoc]
theorem addsN_nd : ∀ (ks h : List Nat), h.Nodup → (addsN h ks).Nodup
  | [], h, nd => nd
  | a :: r, h, nd => by
    refine addsN_nd r (addN h a) ?_
    unfold addN
    split
    · exact nd
    · rename_i na
      rw [List.nodup_append]
      exact ⟨nd, by simp, fun x hx y hy e => na (by rw [List.mem_singleton] at hy; rw [← hy, ← e]; exact hx)⟩
theorem addsN_le : ∀ (ks h : List Nat), h.length ≤ (addsN h ks).length
  | [], h => Nat.le_refl _
  | a :: r, h => by
    refine Nat.le_trans ?_ (addsN_le r (addN h a))
    unfold addN
    split
    · exact Nat.le_refl _
    · rw [List.length_append]; exact Nat.le_add_right _ _
theorem addsN_wd {ks h : List Nat} (wh : ∀ a ∈ h, Wd a) (wk : ∀ a ∈ ks, Wd a) : ∀ a ∈ addsN h ks, Wd a := fun a ha => by
  rcases (addsN_mem ks h).mp ha with e | e
  · exact wh a e
  · exact wk a e
theorem kv_form : ∀ (h : List Nat) (kvs : List (Key × D)), kvs.map (·.1) = keysT h → h.Nodup → (∀ a ∈ h, Wd a) → kvs = h.map fun a => ((.inr (nm a) : Key), valN kvs a)
  | [], kvs, e, _, _ => by
    have : kvs = [] := by cases kvs with | nil => rfl | cons _ _ => cases e
    subst this
    rfl
  | a :: r, [], e, _, _ => by cases e
  | a :: r, p :: l, e, nd, w => by
    unfold keysT at e
    rw [List.map_cons, List.map_cons] at e
    obtain ⟨e1, e2⟩ := List.cons.inj e
    have nda := List.nodup_cons.mp nd
    have ih := kv_form r l e2 nda.2 fun x hx => w x (List.mem_cons_of_mem _ hx)
    have v0 : valN (p :: l) a = p.2 := by unfold valN; rw [valD_cons, if_pos e1]; rfl
    have v1 : (r.map fun b => ((.inr (nm b) : Key), valN (p :: l) b)) = r.map fun b => ((.inr (nm b) : Key), valN l b) := List.map_congr_left fun b hb => by
      have ne : ¬ p.1 = (.inr (nm b) : Key) := fun z => nda.1 (by
        have e3 : (.inr (nm a) : Key) = .inr (nm b) := e1.symm.trans z
        have := ((w a List.mem_cons_self).inj (w b (List.mem_cons_of_mem _ hb))).mp (Sum.inr.inj e3)
        rw [this]; exact hb)
      unfold valN
      rw [valD_cons, if_neg ne]
    rw [List.map_cons, v0, v1, ← ih]
    congr 1
    exact Prod.ext e1 rfl
theorem VOk.puts {f : Nat → D} : ∀ (ks : List Nat) (kvs : List (Key × D)), VOk kvs → (∀ a ∈ ks, ∃ v, Word 0 v ∧ f a = .str v) → VOk (putsN kvs ks f)
  | [], _, v, _ => v
  | a :: r, kvs, v, hf => by
    obtain ⟨x, wx, ex⟩ := hf a List.mem_cons_self
    show VOk (putsN (putD kvs (.inr (nm a)) (f a)) r f)
    rw [ex]
    exact VOk.puts r _ (v.put wx) fun b hb => hf b (List.mem_cons_of_mem _ hb)
theorem VOk.valN {kvs : List (Key × D)} {h : List Nat} {a : Nat} (v : VOk kvs) (e : kvs.map (·.1) = keysT h) (ha : a ∈ h) : ∃ x, Word 0 x ∧ DL.valN kvs a = .str x ∧ valD kvs (.inr (nm a)) = some (.str x) := by
  obtain ⟨x, wx, ex⟩ := v.val (k := .inr (nm a)) (by rw [e]; exact List.mem_map.mpr ⟨a, ha, rfl⟩)
  exact ⟨x, wx, by unfold DL.valN; rw [ex]; rfl, ex⟩
theorem cnt_len {l l' : List Str} {m : Nat} (c : SL.Cnt l m) (nd : l'.Nodup) (e : ∀ y, y ∈ l' ↔ y ∈ l) : m = l'.length := by
  obtain ⟨ks, nk, mm, rfl⟩ := c
  exact ((List.perm_ext_iff_of_nodup nk nd).mpr fun y => (mm y).trans (e y).symm).length_eq
theorem nm_nd {h : List Nat} (nd : h.Nodup) (w : ∀ a ∈ h, Wd a) : (h.map nm).Nodup := by
  refine List.Pairwise.map _ (fun (a : Nat) (b : Nat) (q : Wd a ∧ Wd b ∧ a ≠ b) e => q.2.2 ((q.1.inj q.2.1).mp e)) (List.Pairwise.imp_of_mem (fun {a b} ha hb q => ⟨w a ha, w b hb, q⟩) nd)
end DL
--ELX
--ELO
--ELP
--ELQ
namespace DL
open PySem PySem.Spec PyProof.Rows L2 LamX PySem.W SL
section
variable {C : Addr}
theorem put_count {far tri : Bool} {c c2 i j : Nat} : putFD "count" (.int (c2 : Nat)) (fsT far tri c i j) = fsT far tri c2 i j := rfl
def g_grow (C : Addr) : DRs := fun ds st Q => ∃ (far tri : Bool) (c m n i j c2 m2 : Nat) (P P2 : List (List Int)) (R R2 : List (List (List Int))) (h : List Nat) (kvs : List (Key × D)), ds = [.ref n, .int c2] ∧ Tab C far tri c m n i j P R h kvs st ∧ NmS far tri c2 m2 P2 R2 ∧ h.length ≤ c2 ∧ h.length < 64 ∧
  Q .non (st.set n (.ins C (fsT far tri c2 i st.length)) ++ [.lst (entD (layF P2 R2 h))])
theorem ar_grow (ds : List D) (st : DSt) (Q : DK) (h : g_grow C ds st Q) : ds.length = 2 := by
  obtain ⟨far, tri, c, m, n, i, j, c2, m2, P, P2, R, R2, h, kvs, rfl, _⟩ := h
  rfl
theorem sem_grow (ds : List D) (st : DSt) (Q : DK) (h : g_grow C ds st Q) : F_Table_grow C g_reqC (g_setAll C) { nx := fun _ st' => Rt st Q .non st', rt := Rt st Q } (startD 2 ds) st := by
  obtain ⟨far, tri, c, m, n, i, j, c2, m2, P, P2, R, R2, h, kvs, rfl, T, W2, few, l, q⟩ := h
  have st2 : startD 2 [D.ref n, D.int c2] = [some (.ref n), some (.int c2)] := rfl
  have ln := some_lt T.t
  have ni : n ≠ i := fun e => by have := T.tc; rw [← e, T.t] at this; cases this
  have lk := keysT_len T.ks
  have g1 : (st.set n (.ins C (fsT far tri c2 i j)))[n]? = some (.ins C (fsT far tri c2 i j)) := List.getElem?_set_self ln
  have g2 : (st.set n (.ins C (fsT far tri c2 i j)))[i]? = some (.dK kvs) := by rw [List.getElem?_set_ne ni]; exact T.tc
  simp only [F_Table_grow, st2]
  try dsimp only
  rw [e_seq]
  exists 3, onIns_ref T.t, lk_way
  refine ⟨tri, c2, rfl, W2.o, ?_⟩
  try dsimp only
  rw [e_seq]
  exists 3, onIns_ref T.t, lk_contents, onDk_ref T.tc
  refine iteF' (decide_eq_false (by omega)) ?_
  try dsimp only
  rw [e_seq]
  exists 3, onIns_ref T.t
  refine ⟨show (5 : Nat) ≤ 900 by decide, ?_⟩
  rw [put_count]
  exists 3, onIns_ref g1
  refine ⟨lk_settle_all, far, tri, c2, m2, n, i, j, P2, R2, h, kvs, rfl, g1, g2, T.ks, W2, ⟨T.hh.nd, fun k hk => W2.lt k (T.wd k hk), few⟩, T.wd, l, .inl ?_⟩
  rw [List.length_set, List.set_set]
  exact q
def g_addAll (C : Addr) : DRs := fun ds st Q => ∃ (far tri far2 tri2 : Bool) (c m n i j c2 n2 i2 j2 : Nat) (P : List (List Int)) (R : List (List (List Int))) (h h2 : List Nat) (kvs kv2 : List (Key × D)), ds = [.ref n, .ref n2] ∧ Tab C far tri c m n i j P R h kvs st ∧
  st[n2]? = some (.ins C (fsT far2 tri2 c2 i2 j2)) ∧ st[i2]? = some (.dK kv2) ∧ kv2.map (·.1) = keysT h2 ∧ h2.Nodup ∧ (∀ a ∈ h2, Wd a) ∧ VOk kv2 ∧ n ≠ n2 ∧ i ≠ i2 ∧ (addsN h (srtN h2)).length ≤ c ∧ h.length < 64 ∧ h2.length < 64 ∧
  Q .non ((st.set j (.lst (entD (layF P R (addsN h (srtN h2)))))).set i (.dK (putsN kvs (srtN h2) (valN kv2))))
theorem ar_addAll (ds : List D) (st : DSt) (Q : DK) (h : g_addAll C ds st Q) : ds.length = 2 := by
  obtain ⟨far, tri, far2, tri2, c, m, n, i, j, c2, n2, i2, j2, P, R, h, h2, kvs, kv2, rfl, _⟩ := h
  rfl
theorem set2 {st : DSt} {i j : Nat} {a b c d : O} (ne : i ≠ j) : (((st.set j a).set i b).set j c).set i d = (st.set j c).set i d := by
  have e1 : ((st.set j a).set i b).set j c = (st.set j c).set i b := by rw [List.set_comm b c ne, List.set_set]
  rw [e1, List.set_set]
set_option maxHeartbeats 2000000 in
theorem sem_addAll (ds : List D) (st : DSt) (Q : DK) (h : g_addAll C ds st Q) : F_Table_add_all C (g_put C) (g_valueOf C) (g_names C) { nx := fun _ st' => Rt st Q .non st', rt := Rt st Q } (startD 4 ds) st := by
  obtain ⟨far, tri, far2, tri2, c, m, n, i, j, c2, n2, i2, j2, P, R, h, h2, kvs, kv2, rfl, T, t2, tc2, ks2, nd2, wd2, vo2, nn, ii, room, l, l2, q⟩ := h
  have st4 : startD 4 [D.ref n, D.ref n2] = [some (.ref n), some (.ref n2), none, none] := rfl
  have big : (100000 : Nat) ≤ sizeLine := by decide
  have W := T.W
  have ls := (srtN_perm h).length_eq
  have ls2 := (srtN_perm h2).length_eq
  have nds : (srtN h2).Nodup := (srtN_perm h2).nodup_iff.mpr nd2
  have wds2 : ∀ a ∈ srtN h2, Wd a := fun a ha => wd2 a ((srtN_perm h2).mem_iff.mp ha)
  have wdA : ∀ a ∈ addsN h (srtN h2), Wd a := addsN_wd T.wd wds2
  have ndA := addsN_nd (srtN h2) h T.hh.nd
  have ij : i ≠ j := fun e => by have := T.te; rw [← e, T.tc] at this; cases this
  have n2j : j ≠ n2 := fun e => by have := T.te; rw [e, t2] at this; cases this
  have n2i : i ≠ n2 := fun e => by have := T.tc; rw [e, t2] at this; cases this
  have i2j : j ≠ i2 := fun e => by have := T.te; rw [e, tc2] at this; cases this
  have nj : j ≠ n := fun e => by have := T.te; rw [e, T.t] at this; cases this
  have ni : i ≠ n := fun e => by have := T.tc; rw [e, T.t] at this; cases this
  simp only [F_Table_add_all, st4]
  try dsimp only
  rw [e_seq]
  exists 3, onIns_ref T.t
  refine ⟨lk_names, far, tri, c, n, i, j, h, kvs, rfl, T.t, T.tc, T.ks, T.wd, l, ?_⟩
  exists 3, onIns_ref t2
  refine ⟨lk_names, far2, tri2, c2, n2, i2, j2, h2, kv2, rfl, t2, tc2, ks2, wd2, l2, ?_⟩
  have en : namesD h ++ namesD h2 = ((srtN h).map nm ++ (srtN h2).map nm).map D.str := by rw [List.map_append, List.map_map, List.map_map]; rfl
  have ln1 : (namesD h).length = h.length := by unfold namesD; rw [List.length_map, ls]
  have ln2 : (namesD h2).length = h2.length := by unfold namesD; rw [List.length_map, ls2]
  exists 3
  refine ⟨by omega, ?_⟩
  rw [en, e_onT, strsD_strs, e_onO]
  refine ⟨by rw [List.length_append, List.length_map, List.length_map]; omega, fun cnt cc => ?_⟩
  have ec : cnt = (addsN h (srtN h2)).length := by
    refine (cnt_len cc (nm_nd ndA wdA) fun y => ?_).trans (List.length_map _)
    rw [List.mem_append, List.mem_map, List.mem_map, List.mem_map]
    constructor
    · rintro ⟨a, ha, rfl⟩
      rcases (addsN_mem _ _).mp ha with e | e
      · exact .inl ⟨a, (srtN_perm h).mem_iff.mpr e, rfl⟩
      · exact .inr ⟨a, e, rfl⟩
    · rintro (⟨a, ha, rfl⟩ | ⟨a, ha, rfl⟩)
      · exact ⟨a, (addsN_mem _ _).mpr (.inl ((srtN_perm h).mem_iff.mp ha)), rfl⟩
      · exact ⟨a, (addsN_mem _ _).mpr (.inr ha), rfl⟩
  try dsimp only
  rw [e_seq]
  exists 3, onIns_ref T.t, lk_count
  refine iteF' (decide_eq_false (by omega)) ?_
  exists 3, onIns_ref t2
  refine ⟨lk_names, far2, tri2, c2, n2, i2, j2, h2, kv2, rfl, t2, tc2, ks2, wd2, l2, ?_⟩
  exists 3
  unfold namesD
  refine for_list (fun a : Nat => D.str (nm a)) (fun left r st' => ∃ (pre : List Nat) (x3 : Option D), srtN h2 = pre ++ left ∧ r = [some (.ref n), some (.ref n2), some (.int (cnt : Nat)), x3] ∧
    st' = (st.set j (.lst (entD (layF P R (addsN h pre))))).set i (.dK (putsN kvs pre (valN kv2)))) ?_ ?_ (srtN h2) _ _ ⟨[], none, rfl, rfl, ?_⟩
  · rintro a as r st' N hN ⟨pre, x3, e, rfl, rfl⟩
    have ha : a ∈ srtN h2 := by rw [e]; exact List.mem_append_right _ List.mem_cons_self
    have hm := (srtN_perm h2).mem_iff.mp ha
    have wa := wd2 a hm
    obtain ⟨v, wv, ev, ed⟩ := vo2.valN ks2 hm
    have wp : ∀ b ∈ pre, Wd b := fun b hb => wds2 b (by rw [e]; exact List.mem_append_left _ hb)
    have up : (addsN (addN (addsN h pre) a) as).length ≤ c := by
      have : addsN h (srtN h2) = addsN (addN (addsN h pre) a) as := by rw [e]; unfold addsN; rw [List.foldl_append]; rfl
      rw [← this]; exact room
    have up2 := addsN_le as (addN (addsN h pre) a)
    have few : a ∈ addsN h pre ∨ (addsN h pre).length < c := by
      by_cases q : a ∈ addsN h pre
      · exact .inl q
      · refine .inr ?_
        have ea : (addN (addsN h pre) a).length = (addsN h pre).length + 1 := by
          unfold addN
          rw [if_neg q, List.length_append]
          rfl
        omega
    have up3 : (addsN h pre).length ≤ c := by
      have : (addsN h pre).length ≤ (addN (addsN h pre) a).length := by
        unfold addN
        split
        · exact Nat.le_refl _
        · rw [List.length_append]; exact Nat.le_add_right _ _
      exact Nat.le_trans this (Nat.le_trans up2 up)
    have t2' : ∀ X Y : O, ((st.set j X).set i Y)[n2]? = some (.ins C (fsT far2 tri2 c2 i2 j2)) := fun X Y => by rw [List.getElem?_set_ne n2i, List.getElem?_set_ne n2j]; exact t2
    have tc2' : ∀ X Y : O, ((st.set j X).set i Y)[i2]? = some (.dK kv2) := fun X Y => by rw [List.getElem?_set_ne ii, List.getElem?_set_ne i2j]; exact tc2
    have T' : Tab C far tri c m n i j P R (addsN h pre) (putsN kvs pre (valN kv2)) ((st.set j (.lst (entD (layF P R (addsN h pre))))).set i (.dK (putsN kvs pre (valN kv2)))) := by
      refine ⟨?_, ?_, putsN_keys pre kvs h wp T.wd T.ks, ?_, W, ⟨addsN_nd pre h T.hh.nd, fun k hk => W.lt k (addsN_wd T.wd wp k hk), up3⟩, addsN_wd T.wd wp⟩
      · rw [List.getElem?_set_ne ni, List.getElem?_set_ne nj]; exact T.t
      · exact List.getElem?_set_self (by rw [List.length_set]; exact some_lt T.tc)
      · rw [List.getElem?_set_ne ij]; exact List.getElem?_set_self (some_lt T.te)
    exists 3, onIns_ref T'.t
    refine ⟨lk_put, ?_⟩
    rw [onIns_ref (t2' _ _)]
    refine ⟨lk_value_of, far2, tri2, c2, n2, i2, j2, kv2, nm a, _, rfl, t2' _ _, tc2' _ _, wa.1, ed, ?_⟩
    refine ⟨far, tri, c, m, n, i, j, P, R, addsN h pre, _, nm a, v, rfl, T', wa.1, wv, by rw [wa.2]; exact few, ?_⟩
    rw [wa.2, set2 ij]
    refine hN _ _ (.inl ⟨pre ++ [a], _, by rw [e]; simp, rfl, ?_⟩)
    unfold addsN putsN
    rw [List.foldl_append, List.foldl_append, ← ev]
    rfl
  · rintro r st' ⟨pre, x3, e, rfl, rfl⟩
    rw [List.append_nil] at e
    rw [← e]
    exists 3
    exact .inl q
  · show st = (st.set j (.lst (entD (layF P R h)))).set i (.dK kvs)
    rw [set_same T.te, set_same T.tc]
end
end DL
--ELX
--ELO
--ELP
--ELQ
namespace DL
open PySem PySem.Spec PyProof.Rows L2 LamX PySem.W SL
section
variable {C : Addr}
theorem made_at0 {st : DSt} {far tri : Bool} {c m : Nat} {P : List (List Int)} {R : List (List (List Int))} (S : Setg m c P R) : (st ++ [O.ins C []]).set st.length (O.ins C (fsT far tri c (st ++ [O.ins C []]).length ((st ++ [O.ins C []]).length + 1))) ++ [O.dK [], O.lst (List.replicate c (D.str ""))] = st ++ [O.ins C (fsT far tri c (st.length + 1) (st.length + 2)), .dK [], .lst (entD (layF P R []))] := by
  have e0 : List.replicate c (D.str "") = entD (layF P R []) := by
    have z : layF P R [] = emp c := by unfold layF layG; rw [S.rl]; rfl
    rw [z, entD_eq]
    unfold emp
    rw [List.map_replicate]
    rfl
  have el : (st ++ [O.ins C []]).length = st.length + 1 := by rw [List.length_append]; rfl
  rw [el, e0]
  simp
end
end DL
--ELX
--ELO
--ELP
--ELQ
namespace DL
open PySem PySem.Spec PyProof.Rows L2 LamX PySem.W SL
theorem valD_drop {kvs : List (Key × D)} {k k' : Key} (ne : k' ≠ k) : valD (dropD kvs k) k' = valD kvs k' := by
  unfold dropD
  induction kvs with
  | nil => rfl
  | cons p r ih =>
    by_cases e : p.1 = k
    · rw [List.filter_cons_of_neg (by simp [e]), ih, valD_cons, if_neg (fun z => ne (z.symm.trans e))]
    · rw [List.filter_cons_of_pos (by simp [e]), valD_cons, valD_cons, ih]
theorem delN_perm {h h' : List Nat} {a : Nat} (p : h.Perm h') : (delN h a).Perm (delN h' a) := p.filter _
theorem Agr.drop {h : List Nat} {kn kvs : List (Key × D)} {a : Nat} (g : Agr h kn kvs) (wd : ∀ b ∈ h, Wd b) (wa : Wd a) : Agr (delN h a) (dropD kn (.inr (nm a))) (dropD kvs (.inr (nm a))) := fun b hb => by
  obtain ⟨hb1, ne⟩ := delN_mem.mp hb
  obtain ⟨v, wv, e1, e2⟩ := g b hb1
  have nk : (.inr (nm b) : Key) ≠ .inr (nm a) := fun z => ne (((wd b hb1).inj wa).mp (Sum.inr.inj z))
  exact ⟨v, wv, by rw [valD_drop nk]; exact e1, by rw [valD_drop nk]; exact e2⟩
theorem Agr.puts {h h2 : List Nat} {kvs kv2 : List (Key × D)} (v1 : VOk kvs) (e1 : kvs.map (·.1) = keysT h) (v2 : VOk kv2) (e2 : kv2.map (·.1) = keysT h2) (w1 : ∀ a ∈ h, Wd a) (w2 : ∀ a ∈ h2, Wd a) {k1 k2 : List Nat} (p1 : k1.Perm h2) (p2 : k2.Perm h2) :
    Agr (addsN h k2) (putsN kvs k1 (valN kv2)) (putsN kvs k2 (valN kv2)) := fun a ha => by
  have wa := addsN_wd w1 (fun b hb => w2 b (p2.mem_iff.mp hb)) a ha
  rw [putsN_val wa k1 kvs fun b hb => w2 b (p1.mem_iff.mp hb), putsN_val wa k2 kvs fun b hb => w2 b (p2.mem_iff.mp hb)]
  by_cases q : a ∈ h2
  · rw [if_pos (p1.mem_iff.mpr q), if_pos (p2.mem_iff.mpr q)]
    obtain ⟨x, wx, ex, _⟩ := v2.valN e2 q
    exact ⟨x, wx, by rw [ex], by rw [ex]⟩
  · rw [if_neg fun z => q (p1.mem_iff.mp z), if_neg fun z => q (p2.mem_iff.mp z)]
    have ah : a ∈ h := ((addsN_mem k2 h).mp ha).elim id fun z => absurd (p2.mem_iff.mp z) q
    obtain ⟨x, wx, ex⟩ := v1.val (k := .inr (nm a)) (by rw [e1]; exact List.mem_map.mpr ⟨a, ah, rfl⟩)
    exact ⟨x, wx, ex, ex⟩
structure Two (C : Addr) (far tri far2 tri2 : Bool) (c m c2 m2 b j p k : Nat) (P P2 : List (List Int)) (R R2 : List (List (List Int))) (h h2 : List Nat) (kvs kv2 kn : List (Key × D)) (st S : DSt) : Prop where
  T1 : Tab C far tri c m b (b + 1) j P R h kvs S
  T2 : Tab C far2 tri2 c2 m2 (b + 4) (b + 5) (b + 6) P2 R2 h2 kv2 S
  q2 : S[b + 7]? = some (.dK kv2)
  q1 : S[b + 3]? = some (.dK kn)
  po : Pot k p S
  le : b + 8 ≤ S.length
  fr : ∀ x, x < b → x ≠ p → S[x]? = st[x]?
  v1 : VOk kvs
  v2 : VOk kv2
  pb : p < b
  bj : b ≤ j
  jn : j ≠ b + 6
section
variable {C : Addr} {far tri far2 tri2 : Bool} {c m c2 m2 b j p k : Nat} {P P2 : List (List Int)} {R R2 : List (List (List Int))} {h h2 : List Nat} {kvs kv2 kn : List (Key × D)} {st S : DSt}
theorem Two.pot {k' : Nat} {o : O} (W : Two C far tri far2 tri2 c m c2 m2 b j p k P P2 R R2 h h2 kvs kv2 kn st S) (po : PotO k' o) : Two C far tri far2 tri2 c m c2 m2 b j p k' P P2 R R2 h h2 kvs kv2 kn st (S.set p o) := by
  have pb := W.pb
  have bj := W.bj
  have ne : ∀ x, b ≤ x → (S.set p o)[x]? = S[x]? := fun x hx => List.getElem?_set_ne (by omega)
  exact ⟨W.T1.mv (ne _ (by omega)) (ne _ (by omega)) (ne _ bj), W.T2.mv (ne _ (by omega)) (ne _ (by omega)) (ne _ (by omega)), (ne _ (by omega)).trans W.q2, (ne _ (by omega)).trans W.q1, W.po.set2 po, by rw [List.length_set]; exact W.le, fun x hx np => by rw [List.getElem?_set_ne (fun e => np e.symm)]; exact W.fr x hx np, W.v1, W.v2, pb, bj, W.jn⟩
theorem Two.app {X : DSt} (W : Two C far tri far2 tri2 c m c2 m2 b j p k P P2 R R2 h h2 kvs kv2 kn st S) : Two C far tri far2 tri2 c m c2 m2 b j p k P P2 R R2 h h2 kvs kv2 kn st (S ++ X) := by
  have le := W.le
  exact ⟨W.T1.mv (app_at W.T1.t) (app_at W.T1.tc) (app_at W.T1.te), W.T2.mv (app_at W.T2.t) (app_at W.T2.tc) (app_at W.T2.te), (app_at W.q2).trans W.q2, (app_at W.q1).trans W.q1, W.po.app, by rw [List.length_append]; omega, fun x hx np => by rw [List.getElem?_append_left (by omega)]; exact W.fr x hx np, W.v1, W.v2, W.pb, W.bj, W.jn⟩
theorem Two.less {k' : Nat} (W : Two C far tri far2 tri2 c m c2 m2 b j p k P P2 R R2 h h2 kvs kv2 kn st S) (l : k' ≤ k) : Two C far tri far2 tri2 c m c2 m2 b j p k' P P2 R R2 h h2 kvs kv2 kn st S := { W with po := W.po.less l }
theorem Two.two (W : Two C far tri far2 tri2 c m c2 m2 b j p k P P2 R R2 h h2 kvs kv2 kn st S) {Q : DK} (l : h2.length < 64) (q : Q (.bl true) S) : g_sameT C [.ref (b + 4), .ref (b + 7), .int c2, kindD far2 tri2] S Q :=
  ⟨far2, tri2, c2, m2, _, _, _, _, P2, R2, h2, h2, kv2, kv2, rfl, W.T2, W.q2, by omega, W.T2.ks, .refl _, W.v2.agr W.T2.ks, l, q⟩
theorem Two.one (W : Two C far tri far2 tri2 c m c2 m2 b j p k P P2 R R2 h h2 kvs kv2 kn st S) {q : Nat} {hn : List Nat} {ke : List (Key × D)} (tq : S[q]? = some (.dK ke)) (qi : q ≠ b + 1) (ek : ke.map (·.1) = keysT hn) (pm : hn.Perm h) (ag : Agr h ke kvs) {Q : DK} (l : h.length < 64) (qq : Q (.bl true) S) : g_sameT C [.ref b, .ref q, .int c, kindD far tri] S Q :=
  ⟨far, tri, c, m, _, _, _, _, P, R, h, hn, kvs, ke, rfl, W.T1, tq, qi, ek, pm, ag, l, qq⟩
theorem Two.grow {c' m' : Nat} {P' : List (List Int)} {R' : List (List (List Int))} (W : Two C far tri far2 tri2 c m c2 m2 b j p k P P2 R R2 h h2 kvs kv2 kn st S) (W' : NmS far tri c' m' P' R') (few : h.length ≤ c') :
    Two C far tri far2 tri2 c' m' c2 m2 b S.length p k P' P2 R' R2 h h2 kvs kv2 kn st (S.set b (.ins C (fsT far tri c' (b + 1) S.length)) ++ [.lst (entD (layF P' R' h))]) := by
  have le := W.le
  have pb := W.pb
  have ap : ∀ (x : Nat), x < S.length → (S.set b (.ins C (fsT far tri c' (b + 1) S.length)) ++ [.lst (entD (layF P' R' h))])[x]? = (S.set b (.ins C (fsT far tri c' (b + 1) S.length)))[x]? := fun x hx => List.getElem?_append_left (by rw [List.length_set]; exact hx)
  have ne : ∀ x, x < S.length → x ≠ b → (S.set b (.ins C (fsT far tri c' (b + 1) S.length)) ++ [.lst (entD (layF P' R' h))])[x]? = S[x]? := fun x hx nb => by rw [ap x hx, List.getElem?_set_ne (fun e => nb e.symm)]
  refine ⟨⟨?_, ?_, W.T1.ks, ?_, W', ⟨W.T1.hh.nd, fun a ha => W'.lt a (W.T1.wd a ha), few⟩, W.T1.wd⟩, W.T2.mv (ne _ (by omega) (by omega)) (ne _ (by omega) (by omega)) (ne _ (by omega) (by omega)), (ne _ (by omega) (by omega)).trans W.q2, (ne _ (by omega) (by omega)).trans W.q1, ?_, by rw [List.length_append, List.length_set]; omega, fun x hx np => (ne x (by omega) (by omega)).trans (W.fr x hx np), W.v1, W.v2, pb, by omega, by omega⟩
  · rw [ap b (by omega)]; exact List.getElem?_set_self (by omega)
  · rw [ne _ (by omega) (by omega)]; exact W.T1.tc
  · rw [List.getElem?_append_right (by rw [List.length_set]; exact Nat.le_refl _), List.length_set, Nat.sub_self]; rfl
  · obtain ⟨o, e, po⟩ := W.po
    exact ⟨o, by rw [ne p (by omega) (by omega)]; exact e, po⟩
theorem Two.join (W : Two C far tri far2 tri2 c m c2 m2 b j p k P P2 R R2 h h2 kvs kv2 kn st S) (room : (addsN h (srtN h2)).length ≤ c) :
    Two C far tri far2 tri2 c m c2 m2 b j p k P P2 R R2 (addsN h (srtN h2)) h2 (putsN kvs (srtN h2) (valN kv2)) kv2 kn st ((S.set j (.lst (entD (layF P R (addsN h (srtN h2)))))).set (b + 1) (.dK (putsN kvs (srtN h2) (valN kv2)))) := by
  have le := W.le
  have pb := W.pb
  have bj := W.bj
  have jn := W.jn
  have T1 := W.T1
  have T2 := W.T2
  have wds2 : ∀ a ∈ srtN h2, Wd a := fun a ha => T2.wd a ((srtN_perm h2).mem_iff.mp ha)
  have j1 : j ≠ b := fun e => by have := T1.te; rw [e, T1.t] at this; cases this
  have j2 : j ≠ b + 1 := fun e => by have := T1.te; rw [e, T1.tc] at this; cases this
  have j3 : j ≠ b + 4 := fun e => by have := T1.te; rw [e, T2.t] at this; cases this
  have j4 : j ≠ b + 5 := fun e => by have := T1.te; rw [e, T2.tc] at this; cases this
  have j6 : j ≠ b + 3 := fun e => by have := T1.te; rw [e, W.q1] at this; cases this
  have j5 : j ≠ b + 7 := fun e => by have := T1.te; rw [e, W.q2] at this; cases this
  have ne : ∀ x, x ≠ j → x ≠ b + 1 → ((S.set j (.lst (entD (layF P R (addsN h (srtN h2)))))).set (b + 1) (.dK (putsN kvs (srtN h2) (valN kv2))))[x]? = S[x]? := fun x n1 n2 => by
    rw [List.getElem?_set_ne (fun e => n2 e.symm), List.getElem?_set_ne (fun e => n1 e.symm)]
  refine ⟨⟨?_, ?_, putsN_keys _ _ _ wds2 T1.wd T1.ks, ?_, T1.W, ⟨addsN_nd _ _ T1.hh.nd, fun a ha => T1.W.lt a (addsN_wd T1.wd wds2 a ha), room⟩, addsN_wd T1.wd wds2⟩, T2.mv (ne _ j3.symm (by omega)) (ne _ j4.symm (by omega)) (ne _ jn.symm (by omega)), (ne _ j5.symm (by omega)).trans W.q2, (ne _ j6.symm (by omega)).trans W.q1, ?_, by rw [List.length_set, List.length_set]; exact le, fun x hx np => (ne x (by omega) (by omega)).trans (W.fr x hx np), W.v1.puts _ _ fun a ha => ?_, W.v2, pb, bj, jn⟩
  · rw [ne _ j1.symm (by omega)]; exact T1.t
  · exact List.getElem?_set_self (by rw [List.length_set]; omega)
  · rw [List.getElem?_set_ne j2.symm]; exact List.getElem?_set_self (some_lt T1.te)
  · obtain ⟨o, e, po⟩ := W.po
    exact ⟨o, by rw [ne p (by omega) (by omega)]; exact e, po⟩
  · obtain ⟨x, wx, ex, _⟩ := W.v2.valN T2.ks ((srtN_perm h2).mem_iff.mp ha)
    exact ⟨x, wx, ex⟩
theorem Two.out {a : Nat} (W : Two C far tri far2 tri2 c m c2 m2 b j p k P P2 R R2 h h2 kvs kv2 kn st S) (ha : a ∈ h) :
    Two C far tri far2 tri2 c m c2 m2 b S.length p k P P2 R R2 (delN h a) h2 (dropD kvs (.inr (nm a))) kv2 kn st ((S.set (b + 1) (.dK (dropD kvs (.inr (nm a))))).set b (.ins C (fsT far tri c (b + 1) S.length)) ++ [.lst (entD (layF P R (delN h a)))]) := by
  have le := W.le
  have pb := W.pb
  have T1 := W.T1
  have wa := T1.wd a ha
  have kd := keys_drop T1.ks T1.wd wa.1
  rw [wa.2] at kd
  have ll : ((S.set (b + 1) (.dK (dropD kvs (.inr (nm a))))).set b (.ins C (fsT far tri c (b + 1) S.length))).length = S.length := by rw [List.length_set, List.length_set]
  have ap : ∀ (x : Nat), x < S.length → ((S.set (b + 1) (.dK (dropD kvs (.inr (nm a))))).set b (.ins C (fsT far tri c (b + 1) S.length)) ++ [.lst (entD (layF P R (delN h a)))])[x]? = ((S.set (b + 1) (.dK (dropD kvs (.inr (nm a))))).set b (.ins C (fsT far tri c (b + 1) S.length)))[x]? := fun x hx => List.getElem?_append_left (by rw [ll]; exact hx)
  have ne : ∀ x, x < S.length → x ≠ b → x ≠ b + 1 → ((S.set (b + 1) (.dK (dropD kvs (.inr (nm a))))).set b (.ins C (fsT far tri c (b + 1) S.length)) ++ [.lst (entD (layF P R (delN h a)))])[x]? = S[x]? := fun x hx n1 n2 => by
    rw [ap x hx, List.getElem?_set_ne (fun e => n1 e.symm), List.getElem?_set_ne (fun e => n2 e.symm)]
  refine ⟨⟨?_, ?_, kd, ?_, T1.W, delN_hist T1.hh, fun x hx => T1.wd x (delN_mem.mp hx).1⟩, W.T2.mv (ne _ (by omega) (by omega) (by omega)) (ne _ (by omega) (by omega) (by omega)) (ne _ (by omega) (by omega) (by omega)), (ne _ (by omega) (by omega) (by omega)).trans W.q2, (ne _ (by omega) (by omega) (by omega)).trans W.q1, ?_, by rw [List.length_append, ll]; omega, fun x hx np => (ne x (by omega) (by omega) (by omega)).trans (W.fr x hx np), W.v1.drop, W.v2, pb, by omega, by omega⟩
  · rw [ap b (by omega)]; exact List.getElem?_set_self (by rw [List.length_set]; omega)
  · rw [ap _ (by omega), List.getElem?_set_ne (by omega)]; exact List.getElem?_set_self (by omega)
  · rw [List.getElem?_append_right (by rw [ll]; exact Nat.le_refl _), ll, Nat.sub_self]; rfl
  · obtain ⟨o, e, po⟩ := W.po
    exact ⟨o, by rw [ne p (by omega) (by omega) (by omega)]; exact e, po⟩
end
end DL
--ELX
--ELO
--ELP
--ELQ
namespace DL
open PySem PySem.Spec PyProof.Rows L2 LamX PySem.W SL
section
variable {C : Addr}
theorem Kst.base {far tri : Bool} {c m n i j q p k : Nat} {P : List (List Int)} {R : List (List (List Int))} {h : List Nat} {kvs : List (Key × D)} {st S : DSt} {o : O} {B : Nat} (K : Kst C far tri c m n i j q p k B P R h kvs (st.set p o) S) : Kst C far tri c m n i j q p k B P R h kvs st S :=
  { K with le := by have := K.le; rw [List.length_set] at this; exact this, fr := fun x hx np => (K.fr x hx np).trans (List.getElem?_set_ne (fun e => np e.symm)) }
theorem Two.wr {far tri far2 tri2 : Bool} {c m c2 m2 b j p k e : Nat} {P P2 : List (List Int)} {R R2 : List (List (List Int))} {h h2 : List Nat} {kvs kv2 kn ke ke' : List (Key × D)} {st S : DSt} (W : Two C far tri far2 tri2 c m c2 m2 b j p k P P2 R R2 h h2 kvs kv2 kn st S) (be : b + 8 ≤ e) (bb : b < e) (eS : S[e]? = some (.dK ke)) :
    Two C far tri far2 tri2 c m c2 m2 b j p k P P2 R R2 h h2 kvs kv2 kn st (S.set e (.dK ke')) := by
  have pb := W.pb
  have je : j ≠ e := fun z => by have := W.T1.te; rw [z, eS] at this; cases this
  have ne : ∀ x, x ≠ e → (S.set e (.dK ke'))[x]? = S[x]? := fun x hx => List.getElem?_set_ne (fun z => hx z.symm)
  refine ⟨W.T1.mv (ne _ (by omega)) (ne _ (by omega)) (ne _ je), W.T2.mv (ne _ (by omega)) (ne _ (by omega)) (ne _ (by omega)), (ne _ (by omega)).trans W.q2, (ne _ (by omega)).trans W.q1, ?_, by rw [List.length_set]; exact W.le, fun x hx np => (ne x (by omega)).trans (W.fr x hx np), W.v1, W.v2, pb, W.bj, W.jn⟩
  obtain ⟨o, eo, po⟩ := W.po
  exact ⟨o, (ne p (by omega)).trans eo, po⟩
end
end DL
--ELX
--ELO
--ELP
--ELQ
namespace DL
open PySem PySem.Spec PyProof.Rows L2 LamX PySem.W SL
section
variable {C : Addr}
end
end DL
namespace SL
open PySem PySem.Spec PyProof.Rows L2 PySem.W
section
variable {prog : Program} {w : World} {A : Around} {E : Value → Shared → Prop} {s : Shared} {K : Frag} {x C L f : Addr} {h₀ : Heap} {m : Str → Option Value} {ox : Obj} {od : Option Obj} {b tb : Value}
theorem looks_ref {M : Model} {h : Heap} {a : Addr} {o : Obj} (e : h.get? a = some o) : Looks M h (typeOf (.ref a)) o.cls := (Looks.ld e).andThen .now
theorem objNe_K {Q : Fin → Shared → Prop} (hu : A.units < cLine) (X : K.In s.heap) (I : InstAt s.heap x ox C od) (heq : findIn K (.ref C) "__eq__" = some (some (.ref f))) (hf : isFn K (.ref f) = true)
    (h : wpAny (model prog w) A (call (.ref f) [.ref x, b]) (fun v s' => ∃ c, v = .bool c ∧ Q (.done (.ret (.bool (!c)))) s') E s) : wpAny (model prog w) A (Builtin.«object.__ne__» ⟨[.ref x, b], []⟩) Q E s := by
  unfold Builtin.«object.__ne__»
  repeat (first
    | with_reducible refine wpAny_cRoomFor hu ?_
    | (refine wpAny_bind (m := callSpecialIfBound? (.ref x) (Str.ofString "__eq__") [b]) (ifBound_K X I heq hf (wpAny_mono h (fun r s' hr => by
          obtain ⟨c, rfl, hq⟩ := hr
          repeat (first | exact hq | exact wpAny_pure hq | exact wpAny_truthy_bool hq | (refine wpAny_bind (m := truthy (.bool _)) (wpAny_truthy_bool ?_)) | wp_step)) fun _ _ e => e)))
    | wp_step)
theorem tryNe_K {Q : Option Value → Shared → Prop} (hu : A.units + 1 < cLine) (X : K.In s.heap) (I : InstAt s.heap x ox C od) (hne : findIn K (.ref C) "__ne__" = some (some (.builtin "object.__ne__"))) (hob : subIn K (.ref C) (.type "object") = some true)
    (heq : findIn K (.ref C) "__eq__" = some (some (.ref f))) (hf : isFn K (.ref f) = true)
    (h : wpAny (model prog w) A.in1 (call (.ref f) [.ref x, b]) (fun v s' => ∃ c, v = .bool c ∧ Q (some (.bool (!c))) s') E s) : wpAny (model prog w) A (tryCompare (.ref x) "__ne__" b) Q E s := by
  have FB := PySem.F.cmp_object
  have go : wpAny (model prog w) A (call (.builtin "object.__ne__") [.ref x, b]) (fun v s' => ∃ c, v = .bool c ∧ Q (some v) s') E s := by
    refine wpAny_call (codeAny_call_builtin FB.ne.plain PySem.F.cmpEntry_ne (check_slot PySem.F.cmpKind_ne PySem.F.cmpSplit_ne (I.type.andThen (looks_subIn X hob)) (PySem.F.cmpArgs_ne _ _) (objNe_K (A := A.in1) hu X I heq hf (wpAny_mono h (fun v s' hv => ?_) fun _ _ e => e))))
    obtain ⟨c, rfl, q⟩ := hv
    exact ⟨c, rfl, _, rfl, q⟩
  unfold tryCompare
  have fin : wpAny (model prog w) A (call (.builtin "object.__ne__") ([.ref x] ++ [b]) >>= fun v => pure (some v)) (fun r s' => ∃ c, r = some (.bool c) ∧ Q (some (.bool c)) s') E s :=
    wpAny_bind (wpAny_mono go (fun v s' hv => by obtain ⟨c, rfl, q⟩ := hv; exact wpAny_pure ⟨c, rfl, q⟩) fun _ _ e => e)
  have one : wpAny (model prog w) A (callSpecialIfBound? (.ref x) "__ne__" [b]) (fun r s' => ∃ c, r = some (.bool c) ∧ Q (some (.bool c)) s') E s := by
    simp only [callSpecialIfBound?, bindSpecialIfBound?]
    refine wpAny_holding (wpAny_bind (wpAny_bind (wpAny_bind (I.type.here ((looks_findIn X hne).here ?_)))))
    simp only [FB.ne.bind]
    refine wpAny_bind (wpAny_askSetting (wpAny_ite ?_))
    split
    · exact wpAny_bind (wpAny_pure (wpAny_pure (by exact fin)))
    · exact wpAny_tryCatch (wpAny_bind (wpAny_pure (wpAny_pure (by exact fin))))
  refine wpAny_bind (wpAny_mono one (fun r s' hr => ?_) fun _ _ e => e)
  obtain ⟨c, rfl, q⟩ := hr
  exact wpAny_pure q
theorem ne_K {Q : Value → Shared → Prop} (hu : A.units + 1 < cLine) (F : Fr h₀ L s.heap m) (X₀ : K.In h₀) (I : InstAt s.heap x ox C od) (hb : Looks (model prog w) s.heap (typeOf b) tb) (hn : notFirst K C tb = true)
    (hne : findIn K (.ref C) "__ne__" = some (some (.builtin "object.__ne__"))) (hob : subIn K (.ref C) (.type "object") = some true) (heq : findIn K (.ref C) "__eq__" = some (some (.ref f))) (hf : isFn K (.ref f) = true)
    (h : wpAny (model prog w) A.in1 (call (.ref f) [.ref x, b]) (fun v s' => ∃ c, v = .bool c ∧ Q (.bool (!c)) s') E s) : wpAny (model prog w) A (richCompare .NotEq (.ref x) b) Q E s := by
  have X := X₀.keeps F.keep
  have one : wpAny (model prog w) A (tryCompare (.ref x) "__ne__" b) (fun r s' => ∃ v, r = some v ∧ v ≠ .notImplemented ∧ Q v s') E s :=
    tryNe_K hu X I hne hob heq hf (wpAny_mono h (fun v s' hv => by obtain ⟨c, rfl, q⟩ := hv; exact ⟨c, rfl, _, rfl, (fun z => nomatch z), q⟩) fun _ _ e => e)
  unfold richCompare
  simp only [oneThing_ref]
  refine wpAny_holding (wpAny_bind (wpAny_cRoomFor (Nat.lt_of_succ_lt hu) ?_))
  refine wpAny_bind (I.type.here (wpAny_bind (hb.here ?_)))
  split
  · rename_i q
    have e : subIn K tb (.ref C) = some false := by
      rcases Bool.or_eq_true_iff.mp hn with e | e
      · rw [beq_iff_eq.mp e] at q; simp at q
      · exact beq_iff_eq.mp e
    refine wpAny_bind ((looks_subIn X e).here ?_)
    simp only [Bool.false_eq_true, if_false]
    refine wpAny_bind (wpAny_mono one (fun r s' z => ?_) fun _ _ e => e)
    obtain ⟨v, rfl, nv, hq⟩ := z
    cases v <;> first | exact absurd rfl nv | exact wpAny_pure hq
  · refine wpAny_bind (wpAny_pure ?_)
    simp only [Bool.false_eq_true, if_false]
    refine wpAny_bind (wpAny_mono one (fun r s' z => ?_) fun _ _ e => e)
    obtain ⟨v, rfl, nv, hq⟩ := z
    cases v <;> first | exact absurd rfl nv | exact wpAny_pure hq
end
structure IsC (K : Frag) (C : Addr) : Prop where
  cl : Cls K C
  ha : findIn K (.ref C) "__class__" = some (some (.builtin "object.__class__"))
  hn : specialIn K (.builtin "object.__class__") "__get__" = some (some (.builtin "getset_descriptor.__get__"))
  htk : takesIn K (.builtin "object.__class__") = some true
  hm : mroIn K C (.type "object") = some true
  k1 : kitOne K (.ref C) (.ref C) = some true
  k2 : kitOne K (.type "dict") (.ref C) = some false
  k3 : kitOne K (.type "int") (.ref C) = some false
  k4 : kitOne K (.type "tuple") (.ref C) = some false
  ne : findIn K (.ref C) "__ne__" = some (some (.builtin "object.__ne__"))
  ob : subIn K (.ref C) (.type "object") = some true
  n2 : notFirst K C (.type "dict") = true
  n3 : notFirst K C (.type "int") = true
  n4 : notFirst K C (.type "tuple") = true
theorem kit_tyc {K : Frag} {D : Addr} {T : String} (h1 : hasDictIn K D = true) (h2 : typeIn K (.ref D) = some (.type "type")) (h3 : subIn K (.type T) (.ref D) = some false) : kitOne K (.type T) (.ref D) = some false := by
  have n2 : ((Value.type T) == Value.ref D) = false := by simp
  have i1 : (clsIn K D).isSome = true := by
    unfold hasDictIn at h1
    cases h : clsIn K D with
    | none => rw [h] at h1; cases h1
    | some _ => rfl
  unfold kitOne
  rw [n2, if_neg Bool.false_ne_true]
  show (if ((clsIn K D).isSome && typeIn K (.ref D) == some (.type "type")) = true then subIn K (.type T) (.ref D) else none) = some false
  rw [i1, h2, if_pos (by simp)]
  exact h3
theorem isC_mk {K : Frag} {C : Addr} (cl : Cls K C) (ty : typeIn K (.ref C) = some (.type "type")) (ha : findIn K (.ref C) "__class__" = some (some (.builtin "object.__class__"))) (ob : subIn K (.ref C) (.type "object") = some true)
    (ne : findIn K (.ref C) "__ne__" = some (some (.builtin "object.__ne__"))) : IsC K C := by
  have s2 : subIn K (.type "dict") (.ref C) = some false := by first | rfl | kernel_rfl
  have s3 : subIn K (.type "int") (.ref C) = some false := by first | rfl | kernel_rfl
  have s4 : subIn K (.type "tuple") (.ref C) = some false := by first | rfl | kernel_rfl
  exact ⟨cl, ha, by first | rfl | kernel_rfl, by first | rfl | kernel_rfl, ob, by unfold kitOne; simp, kit_tyc cl.hd ty s2, kit_tyc cl.hd ty s3, kit_tyc cl.hd ty s4, ne, ob, by unfold notFirst; rw [s2]; simp, by unfold notFirst; rw [s3]; simp, by unfold notFirst; rw [s4]; simp⟩
inductive TyB (K : Frag) (C : Addr) (H : Hp) : V → Value → Bool → Prop where
  | ins {a dx : Addr} {fs : List (Str × V)} (e : H a = some (.ins C dx fs)) : TyB K C H (.ref a) (.ref C) true
  | int (i : Int) : TyB K C H (.int i) (.type "int") false
  | dK {a : Addr} {kvs : List (Key × V)} (e : H a = some (.dK kvs)) : TyB K C H (.ref a) (.type "dict") false
  | tup {a : Addr} {o : Obj} {xs : List V} (e : H a = some (.frz o (.tup xs))) : TyB K C H (.ref a) (.type "tuple") false
theorem TyB.x {K : Frag} {C : Addr} {H : Hp} {v : V} {t : Value} {b : Bool} (ic : IsC K C) (h : TyB K C H v t b) : TyX K H v t ∧ kitOne K t (.ref C) = some b ∧ notFirst K C t = true := by
  cases h with
  | ins e => exact ⟨.base (.ins e ic.cl ic.ha ic.hn ic.htk ic.hm), ic.k1, by simp [notFirst]⟩
  | int i => exact ⟨.base (.int i), ic.k3, ic.n3⟩
  | dK e => exact ⟨.base (.dK e), ic.k2, ic.n2⟩
  | tup e => exact ⟨.fTuple e, ic.k4, ic.n4⟩
section
variable {X : Cx} {k : Nat} {f C : Addr} {fd : FuncData} {ps : List Str} {sp : Sp}
theorem TyB.looks {pins : List (Addr × Obj)} {σ : L2.St} {H : Hp} {s : Shared} {v : V} {u t : Value} {b : Bool} (I : Inv X pins σ H s) (r : RelV v u) (h : TyB X.K C H v t b) : Looks (model X.prog X.w) s.heap (typeOf u) t := by
  cases h with
  | ins e =>
    cases r
    obtain ⟨m, J, _⟩ := ins_get I.hok e
    obtain ⟨od, J, _⟩ := J.look
    exact J.type
  | int i =>
    obtain ⟨t, rfl⟩ : ∃ t, u = .int i t := r
    exact Looks.of_pure rfl
  | dK e =>
    cases r
    obtain ⟨_, _, vs, _, dd⟩ := dk_rd I.hok (.inl e)
    obtain ⟨o, ho, hc⟩ := dd.typeIs (s := s)
    rw [← hc]
    exact looks_ref ho
  | tup e =>
    cases r
    obtain ⟨its, rv, ⟨o, ho, hc, _⟩, hz⟩ := I.tuple (.inl (.inr ⟨_, e⟩))
    rw [← hc]
    exact looks_ref ho
def rEqO (neg : Bool) (K : Frag) (C : Addr) (sp : Sp) : R2 := fun x y H Q => ∃ a dx fs t b, x = .ref a ∧ H a = some (.ins C dx fs) ∧ TyB K C H y t b ∧ sp [x, y] H (fun v H' => ∃ c, v = .bl c ∧ Q (.bl (if neg then !c else c)) H') E0
theorem op_eqO (ic : IsC X.K C) (hm : Meth X.K C "__eq__" f) (F : FnG X.prog X.w X.K X.mg X.base k f fd ps sp) (gd : X.A.guards = some []) (room : Room (k + 1) X.A) (bd : Binds X.K fd ps []) : OpR X (compareOp .Eq) (rEqO false X.K C sp) := by
  intro pins s σ H x y v u Q I rx ry h
  obtain ⟨a, dx, fs, t, b, rfl, ea, ty, h⟩ := h
  have lk := ty.looks I ry
  have nf := (ty.x ic).2.2
  have rr : Vals [V.ref a, y] [v, u] := .cons rx (.cons ry .nil)
  cases rx
  obtain ⟨mA, J, _⟩ := ins_get I.hok ea
  obtain ⟨od, J, _⟩ := J.look
  obtain ⟨m, hF⟩ := I.fr
  refine cmp_K (op := .Eq) room.units0 hF I.ok.mod.kin J lk nf hm.at_ hm.fn (thn (run_fnG (us := [.ref a, u]) (vs := [.ref a, y]) F gd (room.mono (Nat.le_succ _)) bd I rr h) ?_)
  rintro w s1 ⟨z, H1, I1, rz, c, rfl, q⟩
  cases rz
  exact ⟨.bl c, H1, I1, rfl, q⟩
theorem op_neO (ic : IsC X.K C) (hm : Meth X.K C "__eq__" f) (F : FnG X.prog X.w X.K X.mg X.base k f fd ps sp) (gd : X.A.guards = some []) (room : Room (k + 1) X.A) (bd : Binds X.K fd ps []) : OpR X (compareOp .NotEq) (rEqO true X.K C sp) := by
  intro pins s σ H x y v u Q I rx ry h
  obtain ⟨a, dx, fs, t, b, rfl, ea, ty, h⟩ := h
  have lk := ty.looks I ry
  have nf := (ty.x ic).2.2
  have rr : Vals [V.ref a, y] [v, u] := .cons rx (.cons ry .nil)
  cases rx
  obtain ⟨mA, J, _⟩ := ins_get I.hok ea
  obtain ⟨od, J, _⟩ := J.look
  obtain ⟨m, hF⟩ := I.fr
  refine ne_K (by have := room.units; omega) hF I.ok.mod.kin J lk nf ic.ne ic.ob hm.at_ hm.fn (thn (run_fnG1 (us := [.ref a, u]) (vs := [.ref a, y]) F gd room bd I rr h) ?_)
  rintro w s1 ⟨z, H1, I1, rz, c, rfl, q⟩
  cases rz
  exact ⟨c, rfl, .bl (!c), H1, I1, rfl, q⟩
def rIsO (K : Frag) (C : Addr) : List V → Hp → VK → Prop := fun xs H Q => ∃ x t b, xs = [x, .ref C] ∧ TyB K C H x t b ∧ Q (.bl b) H
theorem call_isO (ic : IsC X.K C) : CallR X (.builtin "isinstance") (rIsO X.K C) := by
  intro pins s σ H xs us Q I r h
  obtain ⟨x, t, b, rfl, ty, q⟩ := h
  obtain ⟨tx, kx, _⟩ := ty.x ic
  exact call_isi pins s σ H _ us Q I r ⟨x, .ref C, t, .ref C, b, rfl, .own C, tx, kx, q⟩
theorem pe_isO {e : Expr} {ta : TE} {cN : Str} {p q pos : Pos} (ic : IsC X.K C) (gi : Gl X "isinstance") (mi : X.mg "isinstance" = none) (gl : Gl X cN) (at_ : X.mg cN = some (.ref C)) (he : PE X e ta) (hdb : (cN == ("__debug__" : Str)) = false := by decide)
    (hs : starEach [e, .Name cN q] X.env = (false, eval e X.env) :: starEach [.Name cN q] X.env := by rfl) (hs2 : starEach [.Name cN q] X.env = (false, eval (.Name cN q) X.env) :: starEach [] X.env := by rfl) (hpl : (backTo pos (starEach [.Name cN q] X.env)).any (·.1) = false := by rfl) :
    PE X (.Call (.Name "isinstance" p) [e, .Name cN q] [] pos) (fun σ H Q => ta σ H fun x H1 => rIsO X.K C [x, .ref C] H1 Q) :=
  pe_callB (call_isO ic) gi mi (by decide +kernel) (pa_cons he (pa_cons (pe_glob (v := .ref C) gl at_ (show RelV (.ref C) (.ref C) from rfl) hdb) pa_nil hs2) hs) (by decide) (by decide) hs hpl
end
end SL
namespace DL
open PySem PySem.Spec PyProof.Rows L2 LamX PySem.W SL
section
variable {T : List (Addr × Str)} {X : Cx} {K : Frag} {C : Addr} {e : Expr} {fe : DTE}
def TyD (C : Addr) (st : DSt) : D → Prop
  | .ref n => match st[n]? with | some (.ins C' _) => C' = C | some (.dK _) => True | _ => False
  | .int _ => True
  | .tup _ => True
  | _ => False
def isTab (st : DSt) : D → Bool
  | .ref n => match st[n]? with | some (.ins _ _) => true | _ => false
  | _ => false
theorem tyB_rd {M : Pl} {H : Hp} {st : DSt} {d : D} {v : V} (s : RS T K M st H) (r : RV K M H d v) (h : TyD C st d) : ∃ t, TyB K C H v t (isTab st d) := by
  cases d with
  | int i => cases r; exact ⟨_, .int i⟩
  | tup xs => cases r with | tup n e0 e3 rs => exact ⟨_, .tup e0⟩
  | ref n =>
    unfold TyD at h
    unfold isTab
    simp only at h ⊢
    split at h
    · rename_i C' fs e
      subst h
      obtain ⟨p, dx, ys, rfl, hm, ha, _⟩ := ins_rd s r e
      rw [e]
      exact ⟨_, .ins ha⟩
    · rename_i kvs e
      obtain ⟨p, ys, rfl, hm, hp, _⟩ := onDk.rd s r e
      rw [e]
      exact ⟨_, .dK hp⟩
    · exact h.elim
  | _ => exact h.elim
def dIsO (C : Addr) (fe : DTE) : DTE := fun r st Q => fe r st fun x st1 => TyD C st1 x ∧ Q (.bl (isTab st1 x)) st1
theorem de_isO {cN : Str} {p q pos : Pos} (ic : IsC X.K C) (gi : Gl X "isinstance") (mi : X.mg "isinstance" = none) (gl : Gl X cN) (at_ : X.mg cN = some (.ref C)) (he : DE T X e fe) (hdb : (cN == ("__debug__" : Str)) = false := by decide)
    (hs : starEach [e, .Name cN q] X.env = (false, eval e X.env) :: starEach [.Name cN q] X.env := by rfl) (hs2 : starEach [.Name cN q] X.env = (false, eval (.Name cN q) X.env) :: starEach [] X.env := by rfl) (hpl : (backTo pos (starEach [.Name cN q] X.env)).any (·.1) = false := by rfl) :
    DE T X (.Call (.Name "isinstance" p) [e, .Name cN q] [] pos) (dIsO C fe) :=
  PE.imp (pe_isO ic gi mi gl at_ he hdb hs hs2 hpl) fun σ H Q ⟨M, r, st, Q', s, re, h, k⟩ => ⟨M, r, st, _, s, re, h, fun M1 H1 st1 x vx g1 s1 r1 h1 => by
    obtain ⟨ty, q1⟩ := h1
    obtain ⟨t, tb⟩ := tyB_rd s1 r1 ty
    exact ⟨vx, t, _, rfl, tb, (k.grow g1).here s1 (.bl _) q1⟩⟩
def dEqO (neg : Bool) (C : Addr) (g : DRs) : DR2 := fun x y st Q => onIns C st x fun _ _ => TyD C st y ∧ g [x, y] st fun v st1 => ∃ c, v = .bl c ∧ Q (.bl (if neg then !c else c)) st1
theorem opD_eqO {neg : Bool} {g : DRs} {n : Nat} (ng : ∀ ds st Q, g ds st Q → ds.length = n) : OpD T K (rEqO neg K C (spD T K n g)) (dEqO neg C g) := by
  intro M H st x y vx vy Q' Q s rx ry h k
  obtain ⟨m, fs, rfl, e, ty, h⟩ := onIns.of h
  obtain ⟨t, tb⟩ := tyB_rd s ry ty
  obtain ⟨p, dx, ys, rfl, hm, ha, e3, rs⟩ := ins_rd s rx e
  refine ⟨p, dx, ys, t, _, rfl, ha, tb, by show 2 = n; exact ng _ _ _ h, M, st, _, _, s, .cons rx (.cons ry .nil), h, fun M1 H1 st1 d w g1 s1 r1 h1 => ?_⟩
  obtain ⟨c, rfl, q⟩ := h1
  cases r1
  exact ⟨c, rfl, k M1 H1 st1 _ _ g1 s1 (.bl _) q⟩
end
section
variable {fe : DTE} {r : DEnv} {st : DSt} {Q : DK} {x y : D} {C : Addr} {g : DRs} {neg : Bool}
@[simp] theorem e_isO : dIsO C fe r st Q = fe r st fun x st1 => TyD C st1 x ∧ Q (.bl (isTab st1 x)) st1 := rfl
@[simp] theorem e_eqO : dEqO neg C g x y st Q = onIns C st x fun _ _ => TyD C st y ∧ g [x, y] st fun v st1 => ∃ c, v = .bl c ∧ Q (.bl (if neg then !c else c)) st1 := rfl
end
end DL
local macro_rules
  | `(tactic| exists 2) => `(tactic| try simp only [DL.e_var, DL.e_C, DL.e_op, DL.e_neg, DL.e_isN, DL.e_notN, DL.e_and, DL.e_or, DL.e_not, DL.e_test, DL.e_tAnd, DL.e_tOr, DL.e_tNot, DL.e_tYes, DL.e_if, DL.e_aNil, DL.e_aCons, DL.e_tup, DL.e_lst, DL.e_lstN, DL.e_len0, DL.e_len1, DL.e_len2, DL.e_len3, DL.e_len4, DL.e_len5, DL.e_cb, DL.e_on1, DL.e_on2, DL.e_onI, DL.e_onB, DL.e_onO, DL.e_onO0, DL.e_onOO, DL.e_I0, DL.e_I, DL.e_add, DL.e_addT, DL.e_addS, DL.e_addL, DL.e_addLR, DL.e_addRL, DL.e_addRR, DL.e_mul, DL.e_mulL, DL.e_mulT, DL.e_rev, DL.e_revT, DL.e_ix, DL.e_eqI, DL.e_eqS, DL.e_eqB, DL.e_neI, DL.e_neS, DL.e_neB, DL.e_ltI, DL.e_chain, DL.e_len, DL.e_abs, DL.e_2I, DL.e_tuple1, DL.e_tuple2, DL.e_tuple3, DL.e_listT, DL.e_listN, DL.e_allR, DL.e_seqT, DL.e_seqK, DL.e_seqL, DL.e_isi, DL.e_isB, DL.e_notB, DL.e_truth, DL.e_next, DL.e_drop, DL.e_ret, DL.e_retN, DL.e_ifS, DL.e_set, DL.e_asg, DL.e_par, DL.e_nm, DL.e_gsN, DL.e_gsC, DL.e_gTpK, DL.e_gTpL, DL.e_sum, DL.e_maxL, DL.e_minL, DL.e_maxDef, DL.e_int, DL.e_intB, DL.e_aug, DL.e_on3, DL.e_par3, DL.e_newK, DL.e_getK, DL.e_keyI, DL.e_keyS, DL.e_inK, DL.e_ninK, DL.e_putK, DL.e_lenK, DL.e_lstS, DL.e_seqX, DL.e_gTpT, DL.e_oN, DL.e_oS, DL.e_sl, DL.e_slT, DL.e_slL, DL.e_finT, DL.e_finN, DL.e_index, DL.e_idxT, DL.e_idxL, DL.e_mIx, DL.e_ixST, DL.e_ixSL, DL.e_mtL, DL.e_w, DL.e_w1, DL.e_w2, DL.e_wE, DL.e_wZ, DL.e_itK, DL.e_itT, DL.e_itL, DL.e_itT2, DL.e_itL2, DL.e_lc, DL.e_for, DL.e_wipe0, DL.e_wipe, DL.e_okI, DL.e_okR, DL.e_gSb, List.getElem?_cons_zero, List.getElem?_cons_succ, List.set_cons_zero, List.set_cons_succ, DL.e_getD, DL.e_get1, DL.e_lockK, DL.e_dlockK, DL.e_wItemsK, DL.e_wKeysK, DL.e_getR, DL.e_inR, DL.e_ninR, DL.e_dictP, DL.e_sortTs, DL.e_maxTs, DL.e_pop, DL.e_lenSetL, DL.e_gSbK, DL.e_isO, DL.e_eqO, DL.e_lenSetS, DL.e_updK, DL.e_dictC, DL.e_popK, DL.e_eqT, DL.e_lenO, DL.e_fld, DL.e_sFld, DL.e_meth, DL.e_mk, DL.e_onS, DL.e_ixAS, DL.e_ixAT, DL.e_ixAK, DL.e_ixAL, DL.e_ixAR, DL.e_lenAS, DL.e_lenAT, DL.e_lenAK, DL.e_lenAL, DL.e_lenAR, DL.e_wStr, DL.e_join, DL.e_sidx, DL.e_ltS, DL.e_inS, DL.e_addSS, DL.e_sortKS, DL.e_mIndexS])
  | `(tactic| exists 2, $es,*) => `(tactic| try simp only [DL.e_var, DL.e_C, DL.e_op, DL.e_neg, DL.e_isN, DL.e_notN, DL.e_and, DL.e_or, DL.e_not, DL.e_test, DL.e_tAnd, DL.e_tOr, DL.e_tNot, DL.e_tYes, DL.e_if, DL.e_aNil, DL.e_aCons, DL.e_tup, DL.e_lst, DL.e_lstN, DL.e_len0, DL.e_len1, DL.e_len2, DL.e_len3, DL.e_len4, DL.e_len5, DL.e_cb, DL.e_on1, DL.e_on2, DL.e_onI, DL.e_onB, DL.e_onO, DL.e_onO0, DL.e_onOO, DL.e_I0, DL.e_I, DL.e_add, DL.e_addT, DL.e_addS, DL.e_addL, DL.e_addLR, DL.e_addRL, DL.e_addRR, DL.e_mul, DL.e_mulL, DL.e_mulT, DL.e_rev, DL.e_revT, DL.e_ix, DL.e_eqI, DL.e_eqS, DL.e_eqB, DL.e_neI, DL.e_neS, DL.e_neB, DL.e_ltI, DL.e_chain, DL.e_len, DL.e_abs, DL.e_2I, DL.e_tuple1, DL.e_tuple2, DL.e_tuple3, DL.e_listT, DL.e_listN, DL.e_allR, DL.e_seqT, DL.e_seqK, DL.e_seqL, DL.e_isi, DL.e_isB, DL.e_notB, DL.e_truth, DL.e_next, DL.e_drop, DL.e_ret, DL.e_retN, DL.e_ifS, DL.e_set, DL.e_asg, DL.e_par, DL.e_nm, DL.e_gsN, DL.e_gsC, DL.e_gTpK, DL.e_gTpL, DL.e_sum, DL.e_maxL, DL.e_minL, DL.e_maxDef, DL.e_int, DL.e_intB, DL.e_aug, DL.e_on3, DL.e_par3, DL.e_newK, DL.e_getK, DL.e_keyI, DL.e_keyS, DL.e_inK, DL.e_ninK, DL.e_putK, DL.e_lenK, DL.e_lstS, DL.e_seqX, DL.e_gTpT, DL.e_oN, DL.e_oS, DL.e_sl, DL.e_slT, DL.e_slL, DL.e_finT, DL.e_finN, DL.e_index, DL.e_idxT, DL.e_idxL, DL.e_mIx, DL.e_ixST, DL.e_ixSL, DL.e_mtL, DL.e_w, DL.e_w1, DL.e_w2, DL.e_wE, DL.e_wZ, DL.e_itK, DL.e_itT, DL.e_itL, DL.e_itT2, DL.e_itL2, DL.e_lc, DL.e_for, DL.e_wipe0, DL.e_wipe, DL.e_okI, DL.e_okR, DL.e_gSb, List.getElem?_cons_zero, List.getElem?_cons_succ, List.set_cons_zero, List.set_cons_succ, DL.e_getD, DL.e_get1, DL.e_lockK, DL.e_dlockK, DL.e_wItemsK, DL.e_wKeysK, DL.e_getR, DL.e_inR, DL.e_ninR, DL.e_dictP, DL.e_sortTs, DL.e_maxTs, DL.e_pop, DL.e_lenSetL, DL.e_gSbK, DL.e_isO, DL.e_eqO, DL.e_lenSetS, DL.e_updK, DL.e_dictC, DL.e_popK, DL.e_eqT, DL.e_lenO, DL.e_fld, DL.e_sFld, DL.e_meth, DL.e_mk, DL.e_onS, DL.e_ixAS, DL.e_ixAT, DL.e_ixAK, DL.e_ixAL, DL.e_ixAR, DL.e_lenAS, DL.e_lenAT, DL.e_lenAK, DL.e_lenAL, DL.e_lenAR, DL.e_wStr, DL.e_join, DL.e_sidx, DL.e_ltS, DL.e_inS, DL.e_addSS, DL.e_sortKS, DL.e_mIndexS, $[$es:term],*])
namespace DL
open PySem PySem.Spec PyProof.Rows L2 LamX PySem.W SL
def F_Table_clone (C : Addr) (g_Table___init__ : DRs) (g_Table_add_all : DRs) : DTS := (sSeq (sSet 1 (dMk C 1 2 (putIx [0, 1, 2, 3] []) g_Table___init__ (daCons (dFld C "count" (dVar 0)) daNil) (daCons (dFld C "way" (dVar 0)) (daCons (dFld C "rule" (dVar 0)) daNil)))) (sSeq (sDrop (dMeth C "add_all" g_Table_add_all (dVar 1) (daCons (dVar 0) daNil))) (sRet (dVar 1))))
def F_Table___eq__ (C : Addr) : DTS := (sRet (dAndV (dIsO C (dVar 1)) (dAndV (dOp dEq (dFld C "count" (dVar 0)) (dFld C "count" (dVar 1))) (dAndV (dOp dEq (dFld C "way" (dVar 0)) (dFld C "way" (dVar 1))) (dAndV (dOp dEq (dFld C "rule" (dVar 0)) (dFld C "rule" (dVar 1))) (dOp (dEqT false) (dFld C "contents" (dVar 0)) (dFld C "contents" (dVar 1))))))))
def F__law_shuffled_v3 (g__law_take : DRs) : DTS := (sSeq (sPar 2 3 (daCons (dCB dListN (daCons (dVar 1) daNil)) (daCons (dLstN daNil) daNil))) (sSeq (sWhile (dTest (dOp dNe (dVar 2) (dLst daNil))) (sDrop (dMtL mAppend (dVar 3) (daCons (dMtL mPopAt (dVar 2) (daCons (dCB g__law_take (daCons (dVar 0) (daCons (dCB dLen (daCons (dVar 2) daNil)) daNil))) daNil)) daNil)))) (sRet (dVar 3))))
end DL
--ELX
--ELO
--ELP
--ELQ
--ELR
namespace DL
open PySem PySem.Spec PyProof.Rows L2 LamX PySem.W SL
theorem lkT_val {l : List (Key × Str)} {k : Key} : valD (mapD l) k = (lkT l k).map D.str := by
  unfold valD lkT mapD
  rw [List.find?_map]
  simp only [Function.comp_def, Option.map_map]
theorem eqT_yes {la lb : List (Key × Str)} (l : la.length = lb.length) (h : ∀ p ∈ la, valD (mapD lb) p.1 = some (.str p.2)) : SL.eqT la lb = true := by
  unfold SL.eqT
  rw [l, beq_self_eq_true, Bool.true_and, List.all_eq_true]
  intro p hp
  have z := h p hp
  rw [lkT_val] at z
  obtain ⟨s, e1, e2⟩ := Option.map_eq_some_iff.mp z
  cases e2
  exact decide_eq_true e1
theorem eqT_len {la lb : List (Key × Str)} (l : la.length ≠ lb.length) : SL.eqT la lb = false := by
  unfold SL.eqT
  rw [show (la.length == lb.length) = false by simpa using l, Bool.false_and]
theorem eqT_no {la lb : List (Key × Str)} {p : Key × Str} (hp : p ∈ la) (h : valD (mapD lb) p.1 ≠ some (.str p.2)) : SL.eqT la lb = false := by
  unfold SL.eqT
  have z : (la.all fun p => decide (lkT lb p.1 = some p.2)) = false := by
    rw [Bool.eq_false_iff]
    intro a
    rw [List.all_eq_true] at a
    have e := of_decide_eq_true (a p hp)
    exact h (by rw [lkT_val, e]; rfl)
  rw [z, Bool.and_false]
section
variable {C : Addr}
def g_eqT (C : Addr) : DRs := fun ds st Q => ∃ (far tri : Bool) (c n i j : Nat) (l : List (Key × Str)) (y : D), ds = [.ref n, y] ∧ st[n]? = some (.ins C (fsT far tri c i j)) ∧ st[i]? = some (.dK (mapD l)) ∧
  ((∃ (far2 tri2 : Bool) (c2 n2 i2 j2 : Nat) (l2 : List (Key × Str)), y = .ref n2 ∧ st[n2]? = some (.ins C (fsT far2 tri2 c2 i2 j2)) ∧ st[i2]? = some (.dK (mapD l2)) ∧ Q (.bl (decide (c = c2) && (decide (tri = tri2) && (decide (far = far2) && SL.eqT l l2)))) st) ∨
    (TyD C st y ∧ isTab st y = false ∧ Q (.bl false) st))
theorem ar_eqT (ds : List D) (st : DSt) (Q : DK) (h : g_eqT C ds st Q) : ds.length = 2 := by
  obtain ⟨far, tri, c, n, i, j, l, y, rfl, _⟩ := h
  rfl
theorem wayS_inj {a b : Bool} : (wayS a = wayS b) ↔ a = b := by cases a <;> cases b <;> decide
theorem ruleS_inj {a b : Bool} : (ruleS a = ruleS b) ↔ a = b := by cases a <;> cases b <;> decide
theorem sem_eqT (ds : List D) (st : DSt) (Q : DK) (h : g_eqT C ds st Q) : F_Table___eq__ C { nx := fun _ st' => Rt st Q .non st', rt := Rt st Q } (startD 2 ds) st := by
  obtain ⟨far, tri, c, n, i, j, l, y, rfl, t, tc, h⟩ := h
  have st2 : startD 2 [D.ref n, y] = [some (.ref n), some y] := rfl
  simp only [F_Table___eq__, st2]
  rcases h with ⟨far2, tri2, c2, n2, i2, j2, l2, rfl, t2, tc2, q⟩ | ⟨ty, no, q⟩
  · exists 2, onIns_ref t, onIns_ref t2, lk_count, lk_way, lk_rule, lk_contents
    refine ⟨by unfold TyD; simp only [t2], ?_⟩
    have yes : isTab st (.ref n2) = true := by unfold isTab; simp only [t2]
    rw [yes]
    refine iteT' rfl ?_
    by_cases e1 : c = c2
    · refine iteT' (decide_eq_true (by omega)) ?_
      rw [decide_eq_true e1, Bool.true_and] at q
      by_cases e2 : tri = tri2
      · refine iteT' (decide_eq_true (wayS_inj.mpr e2)) ?_
        rw [decide_eq_true e2, Bool.true_and] at q
        by_cases e3 : far = far2
        · refine iteT' (decide_eq_true (ruleS_inj.mpr e3)) ?_
          rw [decide_eq_true e3, Bool.true_and] at q
          rw [onDk_ref tc, onDk_ref tc2]
          refine ⟨l, l2, rfl, rfl, ?_⟩
          simp only [Bool.false_eq_true, if_false]
          exact .inl q
        · refine iteF' (decide_eq_false (fun z => e3 (ruleS_inj.mp z))) ?_
          rw [decide_eq_false e3, Bool.false_and] at q
          exact .inl q
      · refine iteF' (decide_eq_false (fun z => e2 (wayS_inj.mp z))) ?_
        rw [decide_eq_false e2, Bool.false_and] at q
        exact .inl q
    · refine iteF' (decide_eq_false (by omega)) ?_
      rw [decide_eq_false e1, Bool.false_and] at q
      exact .inl q
  · exists 2
    refine ⟨ty, ?_⟩
    rw [no]
    refine iteF' rfl ?_
    exact .inl q
theorem addsN_self : ∀ (ks h : List Nat), (h ++ ks).Nodup → addsN h ks = h ++ ks
  | [], h, _ => by rw [List.append_nil]; rfl
  | a :: r, h, nd => by
    have na : a ∉ h := fun z => (List.nodup_append.mp nd).2.2 a z a List.mem_cons_self rfl
    show addsN (addN h a) r = _
    unfold addN
    rw [if_neg na, addsN_self r (h ++ [a]) (by rw [List.append_assoc]; exact nd), List.append_assoc]
    rfl
theorem addsN_nil {ks : List Nat} (nd : ks.Nodup) : addsN [] ks = ks := addsN_self ks [] nd
def tbl (C : Addr) (far tri : Bool) (c b : Nat) (kvs : List (Key × D)) (sl : List Int) : List O := [.ins C (fsT far tri c (b + 1) (b + 2)), .dK kvs, .lst (entD sl)]
theorem g3 {st l : DSt} (k : Nat) : (st ++ l)[st.length + k]? = l[k]? := by
  rw [List.getElem?_append_right (by omega)]
  congr 1
  omega
theorem s3 {st l : DSt} (k : Nat) (x : O) : (st ++ l).set (st.length + k) x = st ++ l.set k x := by
  rw [List.set_append_right _ _ (by omega)]
  congr 2
  omega
end
end DL
--ELX
--ELO
--ELP
--ELQ
--ELR
namespace DL
open PySem PySem.Spec PyProof.Rows L2 LamX PySem.W SL
section
variable {C : Addr}
def g_clone (C : Addr) : DRs := fun ds st Q => ∃ (far tri : Bool) (c m n i j : Nat) (P : List (List Int)) (R : List (List (List Int))) (h : List Nat) (kvs : List (Key × D)), ds = [.ref n] ∧ Tab C far tri c m n i j P R h kvs st ∧ VOk kvs ∧ h.length < 64 ∧
  Q (.ref st.length) (st ++ tbl C far tri c st.length (putsN [] (srtN h) (valN kvs)) (layF P R (srtN h)))
theorem ar_clone (ds : List D) (st : DSt) (Q : DK) (h : g_clone C ds st Q) : ds.length = 1 := by
  obtain ⟨far, tri, c, m, n, i, j, P, R, h, kvs, rfl, _⟩ := h
  rfl
theorem sem_clone (ds : List D) (st : DSt) (Q : DK) (h : g_clone C ds st Q) : F_Table_clone C (g_init C) (g_addAll C) { nx := fun _ st' => Rt st Q .non st', rt := Rt st Q } (startD 2 ds) st := by
  obtain ⟨far, tri, c, m, n, i, j, P, R, h, kvs, rfl, T, vo, l, q⟩ := h
  have st2 : startD 2 [D.ref n] = [some (.ref n), none] := rfl
  have nd : (srtN h).Nodup := (srtN_perm h).nodup_iff.mpr T.hh.nd
  simp only [F_Table_clone, st2]
  try dsimp only
  rw [e_seq]
  exists 2, onIns_ref T.t, lk_count, lk_way, lk_rule
  refine ⟨rfl, rfl, far, tri, c, st.length, rfl, by simp, T.W.o, rfl, ?_⟩
  rw [made_at0 T.W.S]
  have T0 : Tab C far tri c m st.length (st.length + 1) (st.length + 2) P R [] [] (st ++ [O.ins C (fsT far tri c (st.length + 1) (st.length + 2)), .dK [], .lst (entD (layF P R []))]) :=
    ⟨g3 0, g3 1, rfl, g3 2, T.W, ⟨List.nodup_nil, fun k hk => (by cases hk), Nat.zero_le _⟩, fun a ha => (by cases ha)⟩
  have ln := some_lt T.t
  have li := some_lt T.tc
  try dsimp only
  rw [e_seq]
  exists 2, onIns_ref T0.t
  refine ⟨lk_add_all, far, tri, far, tri, c, m, _, _, _, c, n, i, j, P, R, [], h, [], kvs, rfl, T0, (app_at T.t).trans T.t, (app_at T.tc).trans T.tc, T.ks, T.hh.nd, T.wd, vo, by omega, by omega, ?_, by decide, l, ?_⟩
  · rw [addsN_nil nd, (srtN_perm h).length_eq]; exact T.hh.few
  rw [addsN_nil nd, s3 2, s3 1]
  exists 2
  exact .inl q
end
end DL
--ELX
--ELO
--ELP
--ELQ
--ELR
namespace DL
open PySem PySem.Spec PyProof.Rows L2 LamX PySem.W SL
structure Ct (kvs : List (Key × D)) (h : List Nat) (f : Nat → Str) : Prop where
  vo : VOk kvs
  ks : kvs.map (·.1) = keysT h
  nd : h.Nodup
  wd : ∀ a ∈ h, Wd a
  v : ∀ a ∈ h, valD kvs (.inr (nm a)) = some (.str (f a))
theorem Ct.w {kvs : List (Key × D)} {h : List Nat} {f : Nat → Str} (c : Ct kvs h f) {a : Nat} (ha : a ∈ h) : Word 0 (f a) := by
  obtain ⟨x, wx, _, ex⟩ := c.vo.valN c.ks ha
  rw [c.v a ha] at ex
  cases ex
  exact wx
theorem Ct.valN {kvs : List (Key × D)} {h : List Nat} {f : Nat → Str} (c : Ct kvs h f) {a : Nat} (ha : a ∈ h) : DL.valN kvs a = .str (f a) := by
  unfold DL.valN
  rw [c.v a ha]
  rfl
theorem Ct.len {kvs : List (Key × D)} {h : List Nat} {f : Nat → Str} (c : Ct kvs h f) : kvs.length = h.length := keysT_len c.ks
theorem Ct.puts {kn : List (Key × D)} {h : List Nat} {f : Nat → Str} {ks : List Nat} (c : Ct kn h f) (nd : ks.Nodup) (sub : ∀ a ∈ ks, a ∈ h) : Ct (putsN [] ks (DL.valN kn)) ks f := by
  have wk : ∀ a ∈ ks, Wd a := fun a ha => c.wd a (sub a ha)
  refine ⟨VOk.puts ks [] VOk.nil fun a ha => ⟨f a, c.w (sub a ha), c.valN (sub a ha)⟩, ?_, nd, wk, fun a ha => ?_⟩
  · have z := putsN_keys (f := DL.valN kn) ks [] [] wk (fun a ha => (by cases ha)) rfl
    rw [addsN_nil nd] at z
    exact z
  · rw [putsN_val (wk a ha) ks [] wk, if_pos ha, c.valN (sub a ha)]
def updS (f : Nat → Str) (a : Nat) (v : Str) : Nat → Str := fun b => if b = a then v else f b
theorem addN_nd {h : List Nat} {a : Nat} (nd : h.Nodup) : (addN h a).Nodup := addsN_nd [a] h nd
theorem addN_mem {h : List Nat} {a b : Nat} : b ∈ addN h a ↔ b ∈ h ∨ b = a := by
  have z := addsN_mem (b := b) [a] h
  rw [List.mem_singleton] at z
  exact z
theorem Ct.put {kvs : List (Key × D)} {h : List Nat} {f : Nat → Str} {z v : Str} (c : Ct kvs h f) (w : Word 1 z) (wv : Word 0 v) : Ct (putD kvs (.inr z) (.str v)) (addN h (num z)) (updS f (num z) v) := by
  refine ⟨c.vo.put wv, keys_put c.ks c.wd w, addN_nd c.nd, add_wd c.wd w.wd, fun a ha => ?_⟩
  have wa := add_wd c.wd w.wd a ha
  rw [valD_putE]
  unfold updS
  by_cases e : a = num z
  · rw [if_pos e, if_pos (by rw [e, nm_num w])]
  · have ne : ¬ (.inr z : Key) = .inr (nm a) := fun q => e (by
      have : z = nm a := Sum.inr.inj q
      rw [this, wa.2])
    rw [if_neg e, if_neg ne]
    exact c.v a ((addN_mem.mp ha).elim id fun q => absurd q e)
theorem Ct.drop {kvs : List (Key × D)} {h : List Nat} {f : Nat → Str} {z : Str} (c : Ct kvs h f) (w : Word 1 z) : Ct (dropD kvs (.inr z)) (delN h (num z)) f := by
  refine ⟨c.vo.drop, keys_drop c.ks c.wd w, c.nd.sublist List.filter_sublist, fun a ha => c.wd a (delN_mem.mp ha).1, fun a ha => ?_⟩
  obtain ⟨h1, ne⟩ := delN_mem.mp ha
  have wa := c.wd a h1
  have nk : (.inr (nm a) : Key) ≠ .inr z := fun q => ne (by
    have : nm a = z := Sum.inr.inj q
    rw [← this, wa.2])
  rw [valD_drop nk]
  exact c.v a h1
theorem Ct.same {k1 k2 : List (Key × D)} {h1 h2 : List Nat} {f1 f2 : Nat → Str} {l1 l2 : List (Key × Str)} (c1 : Ct k1 h1 f1) (c2 : Ct k2 h2 f2) (e1 : k1 = mapD l1) (e2 : k2 = mapD l2) (p : h1.Perm h2) (hf : ∀ a ∈ h1, f1 a = f2 a) : SL.eqT l1 l2 = true := by
  have a1 := c1.len
  have a2 := c2.len
  rw [e1] at a1
  rw [e2] at a2
  unfold mapD at a1 a2
  rw [List.length_map] at a1 a2
  refine eqT_yes (by rw [a1, a2, p.length_eq]) fun q hq => ?_
  have hk : q.1 ∈ k1.map (·.1) := by rw [e1]; unfold mapD; rw [List.map_map]; exact List.mem_map.mpr ⟨q, hq, rfl⟩
  rw [c1.ks] at hk
  obtain ⟨a, ha, ea⟩ := List.mem_map.mp hk
  have z1 := c1.v a ha
  have z2 := c2.v a (p.mem_iff.mp ha)
  have form := kv_form h1 k1 c1.ks c1.nd c1.wd
  have hm : (q.1, D.str q.2) ∈ k1 := by rw [e1]; exact List.mem_map.mpr ⟨q, hq, rfl⟩
  rw [form] at hm
  obtain ⟨b, hb, eb⟩ := List.mem_map.mp hm
  have eb1 := congrArg Prod.fst eb
  have eb2 := congrArg Prod.snd eb
  rw [c1.valN hb] at eb2
  have ab : a = b := ((c1.wd a ha).inj (c1.wd b hb)).mp (Sum.inr.inj (ea.trans eb1.symm))
  subst ab
  have e5 : f1 a = q.2 := D.str.inj eb2
  rw [← e2, ← ea, z2, ← hf a ha, e5]
theorem Ct.other {k1 k2 : List (Key × D)} {h1 h2 : List Nat} {f1 f2 : Nat → Str} {l1 l2 : List (Key × Str)} (c1 : Ct k1 h1 f1) (c2 : Ct k2 h2 f2) (e1 : k1 = mapD l1) (e2 : k2 = mapD l2) (h : h1.length ≠ h2.length ∨ ∃ a ∈ h1, a ∈ h2 ∧ f1 a ≠ f2 a) : SL.eqT l1 l2 = false := by
  rcases h with h | ⟨a, m1, m2, ne⟩
  · have a1 := c1.len
    have a2 := c2.len
    rw [e1] at a1
    rw [e2] at a2
    unfold mapD at a1 a2
    rw [List.length_map] at a1 a2
    exact eqT_len (by rw [a1, a2]; exact h)
  · have form := kv_form h1 k1 c1.ks c1.nd c1.wd
    have hm : ((.inr (nm a) : Key), D.str (f1 a)) ∈ k1 := by
      rw [form]
      exact List.mem_map.mpr ⟨a, m1, by rw [c1.valN m1]⟩
    rw [e1] at hm
    obtain ⟨q, hq, eq⟩ := List.mem_map.mp hm
    have q1 := congrArg Prod.fst eq
    have q2 := D.str.inj (congrArg Prod.snd eq)
    refine eqT_no hq ?_
    have q1' : q.1 = .inr (nm a) := q1
    have q2' : q.2 = f1 a := q2
    rw [← e2, q1', c2.v a m2, q2']
    exact fun z => ne (D.str.inj (Option.some.inj z)).symm
section
variable {C : Addr}
theorem eq_tabs {far tri far2 tri2 : Bool} {c n i j c2 n2 i2 j2 : Nat} {k1 k2 : List (Key × D)} {h1 h2 : List Nat} {f1 f2 : Nat → Str} {S : DSt} {Qk : DK} (t : S[n]? = some (.ins C (fsT far tri c i j))) (tc : S[i]? = some (.dK k1)) (t2 : S[n2]? = some (.ins C (fsT far2 tri2 c2 i2 j2))) (tc2 : S[i2]? = some (.dK k2)) (c1 : Ct k1 h1 f1) (cc2 : Ct k2 h2 f2)
    (b : Bool) (hb : (b = true ∧ c = c2 ∧ tri = tri2 ∧ far = far2 ∧ h1.Perm h2 ∧ ∀ a ∈ h1, f1 a = f2 a) ∨ (b = false ∧ (c ≠ c2 ∨ tri ≠ tri2 ∨ far ≠ far2 ∨ h1.length ≠ h2.length ∨ ∃ a ∈ h1, a ∈ h2 ∧ f1 a ≠ f2 a))) (q : Qk (.bl b) S) : g_eqT C [.ref n, .ref n2] S Qk := by
  obtain ⟨l1, e1, _⟩ := c1.vo
  obtain ⟨l2, e2, _⟩ := cc2.vo
  refine ⟨far, tri, c, n, i, j, l1, _, rfl, t, by rw [tc, e1], .inl ⟨far2, tri2, c2, n2, i2, j2, l2, rfl, t2, by rw [tc2, e2], ?_⟩⟩
  rcases hb with ⟨rfl, x1, x2, x3, pm, hf⟩ | ⟨rfl, hn⟩
  · rw [decide_eq_true x1, decide_eq_true x2, decide_eq_true x3, c1.same cc2 e1 e2 pm hf]
    exact q
  · have z : (decide (c = c2) && (decide (tri = tri2) && (decide (far = far2) && SL.eqT l1 l2))) = false := by
      rcases hn with x | x | x | x
      · rw [decide_eq_false x, Bool.false_and]
      · rw [decide_eq_false x, Bool.false_and, Bool.and_false]
      · rw [decide_eq_false x, Bool.false_and, Bool.and_false, Bool.and_false]
      · rw [c1.other cc2 e1 e2 x, Bool.and_false, Bool.and_false, Bool.and_false]
    rw [z]
    exact q
theorem lay_same {far tri : Bool} {c m : Nat} {P : List (List Int)} {R : List (List (List Int))} {h h' : List Nat} (W : NmS far tri c m P R) (hh : Hist m c h) (p : h.Perm h') : layF P R h = layF P R h' ∧ Hist m c h' := by
  have H2 : Hist m c h' := ⟨p.nodup_iff.mp hh.nd, fun k hk => hh.lt k (p.mem_iff.mpr hk), by rw [← p.length_eq]; exact hh.few⟩
  exact ⟨layF_any W.S W.T hh H2 fun k => p.mem_iff, H2⟩
theorem del_add {h : List Nat} {a : Nat} (na : a ∉ h) : delN (addN h a) a = h := by
  unfold addN delN
  have e1 : h.filter (fun b => decide (b ≠ a)) = h := List.filter_eq_self.mpr fun b hb => decide_eq_true fun e : b = a => na (by rw [← e]; exact hb)
  rw [if_neg na, List.filter_append, e1]
  simp
def Apt (C : Addr) (far tri : Bool) (c : Nat) (h1 : List Nat) (f1 : Nat → Str) (lim : Nat) (S : DSt) (n : Nat) : Prop :=
  ∃ (far' tri' : Bool) (c' i' j' : Nat) (k' : List (Key × D)) (h' : List Nat) (f' : Nat → Str), n < lim ∧ i' < lim ∧ S[n]? = some (.ins C (fsT far' tri' c' i' j')) ∧ S[i']? = some (.dK k') ∧ Ct k' h' f' ∧ (c ≠ c' ∨ tri ≠ tri' ∨ far ≠ far' ∨ h1.length ≠ h'.length ∨ ∃ a ∈ h1, a ∈ h' ∧ f1 a ≠ f' a)
theorem Apt.mv {far tri : Bool} {c : Nat} {h1 : List Nat} {f1 : Nat → Str} {lim lim' : Nat} {S S' : DSt} {n : Nat} (A : Apt C far tri c h1 f1 lim S n) (le : lim ≤ lim') (e : ∀ x, x < lim → S'[x]? = S[x]? ∨ ∃ xs, S[x]? = some (.lst xs)) : Apt C far tri c h1 f1 lim' S' n := by
  obtain ⟨far', tri', c', i', j', k', h', f', l1, l2, t, tc, ct, no⟩ := A
  refine ⟨far', tri', c', i', j', k', h', f', by omega, by omega, ?_, ?_, ct, no⟩
  · rcases e n l1 with z | ⟨xs, z⟩
    · rw [z]; exact t
    · rw [t] at z; cases z
  · rcases e i' l2 with z | ⟨xs, z⟩
    · rw [z]; exact tc
    · rw [tc] at z; cases z
end
end DL
--ELX
--ELO
--ELP
--ELQ
--ELR
namespace DL
open PySem PySem.Spec PyProof.Rows L2 LamX PySem.W SL
theorem perm_names {ys : List D} {h : List Nat} (wd : ∀ a ∈ h, Wd a) (p : ys.Perm (namesL h)) : ∃ ks : List Nat, ks.Perm h ∧ ys = namesL ks := by
  unfold namesL at p ⊢
  refine ⟨ys.map fun d => match d with | .str z => num z | _ => 0, ?_, ?_⟩
  · have z := p.map fun d : D => match d with | .str z => num z | _ => 0
    rw [List.map_map] at z
    have e : h.map ((fun d : D => match d with | .str z => num z | _ => 0) ∘ fun a => D.str (nm a)) = h := (List.map_congr_left fun a ha => (wd a ha).2).trans (List.map_id h)
    rw [e] at z
    exact z
  · rw [List.map_map]
    refine (List.map_id ys).symm.trans (List.map_congr_left fun d hd => ?_)
    obtain ⟨a, ha, rfl⟩ := List.mem_map.mp (p.mem_iff.mp hd)
    show D.str (nm a) = D.str (nm (num (nm a)))
    rw [(wd a ha).2]
theorem lstD_own {S : DSt} {n : Nat} {ds : List D} (h : S[n]? = some (.lst ds)) : LstD S (.ref n) := by
  unfold LstD
  simp only [h]
theorem app_lk {S : DSt} {n : Nat} {xs : List D} {d : D} {Q : DK} (h : S[n]? = some (.lst xs)) (l : xs.length < sizeLine) (q : Q .non (S.set n (.lst (xs ++ [d])))) : mAppend (.ref n) [d] S Q := by
  show onL S (.ref n) fun n xs => xs.length < sizeLine ∧ Q .non (S.set n (.lst (xs ++ [d])))
  unfold onL
  simp only [h]
  exact ⟨l, q⟩
section
variable {C : Addr}
end
end DL
--ELX
--ELO
--ELP
--ELQ
--ELR
namespace DL
open PySem PySem.Spec PyProof.Rows L2 LamX PySem.W SL
section
variable {C : Addr}
end
end DL
namespace DL
open PySem PySem.Spec PyProof.Rows L2 LamX PySem.W SL
def dSlT (f : DTE) (lo hi : DTO) : DTE := fun r st Q => f r st fun x st1 => lo r st1 fun l st2 => hi r st2 fun u st3 => onS x fun z => z.length ≤ sizeLine ∧ Q (.str (L2.cutS z l u)) st3
section
variable {T : List (Addr × Str)} {X : Cx} {e : Expr} {f : DTE} {pos : Pos}
theorem de_sliceT {lo hi : Option Expr} {flo fhi : DTO} {p2 : Pos} (he : DE T X e f) (hl : DO T X lo flo) (hu : DO T X hi fhi) : DE T X (.Subscript e (.Slice lo hi none p2) pos) (dSlT f flo fhi) :=
  PE.imp (pe_slice L2.sl_str he hl hu) fun σ H Q ⟨M, r, st, Q', s, re, h, k⟩ => ⟨M, r, st, _, s, re, h, fun M1 H1 st1 x vx g1 s1 r1 q1 => ⟨M1, r, st1, _, s1, re.grow g1, q1, fun M2 H2 st2 l g2 s2 q2 => ⟨M2, r, st2, _, s2, (re.grow g1).grow g2, q2, fun M3 H3 st3 u g3 s3 q3 => by
    obtain ⟨z, rfl, lz, q⟩ := onS.of q3
    cases r1
    exact ⟨z, rfl, lz, (((k.grow g1).grow g2).grow g3).here s3 (.str _) q⟩⟩⟩⟩
end
@[simp] theorem e_slTx {f : DTE} {lo hi : DTO} {r : DEnv} {st : DSt} {Q : DK} : dSlT f lo hi r st Q = f r st fun x st1 => lo r st1 fun l st2 => hi r st2 fun u st3 => onS x fun z => z.length ≤ sizeLine ∧ Q (.str (L2.cutS z l u)) st3 := rfl
end DL
local macro_rules
  | `(tactic| exists 1) => `(tactic| try simp only [DL.e_var, DL.e_C, DL.e_op, DL.e_neg, DL.e_isN, DL.e_notN, DL.e_and, DL.e_or, DL.e_not, DL.e_test, DL.e_tAnd, DL.e_tOr, DL.e_tNot, DL.e_tYes, DL.e_if, DL.e_aNil, DL.e_aCons, DL.e_tup, DL.e_lst, DL.e_lstN, DL.e_len0, DL.e_len1, DL.e_len2, DL.e_len3, DL.e_len4, DL.e_len5, DL.e_cb, DL.e_on1, DL.e_on2, DL.e_onI, DL.e_onB, DL.e_onO, DL.e_onO0, DL.e_onOO, DL.e_I0, DL.e_I, DL.e_add, DL.e_addT, DL.e_addS, DL.e_addL, DL.e_addLR, DL.e_addRL, DL.e_addRR, DL.e_mul, DL.e_mulL, DL.e_mulT, DL.e_rev, DL.e_revT, DL.e_ix, DL.e_eqI, DL.e_eqS, DL.e_eqB, DL.e_neI, DL.e_neS, DL.e_neB, DL.e_ltI, DL.e_chain, DL.e_len, DL.e_abs, DL.e_2I, DL.e_tuple1, DL.e_tuple2, DL.e_tuple3, DL.e_listT, DL.e_listN, DL.e_allR, DL.e_seqT, DL.e_seqK, DL.e_seqL, DL.e_isi, DL.e_isB, DL.e_notB, DL.e_truth, DL.e_next, DL.e_drop, DL.e_ret, DL.e_retN, DL.e_ifS, DL.e_set, DL.e_asg, DL.e_par, DL.e_nm, DL.e_gsN, DL.e_gsC, DL.e_gTpK, DL.e_gTpL, DL.e_sum, DL.e_maxL, DL.e_minL, DL.e_maxDef, DL.e_int, DL.e_intB, DL.e_aug, DL.e_on3, DL.e_par3, DL.e_newK, DL.e_getK, DL.e_keyI, DL.e_keyS, DL.e_inK, DL.e_ninK, DL.e_putK, DL.e_lenK, DL.e_lstS, DL.e_seqX, DL.e_gTpT, DL.e_oN, DL.e_oS, DL.e_sl, DL.e_slT, DL.e_slL, DL.e_finT, DL.e_finN, DL.e_index, DL.e_idxT, DL.e_idxL, DL.e_mIx, DL.e_ixST, DL.e_ixSL, DL.e_mtL, DL.e_w, DL.e_w1, DL.e_w2, DL.e_wE, DL.e_wZ, DL.e_itK, DL.e_itT, DL.e_itL, DL.e_itT2, DL.e_itL2, DL.e_lc, DL.e_for, DL.e_wipe0, DL.e_wipe, DL.e_okI, DL.e_okR, DL.e_gSb, List.getElem?_cons_zero, List.getElem?_cons_succ, List.set_cons_zero, List.set_cons_succ, DL.e_getD, DL.e_get1, DL.e_lockK, DL.e_dlockK, DL.e_wItemsK, DL.e_wKeysK, DL.e_getR, DL.e_inR, DL.e_ninR, DL.e_dictP, DL.e_sortTs, DL.e_maxTs, DL.e_pop, DL.e_lenSetL, DL.e_gSbK, DL.e_slTx, DL.e_isO, DL.e_eqO, DL.e_lenSetS, DL.e_updK, DL.e_dictC, DL.e_popK, DL.e_eqT, DL.e_lenO, DL.e_fld, DL.e_sFld, DL.e_meth, DL.e_mk, DL.e_onS, DL.e_ixAS, DL.e_ixAT, DL.e_ixAK, DL.e_ixAL, DL.e_ixAR, DL.e_lenAS, DL.e_lenAT, DL.e_lenAK, DL.e_lenAL, DL.e_lenAR, DL.e_wStr, DL.e_join, DL.e_sidx, DL.e_ltS, DL.e_inS, DL.e_addSS, DL.e_sortKS, DL.e_mIndexS])
  | `(tactic| exists 1, $es,*) => `(tactic| try simp only [DL.e_var, DL.e_C, DL.e_op, DL.e_neg, DL.e_isN, DL.e_notN, DL.e_and, DL.e_or, DL.e_not, DL.e_test, DL.e_tAnd, DL.e_tOr, DL.e_tNot, DL.e_tYes, DL.e_if, DL.e_aNil, DL.e_aCons, DL.e_tup, DL.e_lst, DL.e_lstN, DL.e_len0, DL.e_len1, DL.e_len2, DL.e_len3, DL.e_len4, DL.e_len5, DL.e_cb, DL.e_on1, DL.e_on2, DL.e_onI, DL.e_onB, DL.e_onO, DL.e_onO0, DL.e_onOO, DL.e_I0, DL.e_I, DL.e_add, DL.e_addT, DL.e_addS, DL.e_addL, DL.e_addLR, DL.e_addRL, DL.e_addRR, DL.e_mul, DL.e_mulL, DL.e_mulT, DL.e_rev, DL.e_revT, DL.e_ix, DL.e_eqI, DL.e_eqS, DL.e_eqB, DL.e_neI, DL.e_neS, DL.e_neB, DL.e_ltI, DL.e_chain, DL.e_len, DL.e_abs, DL.e_2I, DL.e_tuple1, DL.e_tuple2, DL.e_tuple3, DL.e_listT, DL.e_listN, DL.e_allR, DL.e_seqT, DL.e_seqK, DL.e_seqL, DL.e_isi, DL.e_isB, DL.e_notB, DL.e_truth, DL.e_next, DL.e_drop, DL.e_ret, DL.e_retN, DL.e_ifS, DL.e_set, DL.e_asg, DL.e_par, DL.e_nm, DL.e_gsN, DL.e_gsC, DL.e_gTpK, DL.e_gTpL, DL.e_sum, DL.e_maxL, DL.e_minL, DL.e_maxDef, DL.e_int, DL.e_intB, DL.e_aug, DL.e_on3, DL.e_par3, DL.e_newK, DL.e_getK, DL.e_keyI, DL.e_keyS, DL.e_inK, DL.e_ninK, DL.e_putK, DL.e_lenK, DL.e_lstS, DL.e_seqX, DL.e_gTpT, DL.e_oN, DL.e_oS, DL.e_sl, DL.e_slT, DL.e_slL, DL.e_finT, DL.e_finN, DL.e_index, DL.e_idxT, DL.e_idxL, DL.e_mIx, DL.e_ixST, DL.e_ixSL, DL.e_mtL, DL.e_w, DL.e_w1, DL.e_w2, DL.e_wE, DL.e_wZ, DL.e_itK, DL.e_itT, DL.e_itL, DL.e_itT2, DL.e_itL2, DL.e_lc, DL.e_for, DL.e_wipe0, DL.e_wipe, DL.e_okI, DL.e_okR, DL.e_gSb, List.getElem?_cons_zero, List.getElem?_cons_succ, List.set_cons_zero, List.set_cons_succ, DL.e_getD, DL.e_get1, DL.e_lockK, DL.e_dlockK, DL.e_wItemsK, DL.e_wKeysK, DL.e_getR, DL.e_inR, DL.e_ninR, DL.e_dictP, DL.e_sortTs, DL.e_maxTs, DL.e_pop, DL.e_lenSetL, DL.e_gSbK, DL.e_slTx, DL.e_isO, DL.e_eqO, DL.e_lenSetS, DL.e_updK, DL.e_dictC, DL.e_popK, DL.e_eqT, DL.e_lenO, DL.e_fld, DL.e_sFld, DL.e_meth, DL.e_mk, DL.e_onS, DL.e_ixAS, DL.e_ixAT, DL.e_ixAK, DL.e_ixAL, DL.e_ixAR, DL.e_lenAS, DL.e_lenAT, DL.e_lenAK, DL.e_lenAL, DL.e_lenAR, DL.e_wStr, DL.e_join, DL.e_sidx, DL.e_ltS, DL.e_inS, DL.e_addSS, DL.e_sortKS, DL.e_mIndexS, $[$es:term],*])
namespace DL
open PySem PySem.Spec PyProof.Rows L2 LamX PySem.W SL
def F__law_drawn_name_v3 (g__law_of : DRs) : DTS := (sRet (dJoin (dC (.str "")) (dLcG (wRng1 (daCons (dCB g__law_of (daCons (dVar 0) (daCons (dLst (daCons (dC (.int 1)) (daCons (dC (.int 2)) (daCons (dC (.int 1)) (daCons (dC (.int 3)) (daCons (dC (.int 8)) daNil)))))) daNil))) daNil)) (gNm 1) dtYes (dCB g__law_of (daCons (dVar 0) (daCons (dC (.str "abcdefghijklmnoprstuvwxz")) daNil))) [1] finT)))
def F__law_by_detours (C : Addr) (g_Table___init__ : DRs) (g_Table_put : DRs) (g_Table_take_out : DRs) (g_Table___len__ : DRs) (g__law_drawn_name : DRs) (g__law_drawn_value : DRs) (g__law_shuffled : DRs) : DTS := (sSeq (sPar 4 5 (daCons (dMk C 1 2 (putIx [0, 1, 2, 3] []) g_Table___init__ (daCons (dVar 2) daNil) (daCons (dOp dIx (dVar 3) (dC (.int 0))) (daCons (dOp dIx (dVar 3) (dC (.int 1))) daNil))) (daCons (dLstN daNil) daNil))) (sSeq (sFor (wSeq (dCB g__law_shuffled (daCons (dVar 0) (daCons (dCB (dSortKS finT) (daCons (dVar 1) daNil)) daNil)))) (gNm 6) (sSeq (sSet 7 (dOp dAddS (dC (.str "q")) (dSlT (dCB g__law_drawn_name (daCons (dVar 0) daNil)) oNone (oSome (dC (.int 7)))))) (sSeq (sIf (dtAnd (dTest (dInK true (dVar 7) (dVar 1))) (dtAnd (dTest (dOp dNotIn (dVar 7) (dVar 5))) (dTest (dOp dLtG (dOp dAdd (dCB (rsLenO C g_Table___len__) (daCons (dVar 4) daNil)) (dC (.int 1))) (dVar 2))))) (sSeq (sDrop (dMeth C "put" g_Table_put (dVar 4) (daCons (dVar 7) (daCons (dC (.str "x")) daNil)))) (sDrop (dMtL mAppend (dVar 5) (daCons (dVar 7) daNil)))) sNext) (sSeq (sIf (dTest (dOp dEq (dCB (rsLenO C g_Table___len__) (daCons (dVar 4) daNil)) (dVar 2))) (sDrop (dMeth C "take_out" g_Table_take_out (dVar 4) (daCons (dMtL mPopAt (dVar 5) (daCons (dC (.int 0)) daNil)) daNil))) sNext) (sSeq (sDrop (dMeth C "put" g_Table_put (dVar 4) (daCons (dVar 6) (daCons (dCB g__law_drawn_value (daCons (dVar 0) daNil)) daNil)))) (sDrop (dMeth C "put" g_Table_put (dVar 4) (daCons (dVar 6) (daCons (dOp dGetK (dVar 1) (dVar 6)) daNil))))))))) (sSeq (sFor (wSeq (dVar 5)) (gNm 6) (sDrop (dMeth C "take_out" g_Table_take_out (dVar 4) (daCons (dVar 6) daNil)))) (sRet (dVar 4)))))
def F__law_by_growing (C : Addr) (g_Table___init__ : DRs) (g_Table_put : DRs) (g_Table___len__ : DRs) (g_Table_slots : DRs) (g_Table_grow : DRs) (g__law_of : DRs) (g__law_shuffled : DRs) : DTS := (sSeq (sSet 4 (dIf (dTest (dOp dEq (dOp dIx (dVar 3) (dC (.int 0))) (dC (.str "triangular")))) (dLst (daCons (dC (.int 1)) (daCons (dC (.int 2)) (daCons (dC (.int 4)) (daCons (dC (.int 8)) (daCons (dC (.int 16)) (daCons (dC (.int 32)) (daCons (dC (.int 64)) daNil)))))))) (dLst (daCons (dC (.int 1)) (daCons (dC (.int 3)) (daCons (dC (.int 7)) (daCons (dC (.int 12)) (daCons (dC (.int 33)) (daCons (dC (.int 64)) daNil))))))))) (sSeq (sPar 5 6 (daCons (dMk C 1 2 (putIx [0, 1, 2, 3] []) g_Table___init__ (daCons (dCB g__law_of (daCons (dVar 0) (daCons (dVar 4) daNil))) daNil) (daCons (dOp dIx (dVar 3) (dC (.int 0))) (daCons (dOp dIx (dVar 3) (dC (.int 1))) daNil))) (daCons (dCB g__law_shuffled (daCons (dVar 0) (daCons (dCB (dSortKS finT) (daCons (dVar 1) daNil)) daNil))) daNil))) (sSeq (sWhile (dtAnd (dTest (dOp dNe (dVar 6) (dLst daNil))) (dTest (dOp dLtG (dCB (rsLenO C g_Table___len__) (daCons (dVar 5) daNil)) (dMeth C "slots" g_Table_slots (dVar 5) daNil)))) (sSeq (sSet 7 (dMtL mPop (dVar 6) daNil)) (sDrop (dMeth C "put" g_Table_put (dVar 5) (daCons (dVar 7) (daCons (dOp dGetK (dVar 1) (dVar 7)) daNil)))))) (sSeq (sDrop (dMeth C "grow" g_Table_grow (dVar 5) (daCons (dVar 2) daNil))) (sSeq (sFor (wSeq (dVar 6)) (gNm 7) (sDrop (dMeth C "put" g_Table_put (dVar 5) (daCons (dVar 7) (daCons (dOp dGetK (dVar 1) (dVar 7)) daNil))))) (sRet (dVar 5)))))))
def F__law_by_joining (C : Addr) (g_Table___init__ : DRs) (g_Table_put : DRs) (g_Table_add_all : DRs) (g_Table_clone : DRs) (g__law_take : DRs) (g__law_drawn_value : DRs) (g__law_shuffled : DRs) : DTS := (sSeq (sPar 4 5 (daCons (dMk C 1 2 (putIx [0, 1, 2, 3] []) g_Table___init__ (daCons (dVar 2) daNil) (daCons (dOp dIx (dVar 3) (dC (.int 0))) (daCons (dOp dIx (dVar 3) (dC (.int 1))) daNil))) (daCons (dMk C 1 2 (putIx [0, 1, 2, 3] []) g_Table___init__ (daCons (dC (.int 64)) daNil) (daCons (dC (.str "linear")) (daCons (dC (.str "farther")) daNil))) daNil))) (sSeq (sFor (wSeq (dCB g__law_shuffled (daCons (dVar 0) (daCons (dCB (dSortKS finT) (daCons (dVar 1) daNil)) daNil)))) (gNm 6) (sSeq (sSet 7 (dCB g__law_take (daCons (dVar 0) (daCons (dC (.int 3)) daNil)))) (sSeq (sIf (dTest (dOp dLtG (dVar 7) (dC (.int 2)))) (sDrop (dMeth C "put" g_Table_put (dVar 4) (daCons (dVar 6) (daCons (dIf (dTest (dOp dEq (dVar 7) (dC (.int 0)))) (dOp dGetK (dVar 1) (dVar 6)) (dCB g__law_drawn_value (daCons (dVar 0) daNil))) daNil)))) sNext) (sIf (dTest (dOp dGt (dVar 7) (dC (.int 0)))) (sDrop (dMeth C "put" g_Table_put (dVar 5) (daCons (dVar 6) (daCons (dOp dGetK (dVar 1) (dVar 6)) daNil)))) sNext)))) (sSeq (sSet 8 (dMeth C "clone" g_Table_clone (dVar 4) daNil)) (sSeq (sDrop (dMeth C "add_all" g_Table_add_all (dVar 8) (daCons (dVar 5) daNil))) (sRet (dVar 8))))))
def F__law_are_alike (C : Addr) (g_Table_value_of : DRs) (g_Table_look_up : DRs) (g_Table_layout : DRs) (g_Table_distances : DRs) (g_Table___eq__ : DRs) (g__law_drawn_name : DRs) : DTS := (sSeq (sSet 3 (dOp dIx (dVar 1) (dC (.int 0)))) (sSeq (sSet 4 (dOp dAdd (dSlG finT (dCB (dSortKS finT) (daCons (dVar 2) daNil)) oNone (oSome (dC (.int 6)))) (dLcG (wRng1 (daCons (dC (.int 6)) daNil)) (gNm 6) dtYes (dCB g__law_drawn_name (daCons (dVar 0) daNil)) [6] finT))) (sSeq (sFor (wSeq (dSlG finT (dVar 1) (oSome (dC (.int 1))) oNone)) (gNm 5) (sSeq (sIf (dtOr (dTest (dOp (dEqO true C g_Table___eq__) (dVar 5) (dVar 3))) (dtOr (dTest (dOp dNe (dMeth C "layout" g_Table_layout (dVar 5) daNil) (dMeth C "layout" g_Table_layout (dVar 3) daNil))) (dTest (dOp dNe (dMeth C "distances" g_Table_distances (dVar 5) daNil) (dMeth C "distances" g_Table_distances (dVar 3) daNil))))) (sRet (dC (.bl false))) sNext) (sSeq (sIf (dtNot (dTest (dCB dAll (daCons (dLcG (wSeq (dVar 4)) (gNm 7) dtYes (dOp dEq (dMeth C "look_up" g_Table_look_up (dVar 5) (daCons (dVar 7) daNil)) (dMeth C "look_up" g_Table_look_up (dVar 3) (daCons (dVar 7) daNil))) [7] finT) daNil)))) (sRet (dC (.bl false))) sNext) (sIf (dtNot (dTest (dCB dAll (daCons (dLockK 2 (dLcG (wKeysK (dVar 2)) (gNm 7) dtYes (dOp dEq (dMeth C "value_of" g_Table_value_of (dVar 5) (daCons (dVar 7) daNil)) (dOp dGetR (dVar 2) (dVar 7))) [7] finT)) daNil)))) (sRet (dC (.bl false))) sNext)))) (sRet (dC (.bl true))))))
def F__law_right_v55 (C : Addr) (g_Table_put : DRs) (g_Table_take_out : DRs) (g_Table_grow : DRs) (g_Table___eq__ : DRs) (g__law_take : DRs) (g__law_of : DRs) (g__law_drawn_kind : DRs) (g__law_drawn_name : DRs) (g__law_drawn_value : DRs) (g__law_by_detours : DRs) (g__law_by_growing : DRs) (g__law_by_joining : DRs) (g__law_are_alike : DRs) : DTS := (sSeq (sPar 1 2 (daCons (dCB g__law_drawn_kind (daCons (dVar 0) daNil)) (daCons (dNewK) daNil))) (sSeq (sSet 3 (dCB g__law_of (daCons (dVar 0) (daCons (dLst (daCons (dC (.int 8)) (daCons (dC (.int 16)) (daCons (dC (.int 4)) (daCons (dC (.int 32)) (daCons (dC (.int 2)) daNil)))))) daNil)))) (sSeq (sFor (wRng1 (daCons (dCB g__law_take (daCons (dVar 0) (daCons (dC (.int 30)) daNil))) daNil)) (gNm 4) (sSeq (sSet 5 (dCB g__law_drawn_name (daCons (dVar 0) daNil))) (sIf (dtOr (dTest (dOp dLtG (dCB dLenK (daCons (dVar 2) daNil)) (dOp dSub (dVar 3) (dC (.int 1))))) (dTest (dInK false (dVar 5) (dVar 2)))) (sPutK (dVar 2) (dVar 5) (dCB g__law_drawn_value (daCons (dVar 0) daNil))) sNext))) (sSeq (sSet 6 (dLstN (daCons (dCB g__law_by_detours (daCons (dVar 0) (daCons (dVar 2) (daCons (dVar 3) (daCons (dVar 1) daNil))))) (daCons (dCB g__law_by_growing (daCons (dVar 0) (daCons (dVar 2) (daCons (dVar 3) (daCons (dVar 1) daNil))))) daNil)))) (sSeq (sDrop (dMtL mAppend (dVar 6) (daCons (dCB g__law_by_joining (daCons (dVar 0) (daCons (dVar 2) (daCons (dVar 3) (daCons (dVar 1) daNil))))) daNil))) (sSeq (sIf (dtNot (dTest (dCB g__law_are_alike (daCons (dVar 0) (daCons (dVar 6) (daCons (dVar 2) daNil)))))) (sRet (dC (.bl false))) sNext) (sSeq (sSet 7 (dOp dIx (dVar 6) (dC (.int 1)))) (sSeq (sDrop (dMeth C "put" g_Table_put (dVar 7) (daCons (dC (.str "yyy")) (daCons (dC (.str "new")) daNil)))) (sSeq (sIf (dtOr (dTest (dOp (dEqO false C g_Table___eq__) (dVar 7) (dOp dIx (dVar 6) (dC (.int 0))))) (dtOr (dTest (dOp dNe (dMeth C "take_out" g_Table_take_out (dVar 7) (daCons (dC (.str "yyy")) daNil)) (dC (.str "new")))) (dtNot (dTest (dCB g__law_are_alike (daCons (dVar 0) (daCons (dVar 6) (daCons (dVar 2) daNil)))))))) (sRet (dC (.bl false))) sNext) (sSeq (sDrop (dMeth C "grow" g_Table_grow (dVar 7) (daCons (dOp dMul (dC (.int 2)) (dVar 3)) daNil))) (sSeq (sIf (dTest (dOp (dEqO false C g_Table___eq__) (dVar 7) (dOp dIx (dVar 6) (dC (.int 2))))) (sRet (dC (.bl false))) sNext) (sSeq (sDrop (dMeth C "grow" g_Table_grow (dVar 7) (daCons (dVar 3) daNil))) (sRet (dCB g__law_are_alike (daCons (dVar 0) (daCons (dVar 6) (daCons (dVar 2) daNil)))))))))))))))))
end DL
--ELX
--ELO
--ELP
--ELQ
--ELR
--ELS
namespace DL
open PySem PySem.Spec PyProof.Rows L2 LamX PySem.W SL
def NoY (z : Str) : Prop := ∀ c ∈ sg z, c ≠ 113 ∧ c ≠ 121
def g_nameY : DRs := fun ds st Q => ∃ (p n : Nat), ds = [.ref p] ∧ Pot (n + 9) p st ∧ ∀ (z : Str) (o : O), Word 1 z → NoY z → PotO n o → Q (.str z) (st.set p o)
theorem ar_nameY (ds : List D) (st : DSt) (Q : DK) (h : g_nameY ds st Q) : ds.length = 1 := by
  obtain ⟨p, n, rfl, _⟩ := h
  rfl
def LETY : Str := "abcdefghijklmnoprstuvwxz"
theorem LETY_sg : sg LETY = (List.range 16).map (97 + ·) ++ ((List.range 7).map (114 + ·) ++ [122]) := by decide +kernel
theorem LETY_mem {c : Nat} (h : c ∈ sg LETY) : (97 ≤ c ∧ c ≤ 122) ∧ c ≠ 113 ∧ c ≠ 121 := by
  rw [LETY_sg, List.mem_append, List.mem_append, List.mem_map, List.mem_map] at h
  rcases h with ⟨i, hi, rfl⟩ | ⟨i, hi, rfl⟩ | h
  · have := List.mem_range.mp hi; omega
  · have := List.mem_range.mp hi; omega
  · have := List.mem_singleton.mp h; omega
theorem sem_nameY (ds : List D) (st : DSt) (Q : DK) (h : g_nameY ds st Q) : F__law_drawn_name_v3 g_ofX { nx := fun _ st' => Rt st Q .non st', rt := Rt st Q } (startD 2 ds) st := by
  obtain ⟨p, n, rfl, pot, q⟩ := h
  have st2 : startD 2 [D.ref p] = [some (.ref p), none] := rfl
  have big : (100000 : Nat) ≤ sizeLine := by decide
  simp only [F__law_drawn_name_v3, st2]
  exists 1
  refine ⟨p, _, [1, 2, 1, 3, 8].map fun i : Nat => D.int i, n + 8, rfl, .inl rfl, by simp, by simp, pot, fun d o hd po => ?_⟩
  obtain ⟨w, hw, rfl⟩ := List.mem_map.mp hd
  have w8 : 1 ≤ w ∧ w ≤ 8 := by
    simp only [List.mem_cons, List.not_mem_nil, or_false] at hw
    omega
  exists 1
  refine ⟨⟨by omega, by omega⟩, by rw [rgD_length]; omega, ?_⟩
  rw [Int.toNat_natCast]
  refine compL_inv w (fun k acc st' => ∃ (l : List Nat) (o : O), acc = l.map (fun c => D.str ⟨#[c]⟩) ∧ l.length = k ∧ (∀ c ∈ l, (97 ≤ c ∧ c ≤ 122) ∧ c ≠ 113 ∧ c ≠ 121) ∧ PotO (n + 8 - k) o ∧ k ≤ w ∧ st' = st.set p o) ?_ ?_ _ _ 0 _ (by rw [rgD_length]; omega) ⟨[], o, rfl, rfl, (fun c hc => by cases hc), po, Nat.zero_le _, rfl⟩
  · rintro k d acc st' N lk ⟨l, o1, rfl, ll, hl, po1, _, rfl⟩ hN
    exists 1
    refine ⟨p, _, sgnsD LETY, n + 8 - (k + 1), rfl, .inr ⟨LETY, rfl, by decide +kernel, rfl⟩, ?_, ?_, ?_, fun d2 o2 hd2 po2 => ?_⟩
    · intro e
      have := congrArg List.length e
      rw [sgns_len, LETY_sg] at this
      simp at this
    · rw [sgns_len, LETY_sg]; simp
    · exact pot.set2 (po1.less (by omega))
    · obtain ⟨c, hc, rfl⟩ := sgns_mem hd2
      have hc2 := LETY_mem hc
      rw [List.set_set]
      refine hN _ _ ⟨l ++ [c], o2, by rw [List.map_append]; rfl, by rw [List.length_append, ll]; rfl, fun c' hc' => ?_, po2, by omega, rfl⟩
      rcases List.mem_append.mp hc' with e | e
      · exact hl c' e
      · rw [List.mem_singleton.mp e]; exact hc2
  · rintro acc st' ⟨l, o1, rfl, ll, hl, po1, _, rfl⟩
    have e1 : strsD (l.map fun c => D.str ⟨#[c]⟩) = some (l.map fun c => (⟨#[c]⟩ : Str)) := by
      have z := strsD_strs (l.map fun c => (⟨#[c]⟩ : Str))
      rw [List.map_map] at z
      exact z
    have hl1 : Ltr l := fun c hc => (hl c hc).1
    have hl2 : ∀ c ∈ l, c ≠ 113 ∧ c ≠ 121 := fun c hc => (hl c hc).2
    have e2 : ((l.map fun c => (⟨#[c]⟩ : Str)).map (·.length)).sum = l.length := by
      rw [List.map_map]
      clear e1 hl hl1 hl2 ll
      induction l with
      | nil => rfl
      | cons a r ih => rw [List.map_cons, List.sum_cons, ih]; show 1 + _ = _; rw [List.length_cons]; omega
    exists 1, e1
    refine ⟨?_, .inl (q _ _ ⟨by rw [sg_join]; omega, by rw [sg_join]; omega, by rw [sg_join]; exact hl1⟩ (fun c hc => by rw [sg_join] at hc; exact hl2 c hc) (po1.less (by omega)))⟩
    rw [e2]
    show _ + _ * 0 ≤ _
    omega
theorem yyy_w : Word 1 "yyy" := ⟨by decide +kernel, by decide +kernel, by intro c hc; have e : sg "yyy" = [121, 121, 121] := (by decide +kernel); rw [e] at hc; simp at hc; omega⟩
theorem new_w : Word 0 "new" := ⟨by decide +kernel, by decide +kernel, by intro c hc; have e : sg "new" = [110, 101, 119] := (by decide +kernel); rw [e] at hc; simp at hc; omega⟩
theorem not_yyy {z : Str} (h : NoY z) : z ≠ "yyy" := by
  intro e
  subst e
  exact (h 121 (by decide +kernel)).2 rfl
theorem sg_cut {z : Str} {k : Nat} : sg (L2.cutS z none (some (k : Int))) = (sg z).take k := by
  unfold L2.cutS
  rw [HT.sIx_none, HT.sIx_nat]
  show (((z.cps.toList.drop 0).take (min k z.length - 0)).toArray).toList = _
  simp only [List.drop_zero, Nat.sub_zero, List.toList_toArray]
  have e : z.length = (sg z).length := by show z.cps.size = z.cps.toList.length; simp
  show (sg z).take _ = _
  rw [e]
  rw [List.take_eq_take_iff]
  omega
theorem sg_app {a b : Str} : sg (a ++ b) = sg a ++ sg b := by
  show (a.cps ++ b.cps).toList = _
  rw [Array.toList_append]
  rfl
theorem aside_sg {z : Str} : sg ("q" ++ L2.cutS z none (some 7)) = 113 :: (sg z).take 7 := by
  have h := sg_cut (z := z) (k := 7)
  have e : sg "q" = [113] := by decide +kernel
  rw [sg_app, e]
  exact congrArg (113 :: ·) h
theorem aside_w {z : Str} (w : Word 1 z) : Word 1 ("q" ++ L2.cutS z none (some 7)) := by
  obtain ⟨h1, h2, h3⟩ := w
  refine ⟨by rw [aside_sg, List.length_cons]; omega, by rw [aside_sg, List.length_cons, List.length_take]; omega, fun c hc => ?_⟩
  rw [aside_sg] at hc
  rcases List.mem_cons.mp hc with e | e
  · omega
  · exact h3 c (List.mem_of_mem_take e)
end DL
--ELX
--ELO
--ELP
--ELQ
--ELR
--ELS
namespace DL
open PySem PySem.Spec PyProof.Rows L2 LamX PySem.W SL
theorem comp_no {te : DTE} {r : DEnv} {Q : List D → DSt → Prop} {st : DSt} {I : DIt} {i : Nat} {α : Type} (es : I.src = none) (f h : α → D) :
    ∀ (items : List α) (acc : List D), (∀ a ∈ items, Ev te (r.set i (some (f a))) st (h a)) → Q (acc ++ items.map h) st → compL I (gNm i) dtYes te r Q (items.map f) acc st
  | [], acc, _, q => by
    have q' : Q acc st := by simpa using q
    show okI I st (Q acc st)
    unfold okI
    rw [es]
    exact q'
  | a :: as, acc, hh, q => by
    show okI I st (te (r.set i (some (f a))) st fun y st4 => compL I (gNm i) dtYes te r Q (as.map f) (acc ++ [y]) st4)
    unfold okI
    rw [es]
    refine hh a List.mem_cons_self _ ?_
    exact comp_no es f h as _ (fun b hb => hh b (List.mem_cons_of_mem _ hb)) (by simpa using q)
theorem all_end84 {ds : List D} {Q : DK} {st : DSt} (h : ∀ d ∈ ds, d = .bl true) (q : Q (.bl true) st) : finT (fun d st1 => dAllR (fun bs => bs.all id) [d] st1 Q) ds st := by
  have e : ds = (List.replicate ds.length true).map D.bl := by
    refine List.ext_getElem (by simp) fun i h1 h2 => ?_
    rw [h _ (List.getElem_mem h1)]
    simp
  have b : ∀ l : List Bool, boolsD (l.map D.bl) = some l := fun l => by
    induction l with
    | nil => rfl
    | cons x r ih => simp [boolsD, ih]
  show dAllR (fun bs => bs.all id) [.lst ds] st Q
  rw [e, e_allR, b]
  have z : (List.replicate ds.length true).all id = true := by simp
  show Q (.bl ((List.replicate ds.length true).all id)) st
  rw [z]
  exact q
theorem all_lst {α : Type} {xs : List α} {Q : DK} {st : DSt} (q : Q (.bl true) st) : dAll [.lst (xs.map fun _ => D.bl true)] st Q := by
  have z : finT (fun d st1 => dAllR (fun bs => bs.all id) [d] st1 Q) (xs.map fun _ => D.bl true) st := by
    refine all_end (p := fun _ : α => true) ?_
    rw [List.all_eq_true.mpr fun _ _ => rfl]
    exact q
  simp only [e_finT] at z
  exact z
section
variable {C : Addr}
def Alk (p u : Nat) (C : Addr) (far tri : Bool) (c m : Nat) (P : List (List Int)) (R : List (List (List Int))) (h : List Nat) (f : Nat → Str) (S : DSt) (n : Nat) : Prop :=
  ∃ (i j : Nat) (h' : List Nat) (k' : List (Key × D)), Tab C far tri c m n i j P R h' k' S ∧ Ct k' h' f ∧ h'.Perm h ∧ n ≠ p ∧ i ≠ p ∧ j ≠ p ∧ i ≠ u
theorem Alk.set {p u : Nat} {far tri : Bool} {c m : Nat} {P : List (List Int)} {R : List (List (List Int))} {h : List Nat} {f : Nat → Str} {S : DSt} {n : Nat} {o : O} (A : Alk p u C far tri c m P R h f S n) : Alk p u C far tri c m P R h f (S.set p o) n := by
  obtain ⟨i, j, h', k', T, ct, pm, x1, x2, x3, x4⟩ := A
  exact ⟨i, j, h', k', ⟨by rw [List.getElem?_set_ne (Ne.symm x1)]; exact T.t, by rw [List.getElem?_set_ne (Ne.symm x2)]; exact T.tc, T.ks, by rw [List.getElem?_set_ne (Ne.symm x3)]; exact T.te, T.W, T.hh, T.wd⟩, ct, pm, x1, x2, x3, x4⟩
def g_alike (C : Addr) : DRs := fun ds st Q => ∃ (p t q K n0 n1 n2 : Nat) (far tri : Bool) (c m : Nat) (P : List (List Int)) (R : List (List (List Int))) (h : List Nat) (f : Nat → Str) (kn : List (Key × D)), ds = [.ref p, .ref t, .ref q] ∧ Pot (K + 60) p st ∧ st[t]? = some (.lst [.ref n0, .ref n1, .ref n2]) ∧ st[q]? = some (.dK kn) ∧ Ct kn h f ∧ h.length < 64 ∧
  (∀ n ∈ [n0, n1, n2], Alk p q C far tri c m P R h f st n) ∧ ∀ o : O, PotO K o → Q (.bl true) (st.set p o)
theorem ar_alike (ds : List D) (st : DSt) (Q : DK) (h : g_alike C ds st Q) : ds.length = 3 := by
  obtain ⟨p, t, q, K, n0, n1, n2, far, tri, c, m, P, R, h, f, kn, rfl, _⟩ := h
  rfl
set_option maxHeartbeats 4000000 in
theorem sem_alike (ds : List D) (st : DSt) (Q : DK) (h : g_alike C ds st Q) : F__law_are_alike C (g_valueOf C) (g_lookT C) (g_layoutT C) (g_dists C) (g_eqT C) g_nameY { nx := fun _ st' => Rt st Q .non st', rt := Rt st Q } (startD 8 ds) st := by
  obtain ⟨p, t, qn, K, n0, n1, n2, far, tri, c, m, P, R, h, f, kn, rfl, pot, tl, tq, ct, l64, al, q⟩ := h
  have st8 : startD 8 [D.ref p, D.ref t, D.ref qn] = [some (.ref p), some (.ref t), some (.ref qn), none, none, none, none, none] := rfl
  have big : (100000 : Nat) ≤ sizeLine := by decide
  have lp : p < st.length := by obtain ⟨o, e, _⟩ := pot; exact (List.getElem?_eq_some_iff.mp e).1
  simp only [F__law_are_alike, st8]
  try dsimp only
  rw [e_seq]
  exists 1, tl
  have es : seqS st (.ref t) = some [.ref n0, .ref n1, .ref n2] := by unfold seqS; simp only [tl]
  rw [es]
  have a0 : atI [D.ref n0, D.ref n1, D.ref n2] 0 = some (.ref n0) := rfl
  simp only [e_onO, a0]
  try dsimp only
  rw [e_seq]
  exists 1, onDk_ref tq
  refine ⟨h.map nm, by rw [ct.ks]; unfold keysT; rw [List.map_map]; rfl, by rw [List.length_map]; omega, fun out pm so => ?_⟩
  have wo : ∀ z ∈ out, Word 1 z := fun z hz => by
    obtain ⟨a, ha, rfl⟩ := List.mem_map.mp (pm.mem_iff.mp hz)
    exact (ct.wd a ha).1
  have lo : out.length = h.length := by rw [pm.length_eq, List.length_map]
  refine ⟨⟨by omega, by omega⟩, by rw [rgD_length]; omega, ?_⟩
  obtain ⟨o0, e0, po0⟩ := pot
  refine compL_inv 6 (fun k acc st' => ∃ (zs : List Str) (o : O), acc = zs.map D.str ∧ zs.length = k ∧ (∀ z ∈ zs, Word 1 z) ∧ PotO (K + 60 - 9 * k) o ∧ k ≤ 6 ∧ st' = st.set p o) ?_ ?_ _ _ 0 _ (by rw [rgD_length]; rfl) ⟨[], o0, rfl, rfl, (fun c hc => by cases hc), po0, Nat.zero_le _, (set_same e0).symm⟩
  · rintro k d acc st' N lk ⟨zs, o1, rfl, ll, hl, po1, _, rfl⟩ hN
    exists 1
    refine ⟨p, K + 60 - 9 * (k + 1), rfl, ⟨o1, List.getElem?_set_self lp, po1.less (by omega)⟩, fun z o2 wz _ po2 => ?_⟩
    rw [List.set_set]
    refine hN _ _ ⟨zs ++ [z], o2, by rw [List.map_append]; rfl, by rw [List.length_append, ll]; rfl, fun y hy => ?_, po2, by omega, rfl⟩
    rcases List.mem_append.mp hy with e | e
    · exact hl y e
    · rw [List.mem_singleton.mp e]; exact wz
  · rintro acc st' ⟨zs, o1, rfl, ll, hl, po1, _, rfl⟩
    have ec : cutD (out.map D.str) none (some 6) = (out.take 6).map D.str := by
      have z : HT.sIx (out.map D.str).length (out.map D.str).length (some 6) = min 6 (out.map D.str).length := HT.sIx_nat _ _ 6
      unfold cutD
      rw [HT.sIx_none, z, List.drop_zero, Nat.sub_zero, List.length_map, List.map_take, List.take_eq_take_iff, List.length_map]
      omega
    exists 1
    rw [ec, ← List.map_append]
    have ww : ∀ z ∈ out.take 6 ++ zs, Word 1 z := fun z hz => by
      rcases List.mem_append.mp hz with e | e
      · exact wo z (List.mem_of_mem_take e)
      · exact hl z e
    have lw : (out.take 6 ++ zs).length ≤ 12 := by rw [List.length_append, List.length_take]; omega
    refine ⟨by rw [← List.length_append, ← List.map_append, List.length_map]; omega, ?_⟩
    generalize out.take 6 ++ zs = ws at ww lw ⊢
    obtain ⟨_, _, _, rfl, _⟩ := po0
    have np : t ≠ p := fun e => by rw [e, e0] at tl; cases tl
    have nq : qn ≠ p := fun e => by rw [e, e0] at tq; cases tq
    have tl2 : (st.set p o1)[t]? = some (.lst [.ref n0, .ref n1, .ref n2]) := by rw [List.getElem?_set_ne (Ne.symm np)]; exact tl
    have tq2 : (st.set p o1)[qn]? = some (.dK kn) := by rw [List.getElem?_set_ne (Ne.symm nq)]; exact tq
    have al2 : ∀ n ∈ [n0, n1, n2], Alk p qn C far tri c m P R h f (st.set p o1) n := fun n hn => (al n hn).set
    have fin := q o1 (po1.less (by omega))
    have lS : (st.set p o1).length = st.length := List.length_set
    have fr : Rt st Q (.bl true) (st.set p o1) := Or.inl fin
    generalize st.set p o1 = S at tl2 tq2 al2 fr ⊢
    try dsimp only
    rw [e_seq]
    exists 1
    have es2 : seqS S (.ref t) = some [.ref n0, .ref n1, .ref n2] := by unfold seqS; simp only [tl2]
    unfold dSlV
    simp only [es2, e_onO]
    have cut3 : cutD [D.ref n0, .ref n1, .ref n2] (some 1) none = [.ref n1, .ref n2] := rfl
    rw [cut3]
    exists 1
    refine for_inv (fun left r st' => (∃ (x5 x6 x7 : Option D), r = [some (.ref p), some (.ref t), some (.ref qn), some (.ref n0), some (.lst (ws.map D.str)), x5, x6, x7]) ∧ st' = S ∧ ∀ d ∈ left, ∃ n, d = .ref n ∧ Alk p qn C far tri c m P R h f S n) ?_ ?_ _ _ _ ⟨⟨_, _, _, rfl⟩, rfl, fun d hd => ?_⟩
    · rintro d left r st' N hN ⟨⟨x5, x6, x7, rfl⟩, rfl, hl⟩
      obtain ⟨n, rfl, A⟩ := hl d List.mem_cons_self
      obtain ⟨i, j, h1, k1, T, ct1, pm1, _, _, _, iq⟩ := A
      obtain ⟨i0, j0, h0, k0, T0, ct0, pm0, _⟩ := al2 n0 List.mem_cons_self
      have pp : h1.Perm h0 := pm1.trans pm0.symm
      obtain ⟨eL, _⟩ := lay_same T.W T.hh pp
      have hn : ∀ d ∈ left, ∃ n, d = .ref n ∧ Alk p qn C far tri c m P R h f st' n := fun d hd => hl d (List.mem_cons_of_mem _ hd)
      exists 1
      try dsimp only
      rw [e_seq]
      exists 1, onIns_ref T.t
      refine ⟨by unfold TyD; simp only [T0.t], ?_⟩
      refine eq_tabs T.t T.tc T0.t T0.tc ct1 ct0 true (.inl ⟨rfl, rfl, rfl, rfl, pp, fun a ha => rfl⟩) ⟨_, rfl, ?_⟩
      simp only [if_true, Bool.not_true, Bool.false_eq_true, if_false]
      exists 1, onIns_ref T.t
      refine ⟨lk_layout, far, tri, c, _, _, _, _, rfl, T.t, T.te, ?_⟩
      exists 1, onIns_ref T0.t
      refine ⟨lk_layout, far, tri, c, _, _, _, _, rfl, T0.t, T0.te, ?_⟩
      rw [eL]
      try dsimp only
      refine ne_tup (lay_ent T0.W T0.hh T0.wd) (by decide) ?_
      simp only [e_onB, Bool.false_eq_true, if_false]
      have l1 : h1.length < 64 := by rw [pm1.length_eq]; exact l64
      have l0 : h0.length < 64 := by rw [pm0.length_eq]; exact l64
      rw [onIns_ref T.t]
      refine ⟨lk_distances, far, tri, c, m, n, i, j, P, R, h1, k1, rfl, T, l1, ?_⟩
      exists 1, onIns_ref T0.t
      refine ⟨lk_distances, far, tri, c, m, n0, i0, j0, P, R, h0, k0, rfl, T0, l0, ?_⟩
      have dd : distD P (layF P R h1) h1 = distD P (layF P R h0) h0 := by
        unfold distD
        rw [eL, srtN_eq pp]
      rw [dd]
      try dsimp only
      refine ne_tup (sm_dist T0.W T0.hh T0.wd) (by decide) ?_
      simp only [e_onB, Bool.false_eq_true, if_false]
      try dsimp only
      rw [e_seq]
      exists 1
      refine ⟨by rw [List.length_map]; omega, ?_⟩
      refine comp_no rfl D.str (fun _ => .bl true) ws [] (fun z hz Q2 q2 => ?_) ?_
      · have wz := ww z hz
        exists 1, onIns_ref T.t
        refine ⟨lk_look_up, far, tri, c, m, n, i, j, P, R, h1, k1, z, rfl, T, wz, ?_⟩
        exists 1, onIns_ref T0.t
        refine ⟨lk_look_up, far, tri, c, m, n0, i0, j0, P, R, h0, k0, z, rfl, T0, wz, ?_⟩
        rw [eL]
        try dsimp only
        refine eq_tup (sm_seek T0.W.S T0.W.o.l (T0.W.lt _ wz.wd)) (by decide) ?_
        exact q2
      · refine all_end84 (fun d hd => ?_) ?_
        · rw [List.nil_append] at hd
          obtain ⟨_, _, rfl⟩ := List.mem_map.mp hd
          rfl
        · exists 1
          rw [onDk_ref tq2]
          intro ob ys
          have lq : qn < st'.length := (List.getElem?_eq_some_iff.mp tq2).1
          have qn1 : qn ≠ n := fun e => by rw [e, T.t] at tq2; cases tq2
          have ownL : (st'.set qn (O.lk ob ys kn))[qn]? = some (.lk ob ys kn) := List.getElem?_set_self lq
          have back : (st'.set qn (O.lk ob ys kn)).set qn (O.dK kn) = st' := by rw [List.set_set]; exact set_same tq2
          have t2 : (st'.set qn (O.lk ob ys kn))[n]? = some (.ins C (fsT far tri c i j)) := by rw [List.getElem?_set_ne qn1]; exact T.t
          have tc2 : (st'.set qn (O.lk ob ys kn))[i]? = some (.dK k1) := by rw [List.getElem?_set_ne (Ne.symm iq)]; exact T.tc
          rw [onLk_ref ownL, keysT_K ct.ks]
          refine ⟨by rw [List.length_map]; omega, ?_⟩
          generalize st'.set qn (O.lk ob ys kn) = stL at ownL back t2 tc2
          refine comp_lk rfl ownL (fun a : Nat => D.str (nm a)) (fun _ => .bl true) h [] (fun a ha Q2 q2 => ?_) ?_
          · have a1 : a ∈ h1 := pm1.mem_iff.mpr ha
            exists 1, onIns_ref t2
            refine ⟨lk_value_of, far, tri, c, n, i, j, k1, nm a, _, rfl, t2, tc2, (ct.wd a ha).1, ct1.v a a1, ?_⟩
            try dsimp only
            rw [onDr_l ownL, ct.v a ha]
            exists 1
            rw [decide_eq_true trivial]
            exact q2
          · refine ⟨ownL, ?_⟩
            rw [back]
            rw [List.nil_append]
            refine all_lst ?_
            simp only [e_onB, Bool.not_true, Bool.false_eq_true, if_false]
            exact hN _ _ (.inl ⟨⟨_, _, _, rfl⟩, rfl, hn⟩)
    · rintro r st' ⟨⟨x5, x6, x7, rfl⟩, rfl, _⟩
      exists 1
      exact fr
    · rcases List.mem_cons.mp hd with e | e
      · exact ⟨n1, e, al2 n1 (by simp)⟩
      · exact ⟨n2, List.mem_singleton.mp e, al2 n2 (by simp)⟩
end
end DL
--ELX
--ELO
--ELP
--ELQ
--ELR
--ELS
namespace DL
open PySem PySem.Spec PyProof.Rows L2 LamX PySem.W SL
def g_shufR : DRs := fun ds st Q => ∃ (p : Nat) (x : D) (xs : List D) (n : Nat), ds = [.ref p, x] ∧ seqS st x = some xs ∧ x ≠ .ref p ∧ xs.length ≤ 900 ∧ (∀ d ∈ xs, Sm 30 100000 d) ∧ Pot (n + xs.length) p st ∧ ∀ (ys : List D) (o : O), ys.Perm xs → PotO n o → Q (.ref (st.length + 1)) (st.set p o ++ [.lst [], .lst ys])
theorem ar_shufR (ds : List D) (st : DSt) (Q : DK) (h : g_shufR ds st Q) : ds.length = 2 := by
  obtain ⟨p, x, xs, n, rfl, _⟩ := h
  rfl
set_option maxHeartbeats 2000000 in
theorem sem_shufR (ds : List D) (st : DSt) (Q : DK) (h : g_shufR ds st Q) : F__law_shuffled_v3 g_take { nx := fun _ st' => Rt st Q .non st', rt := Rt st Q } (startD 4 ds) st := by
  obtain ⟨p, x, xs, n, rfl, sq, ne, l, sm, ⟨o, e, po⟩, q⟩ := h
  have lt : p < st.length := (List.getElem?_eq_some_iff.mp e).1
  have st4 : startD 4 [D.ref p, x] = [some (.ref p), some x, none, none] := rfl
  simp only [F__law_shuffled_v3, st4]
  try dsimp only
  rw [e_seq]
  exists 1, sq, List.length_append
  have es : st ++ [O.lst xs] ++ [O.lst []] = st.set p o ++ [O.lst xs, O.lst []] := by rw [set_same e]; simp
  have e2 : st.length + [O.lst xs].length = st.length + 1 := rfl
  rw [es, e2]
  try dsimp only
  rw [e_seq]
  refine s_while (fun m r st' => ∃ (left found : List D) (o : O), r = [some (.ref p), some x, some (.ref st.length), some (.ref (st.length + 1))] ∧ st' = st.set p o ++ [.lst left, .lst found] ∧ PotO (n + left.length) o ∧ (found ++ left).Perm xs ∧ m = left.length) xs.length ⟨xs, [], o, rfl, rfl, po, by simp, rfl⟩ ?_
  rintro m r st' N hN ⟨left, found, o, rfl, rfl, po, pm, rfl⟩
  have ll : (st.set p o).length = st.length := List.length_set
  have sml : ∀ d ∈ left, Sm 30 100000 d := fun d hd => sm d (pm.mem_iff.mp (List.mem_append_right _ hd))
  have smf : ∀ d ∈ found, Sm 30 100000 d := fun d hd => sm d (pm.mem_iff.mp (List.mem_append_left _ hd))
  exists 1
  refine ne_nil own0 sml (by decide) ?_
  cases left with
  | nil =>
    exists 1
    rw [if_neg (by simp)]
    exact .inl (q found o (by simpa using pm) po)
  | cons z rest =>
    exists 1
    rw [if_pos (by simp)]
    exists 1, seq_ref own0
    have lxs := pm.length_eq
    rw [List.length_append, List.length_cons] at lxs
    refine ⟨by unfold LstD; simp only [own1], by unfold LstD; simp only [own0], ?_⟩
    rw [List.length_cons]
    refine take_ev (n := n + rest.length) (pot_at lt po) (by omega) (by omega) fun r o' r1 po' => ?_
    rw [pot_app lt]
    have hr : (r : Int).toNat < (z :: rest).length := by rw [List.length_cons]; omega
    refine pop_ref own0 (by omega) hr (by rw [List.length_cons]; omega) ?_
    rw [put0]
    refine append_ref own1 (small1000 (by omega)) ?_
    rw [put1]
    have le : ((z :: rest).eraseIdx (r : Int).toNat).length = rest.length := by
      rw [List.length_eraseIdx_of_lt hr, List.length_cons]
      omega
    refine hN rest.length _ _ (by simp) (.inl ⟨_, _, o', rfl, rfl, by rw [le]; exact po', ?_, le.symm⟩)
    refine List.Perm.trans ?_ pm
    rw [List.append_assoc]
    exact List.Perm.append_left found (take_outD _ _ hr)
end DL
--ELX
--ELO
--ELP
--ELQ
--ELR
--ELS
namespace DL
open PySem PySem.Spec PyProof.Rows L2 LamX PySem.W SL
theorem Ct.cong {kvs : List (Key × D)} {h : List Nat} {f g : Nat → Str} (c : Ct kvs h f) (e : ∀ a ∈ h, f a = g a) : Ct kvs h g := ⟨c.vo, c.ks, c.nd, c.wd, fun a ha => by rw [c.v a ha, e a ha]⟩
structure Bld (C : Addr) (far tri : Bool) (c m n i j p k b : Nat) (P : List (List Int)) (R : List (List (List Int))) (h : List Nat) (kvs : List (Key × D)) (f : Nat → Str) (st S : DSt) : Prop where
  T : Tab C far tri c m n i j P R h kvs S
  ct : Ct kvs h f
  po : Pot k p S
  le : b ≤ S.length
  fr : ∀ x, x < b → x ≠ p → S[x]? = st[x]?
  pb : p < b
  bn : b ≤ n
  bi : b ≤ i
  bj : b ≤ j
section
variable {C : Addr} {far tri : Bool} {c m n i j p k b : Nat} {P : List (List Int)} {R : List (List (List Int))} {h : List Nat} {kvs : List (Key × D)} {f : Nat → Str} {st S : DSt}
theorem Bld.less {k' : Nat} (B : Bld C far tri c m n i j p k b P R h kvs f st S) (l : k' ≤ k) : Bld C far tri c m n i j p k' b P R h kvs f st S := { B with po := B.po.less l }
theorem Bld.cong {g : Nat → Str} (B : Bld C far tri c m n i j p k b P R h kvs f st S) (e : ∀ a ∈ h, f a = g a) : Bld C far tri c m n i j p k b P R h kvs g st S := { B with ct := B.ct.cong e }
theorem Bld.base {o : O} (B : Bld C far tri c m n i j p k b P R h kvs f (st.set p o) S) : Bld C far tri c m n i j p k b P R h kvs f st S :=
  { B with fr := fun x hx np => (B.fr x hx np).trans (List.getElem?_set_ne (fun e => np e.symm)) }
theorem Bld.pot {k' : Nat} {o : O} (B : Bld C far tri c m n i j p k b P R h kvs f st S) (po : PotO k' o) : Bld C far tri c m n i j p k' b P R h kvs f st (S.set p o) := by
  have pb := B.pb
  have bn := B.bn
  have bi := B.bi
  have bj := B.bj
  have ne : ∀ x, b ≤ x → (S.set p o)[x]? = S[x]? := fun x hx => List.getElem?_set_ne (by omega)
  exact ⟨B.T.mv (ne _ bn) (ne _ bi) (ne _ bj), B.ct, B.po.set2 po, by rw [List.length_set]; exact B.le, fun x hx np => by rw [List.getElem?_set_ne (fun e => np e.symm)]; exact B.fr x hx np, pb, bn, bi, bj⟩
theorem Bld.app {X : DSt} (B : Bld C far tri c m n i j p k b P R h kvs f st S) : Bld C far tri c m n i j p k b P R h kvs f st (S ++ X) :=
  ⟨B.T.mv (app_at B.T.t) (app_at B.T.tc) (app_at B.T.te), B.ct, B.po.app, by rw [List.length_append]; have := B.le; omega, fun x hx np => by rw [List.getElem?_append_left (by have := B.le; omega)]; exact B.fr x hx np, B.pb, B.bn, B.bi, B.bj⟩
theorem Bld.wr {x : Nat} {o : O} (B : Bld C far tri c m n i j p k b P R h kvs f st S) (bx : b ≤ x) (xn : x ≠ n) (xi : x ≠ i) (xj : x ≠ j) : Bld C far tri c m n i j p k b P R h kvs f st (S.set x o) := by
  have pb := B.pb
  have ne : ∀ y, y ≠ x → (S.set x o)[y]? = S[y]? := fun y hy => List.getElem?_set_ne (fun e => hy e.symm)
  refine ⟨B.T.mv (ne _ (fun e => xn e.symm)) (ne _ (fun e => xi e.symm)) (ne _ (fun e => xj e.symm)), B.ct, ?_, by rw [List.length_set]; exact B.le, fun y hy np => by rw [ne y (by omega)]; exact B.fr y hy np, pb, B.bn, B.bi, B.bj⟩
  obtain ⟨o1, e, po⟩ := B.po
  exact ⟨o1, by rw [ne p (by omega)]; exact e, po⟩
theorem Bld.put {z v : Str} (B : Bld C far tri c m n i j p k b P R h kvs f st S) (w : Word 1 z) (wv : Word 0 v) (few : num z ∈ h ∨ h.length < c) :
    Bld C far tri c m n i j p k b P R (addN h (num z)) (putD kvs (.inr z) (.str v)) (updS f (num z) v) st ((S.set j (.lst (entD (layF P R (addN h (num z)))))).set i (.dK (putD kvs (.inr z) (.str v)))) := by
  have T := B.T
  have ij : j ≠ i := fun e => by have := T.te; rw [e, T.tc] at this; cases this
  have nj : j ≠ n := fun e => by have := T.te; rw [e, T.t] at this; cases this
  have ni : i ≠ n := fun e => by have := T.tc; rw [e, T.t] at this; cases this
  have bi := B.bi
  have bj := B.bj
  have pb := B.pb
  refine ⟨⟨?_, ?_, keys_put T.ks T.wd w, ?_, T.W, add_hist T.W T.hh w.wd few, add_wd T.wd w.wd⟩, B.ct.put w wv, ?_, ?_, fun x hx np => ?_, pb, B.bn, bi, bj⟩
  · rw [List.getElem?_set_ne ni, List.getElem?_set_ne nj]; exact T.t
  · exact List.getElem?_set_self (by rw [List.length_set]; exact some_lt T.tc)
  · rw [List.getElem?_set_ne ij.symm]
    exact List.getElem?_set_self (some_lt T.te)
  · obtain ⟨o, e, po⟩ := B.po
    exact ⟨o, by rw [List.getElem?_set_ne (by omega), List.getElem?_set_ne (by omega)]; exact e, po⟩
  · rw [List.length_set, List.length_set]; exact B.le
  · rw [List.getElem?_set_ne (by omega), List.getElem?_set_ne (by omega)]
    exact B.fr x hx np
theorem Bld.out {a : Nat} (B : Bld C far tri c m n i j p k b P R h kvs f st S) (ha : a ∈ h) :
    Bld C far tri c m n i S.length p k b P R (delN h a) (dropD kvs (.inr (nm a))) f st ((S.set i (.dK (dropD kvs (.inr (nm a))))).set n (.ins C (fsT far tri c i S.length)) ++ [O.lst (entD (layF P R (delN h a)))]) := by
  have T := B.T
  have wa := T.wd a ha
  have ni : i ≠ n := fun e => by have := T.tc; rw [e, T.t] at this; cases this
  have ln := some_lt T.t
  have li := some_lt T.tc
  have bi := B.bi
  have bn := B.bn
  have pb := B.pb
  have le := B.le
  have kd := keys_drop T.ks T.wd wa.1
  have cd := B.ct.drop wa.1
  rw [wa.2] at kd cd
  have ll : ((S.set i (.dK (dropD kvs (.inr (nm a))))).set n (.ins C (fsT far tri c i S.length))).length = S.length := by rw [List.length_set, List.length_set]
  have app : ∀ (x : Nat) (X : DSt), x < S.length → ((S.set i (.dK (dropD kvs (.inr (nm a))))).set n (.ins C (fsT far tri c i S.length)) ++ X)[x]? = ((S.set i (.dK (dropD kvs (.inr (nm a))))).set n (.ins C (fsT far tri c i S.length)))[x]? := fun x X hx => List.getElem?_append_left (by rw [ll]; exact hx)
  refine ⟨⟨?_, ?_, kd, ?_, T.W, delN_hist T.hh, fun b hb => T.wd b (delN_mem.mp hb).1⟩, cd, ?_, ?_, fun x hx np => ?_, pb, bn, bi, by omega⟩
  · rw [app _ _ ln]
    exact List.getElem?_set_self (by rw [List.length_set]; exact ln)
  · rw [app _ _ li, List.getElem?_set_ne ni.symm]
    exact List.getElem?_set_self li
  · rw [List.getElem?_append_right (by omega), ll, Nat.sub_self]
    rfl
  · obtain ⟨o, e, po⟩ := B.po
    exact ⟨o, by rw [app _ _ (by omega), List.getElem?_set_ne (by omega), List.getElem?_set_ne (by omega)]; exact e, po⟩
  · rw [List.length_append, ll]; omega
  · rw [app _ _ (by omega), List.getElem?_set_ne (by omega), List.getElem?_set_ne (by omega)]
    exact B.fr x hx np
theorem Bld.grow {c' m' : Nat} {P' : List (List Int)} {R' : List (List (List Int))} (B : Bld C far tri c m n i j p k b P R h kvs f st S) (W' : NmS far tri c' m' P' R') (few : h.length ≤ c') :
    Bld C far tri c' m' n i S.length p k b P' R' h kvs f st (S.set n (.ins C (fsT far tri c' i S.length)) ++ [.lst (entD (layF P' R' h))]) := by
  have T := B.T
  have ni : i ≠ n := fun e => by have := T.tc; rw [e, T.t] at this; cases this
  have ln := some_lt T.t
  have li := some_lt T.tc
  have bn := B.bn
  have pb := B.pb
  have le := B.le
  have ne : ∀ x, x < S.length → x ≠ n → (S.set n (.ins C (fsT far tri c' i S.length)) ++ [O.lst (entD (layF P' R' h))])[x]? = S[x]? := fun x hx nb => by rw [List.getElem?_append_left (by rw [List.length_set]; exact hx), List.getElem?_set_ne (fun e => nb e.symm)]
  refine ⟨⟨?_, ?_, T.ks, ?_, W', ⟨T.hh.nd, fun a ha => W'.lt a (T.wd a ha), few⟩, T.wd⟩, B.ct, ?_, ?_, fun x hx np => ?_, pb, bn, B.bi, by omega⟩
  · rw [List.getElem?_append_left (by rw [List.length_set]; exact ln)]
    exact List.getElem?_set_self ln
  · rw [ne _ li ni]; exact T.tc
  · rw [List.getElem?_append_right (by rw [List.length_set]; exact Nat.le_refl _), List.length_set, Nat.sub_self]; rfl
  · obtain ⟨o, e, po⟩ := B.po
    exact ⟨o, by rw [ne p (by omega) (by omega)]; exact e, po⟩
  · rw [List.length_append, List.length_set]; omega
  · rw [ne x (by omega) (by omega)]; exact B.fr x hx np
theorem bld_new (lp : p < st.length) (W : NmS far tri c m P R) (po : Pot k p st) :
    Bld C far tri c m st.length (st.length + 1) (st.length + 2) p k st.length P R [] [] f st (st ++ [O.ins C (fsT far tri c (st.length + 1) (st.length + 2)), .dK [], .lst (entD (layF P R []))]) :=
  ⟨⟨g3 0, g3 1, rfl, g3 2, W, ⟨List.nodup_nil, fun k hk => (by cases hk), Nat.zero_le _⟩, fun a ha => (by cases ha)⟩, ⟨VOk.nil, rfl, List.nodup_nil, fun a ha => (by cases ha), fun a ha => (by cases ha)⟩, po.app, by rw [List.length_append]; omega, fun x hx np => List.getElem?_append_left hx, lp, Nat.le_refl _, by omega, by omega⟩
theorem put_oth {x : Nat} {X Y : O} (xi : x ≠ i) (xj : x ≠ j) : ((S.set j X).set i Y)[x]? = S[x]? := by
  rw [List.getElem?_set_ne (fun e => xi e.symm), List.getElem?_set_ne (fun e => xj e.symm)]
theorem out_oth {x : Nat} {X Y Z : O} (lx : x < S.length) (xi : x ≠ i) (xn : x ≠ n) : ((S.set i X).set n Y ++ [Z])[x]? = S[x]? := by
  rw [List.getElem?_append_left (by rw [List.length_set, List.length_set]; exact lx), List.getElem?_set_ne (fun e => xn e.symm), List.getElem?_set_ne (fun e => xi e.symm)]
theorem grow_oth {x : Nat} {Y Z : O} (lx : x < S.length) (xn : x ≠ n) : (S.set n Y ++ [Z])[x]? = S[x]? := by
  rw [List.getElem?_append_left (by rw [List.length_set]; exact lx), List.getElem?_set_ne (fun e => xn e.symm)]
def g_byX (C : Addr) : DRs := fun ds st Q => ∃ (p q K : Nat) (far tri : Bool) (c m : Nat) (P : List (List Int)) (R : List (List (List Int))) (h : List Nat) (f : Nat → Str) (kn : List (Key × D)), ds = [.ref p, .ref q, .int c, kindD far tri] ∧ NmS far tri c m P R ∧ Pot (K + 1000) p st ∧ st[q]? = some (.dK kn) ∧ Ct kn h f ∧ h.length < c ∧ h.length ≤ 30 ∧ (∀ a ∈ h, NoY (nm a)) ∧
  ∀ (S : DSt) (n i j : Nat) (h' : List Nat) (k' : List (Key × D)), Bld C far tri c m n i j p K st.length P R h' k' f st S → h'.Perm h → Q (.ref n) S
theorem ar_byX (ds : List D) (st : DSt) (Q : DK) (h : g_byX C ds st Q) : ds.length = 4 := by
  obtain ⟨p, q, K, far, tri, c, m, P, R, h, f, kn, rfl, _⟩ := h
  rfl
end
end DL
--ELX
--ELO
--ELP
--ELQ
--ELR
--ELS
namespace DL
open PySem PySem.Spec PyProof.Rows L2 LamX PySem.W SL
section
variable {C : Addr}
theorem addN_new {h : List Nat} {a : Nat} (na : a ∉ h) : addN h a = h ++ [a] := by
  unfold addN
  rw [if_neg na]
theorem Bld.put_same {far tri : Bool} {c m n i j p k b : Nat} {P : List (List Int)} {R : List (List (List Int))} {h : List Nat} {kvs : List (Key × D)} {f : Nat → Str} {st S : DSt} {a : Nat} (B : Bld C far tri c m n i j p k b P R h kvs f st S) (wa : Wd a) (wv : Word 0 (f a)) (few : a ∈ h ∨ h.length < c) :
    Bld C far tri c m n i j p k b P R (addN h a) (putD kvs (.inr (nm a)) (.str (f a))) f st ((S.set j (.lst (entD (layF P R (addN h a))))).set i (.dK (putD kvs (.inr (nm a)) (.str (f a))))) := by
  have z := B.put (z := nm a) (v := f a) wa.1 wv (by rw [wa.2]; exact few)
  rw [wa.2] at z
  exact z.cong fun x hx => by
    unfold updS
    split
    · next e => rw [e]
    · rfl
theorem shuf_known {S : DSt} {qn p K : Nat} {kn : List (Key × D)} {h : List Nat} {f : Nat → Str} {Q : DK} (e : S[qn]? = some (.dK kn)) (ct : Ct kn h f) (l : h.length < 64) (pot : Pot (K + h.length) p S) (q : ∀ (ks : List Nat) (o : O), ks.Perm h → PotO K o → Q (.ref (S.length + 1)) (S.set p o ++ [.lst [], .lst (namesL ks)])) :
    onDk S (.ref qn) fun x kvs => ∃ ks : List Str, kvs.map (·.1) = ks.map Sum.inr ∧ ks.length < 64 ∧ ∀ out : List Str, out.Perm ks → sortedS out = true → g_shufR [.ref p, .lst (out.map D.str)] S Q := by
  have pS := srtN_perm h
  have wdS : ∀ a ∈ srtN h, Wd a := fun a ha => ct.wd a (pS.mem_iff.mp ha)
  have lnD : (namesD h).length = h.length := by unfold namesD; rw [List.length_map, pS.length_eq]
  refine names_at (F := fun xs => g_shufR [.ref p, .lst xs] S Q) e ct.ks ct.wd l ?_
  refine ⟨p, _, namesD h, K, rfl, rfl, (fun z => by cases z), by omega, fun d hd => ?_, by rw [lnD]; exact pot, fun ys o2 pm po2 => ?_⟩
  · obtain ⟨a, ha, rfl⟩ := List.mem_map.mp hd
    obtain ⟨p0, e1, e2⟩ := sm_name ((wdS a ha).1.mono (by decide))
    exact ⟨p0, e1, e2.mono (by decide) (by decide)⟩
  obtain ⟨ks, pk, rfl⟩ := perm_names wdS (show ys.Perm (namesL (srtN h)) from pm)
  exact q ks o2 (pk.trans pS) po2
theorem sm_namesL {ks : List Nat} (wd : ∀ a ∈ ks, Wd a) : ∀ d ∈ namesL ks, Sm 30 100000 d := fun d hd => by
  obtain ⟨a, ha, rfl⟩ := List.mem_map.mp hd
  obtain ⟨p0, e1, e2⟩ := sm_name ((wd a ha).1.mono (by decide))
  exact ⟨p0, e1, e2.mono (by decide) (by decide)⟩
theorem drop_names {a : Nat} {l : List Nat} : (namesL (l ++ [a])).dropLast = namesL l := by
  have e1 : namesL (l ++ [a]) = namesL l ++ [.str (nm a)] := by unfold namesL; rw [List.map_append]; rfl
  rw [e1, List.dropLast_concat]
theorem pop_names {S : DSt} {n a : Nat} {l : List Nat} {G : Nat → List D → D → Prop} (e : S[n]? = some (.lst (namesL (l ++ [a])))) (q : G n (namesL (l ++ [a])) (.str (nm a))) : onL S (.ref n) fun n xs => onO xs[xs.length - 1]? fun d => G n xs d := by
  unfold onL
  simp only [e]
  have e1 : (namesL (l ++ [a]))[(namesL (l ++ [a])).length - 1]? = some (.str (nm a)) := by
    have e1 : namesL (l ++ [a]) = namesL l ++ [.str (nm a)] := by unfold namesL; rw [List.map_append]; rfl
    rw [e1, List.length_append, List.length_singleton, Nat.add_sub_cancel, List.getElem?_append_right (Nat.le_refl _), Nat.sub_self]
    rfl
  rw [e1]
  exact q
theorem it_ref {S : DSt} {n : Nat} {xs : List D} (e : S[n]? = some (.lst xs)) : itOf S (.ref n) = some ⟨xs, some (n, .lst xs)⟩ := by
  unfold itOf
  simp only [e]
theorem ok_ref {S : DSt} {n : Nat} {xs : List D} {o : O} {p : Prop} (e : S[n]? = some o) (h : p) : okI ⟨xs, some (n, o)⟩ S p := ⟨e, h⟩
set_option maxHeartbeats 4000000 in
theorem sem_grown (ds : List D) (st : DSt) (Q : DK) (h : g_byX C ds st Q) : F__law_by_growing C (g_init C) (g_put C) (g_lenT C) (g_slotsT C) (g_grow C) g_ofX g_shufR { nx := fun _ st' => Rt st Q .non st', rt := Rt st Q } (startD 8 ds) st := by
  obtain ⟨p, qn, K, far, tri, c, m, P, R, h, f, kn, rfl, W, pot, tq, ct, lc, l30, nY, q⟩ := h
  have st8 : startD 8 [D.ref p, D.ref qn, D.int c, kindD far tri] = [some (.ref p), some (.ref qn), some (.int c), some (.tup [.str (wayS tri), .str (ruleS far)]), none, none, none, none] := rfl
  have big : (100000 : Nat) ≤ sizeLine := by decide
  have lp : p < st.length := by obtain ⟨o, e, _⟩ := pot; exact (List.getElem?_eq_some_iff.mp e).1
  have np : qn ≠ p := fun e => by obtain ⟨o, e0, _, _, _, rfl, _⟩ := pot; rw [e, e0] at tq; cases tq
  have lq := some_lt tq
  obtain ⟨sz, hsz⟩ : ∃ sz : List Nat, sz = if tri = true then [1, 2, 4, 8, 16, 32, 64] else [1, 3, 7, 12, 33, 64] := ⟨_, rfl⟩
  have ok : ∀ x ∈ sz, OkC tri x := fun x hx => by
    rw [hsz] at hx
    cases tri with
    | true =>
      simp only [if_true, List.mem_cons, List.not_mem_nil, or_false] at hx
      exact ⟨by omega, by omega, fun _ => by simp only [List.mem_cons, List.not_mem_nil, or_false]; omega⟩
    | false =>
      simp only [Bool.false_eq_true, if_false, List.mem_cons, List.not_mem_nil, or_false] at hx
      exact ⟨by omega, by omega, fun e => by cases e⟩
  have ne : (sz.map fun i : Nat => D.int i) ≠ [] := by rw [hsz]; cases tri <;> simp
  have lsz : sz.length ≤ 1000 := by rw [hsz]; cases tri <;> simp
  have first : ∀ (G : D → DSt → Prop), G (.lst (sz.map fun i : Nat => D.int i)) st → dIf (dTest (dOp dEq (dOp dIx (dVar 3) (dC (.int 0))) (dC (.str "triangular")))) (dLst (daCons (dC (.int 1)) (daCons (dC (.int 2)) (daCons (dC (.int 4)) (daCons (dC (.int 8)) (daCons (dC (.int 16)) (daCons (dC (.int 32)) (daCons (dC (.int 64)) daNil)))))))) (dLst (daCons (dC (.int 1)) (daCons (dC (.int 3)) (daCons (dC (.int 7)) (daCons (dC (.int 12)) (daCons (dC (.int 33)) (daCons (dC (.int 64)) daNil))))))) [some (.ref p), some (.ref qn), some (.int c), some (.tup [.str (wayS tri), .str (ruleS far)]), none, none, none, none] st G := fun G g => by
    exists 1, at0, at1
    rw [hsz] at g
    cases tri with
    | true => exact iteT' rfl ⟨show 7 ≤ sizeLine by decide, g⟩
    | false => exact iteF' rfl ⟨show 6 ≤ sizeLine by decide, g⟩
  simp only [F__law_by_growing, st8]
  rw [e_seq]
  refine first _ ?_
  try dsimp only
  try dsimp only
  rw [e_seq]
  exists 1
  refine ⟨p, _, sz.map fun i : Nat => D.int i, K + 999, rfl, .inl rfl, ne, by rw [List.length_map]; exact lsz, pot, fun d o1 hd po1 => ?_⟩
  obtain ⟨c0, hc0, rfl⟩ := List.mem_map.mp hd
  obtain ⟨m0, P0, R0, W0⟩ := nmS_ex (far := far) (ok c0 hc0)
  exists 1, at0, at1
  refine ⟨rfl, rfl, far, tri, c0, (st.set p o1).length, rfl, by simp, W0.o, rfl, ?_⟩
  rw [made_at0 W0.S]
  have B0 := bld_new (C := C) (f := f) (by rw [List.length_set]; exact lp) W0 (Pot.set lp po1)
  have B1 := B0.base
  rw [List.length_set] at B1 ⊢
  have q1 : (st.set p o1 ++ [O.ins C (fsT far tri c0 (st.length + 1) (st.length + 2)), .dK [], .lst (entD (layF P0 R0 []))])[qn]? = some (.dK kn) := (B1.fr qn lq np).trans tq
  have l1 : (st.set p o1 ++ [O.ins C (fsT far tri c0 (st.length + 1) (st.length + 2)), .dK [], .lst (entD (layF P0 R0 []))]).length = st.length + 3 := by rw [List.length_append, List.length_set]; rfl
  generalize st.set p o1 ++ [O.ins C (fsT far tri c0 (st.length + 1) (st.length + 2)), .dK [], .lst (entD (layF P0 R0 []))] = S1 at B1 q1 l1 ⊢
  exists 1
  refine shuf_known (K := K + 900) q1 ct (by omega) (B1.po.less (by omega)) fun ks o2 pk po2 => ?_
  have B2 := (B1.pot po2).app (X := [.lst [], .lst (namesL ks)])
  rw [l1]
  have L2 : (S1.set p o2 ++ [.lst [], .lst (namesL ks)])[st.length + 4]? = some (.lst (namesL ks)) := by
    have z := g3 (st := S1.set p o2) (l := [.lst [], .lst (namesL ks)]) 1
    rw [List.length_set, l1] at z
    exact z
  generalize S1.set p o2 ++ [.lst [], .lst (namesL ks)] = S2 at B2 L2 ⊢
  rw [e_seq]
  have rest : ∀ (S : DSt) (h0 left : List Nat) (kv0 : List (Key × D)) (x7 : Option D), Bld C far tri c0 m0 st.length (st.length + 1) (st.length + 2) p (K + 900) st.length P0 R0 h0 kv0 f st S → S[st.length + 4]? = some (.lst (namesL left)) → (h0 ++ left).Perm h →
      (sSeq (sDrop (dMeth C "grow" (g_grow C) (dVar 5) (daCons (dVar 2) daNil))) (sSeq (sFor (wSeq (dVar 6)) (gNm 7) (sDrop (dMeth C "put" (g_put C) (dVar 5) (daCons (dVar 7) (daCons (dOp dGetK (dVar 1) (dVar 7)) daNil))))) (sRet (dVar 5))))
      { nx := fun x st' => Rt st Q D.non st', rt := Rt st Q } [some (.ref p), some (.ref qn), some (.int c), some (.tup [.str (wayS tri), .str (ruleS far)]), some (.lst (sz.map fun i : Nat => D.int i)), some (.ref st.length), some (.ref (st.length + 4)), x7] S := by
    intro S h0 left kv0 x7 B tl pm
    have pl := pm.length_eq
    rw [List.length_append] at pl
    have lS := some_lt tl
    try dsimp only
    rw [e_seq]
    exists 1, onIns_ref B.T.t
    refine ⟨lk_grow, far, tri, c0, m0, _, _, _, c, m, P0, P, R0, R, h0, kv0, rfl, B.T, W, by omega, by omega, ?_⟩
    have B2 := B.grow W (by omega)
    have t2 : (S.set st.length (O.ins C (fsT far tri c (st.length + 1) S.length)) ++ [O.lst (entD (layF P R h0))])[st.length + 4]? = some (.lst (namesL left)) := (grow_oth lS (by omega)).trans tl
    have nj : S.length ≠ st.length + 4 := by omega
    generalize S.set st.length (O.ins C (fsT far tri c (st.length + 1) S.length)) ++ [O.lst (entD (layF P R h0))] = S2 at B2 t2 ⊢
    generalize S.length = j2 at B2 nj
    try dsimp only
    rw [e_seq]
    exists 1, it_ref t2
    refine for_inv (fun rest r S => ∃ (l2 h1 : List Nat) (k1 : List (Key × D)) (x : Option D), rest = namesL l2 ∧ r = [some (.ref p), some (.ref qn), some (.int c), some (.tup [.str (wayS tri), .str (ruleS far)]), some (.lst (sz.map fun i : Nat => D.int i)), some (.ref st.length), some (.ref (st.length + 4)), x] ∧
      Bld C far tri c m st.length (st.length + 1) j2 p (K + 900) st.length P R h1 k1 f st S ∧ S[st.length + 4]? = some (.lst (namesL left)) ∧ (h1 ++ l2).Perm h) ?_ ?_ _ _ _ ⟨left, h0, kv0, x7, rfl, rfl, B2, t2, pm⟩
    · rintro d ds r S N hN ⟨l2, h1, k1, x, e, rfl, B, tl, pm⟩
      obtain ⟨a, l3, rfl, rfl, rfl⟩ : ∃ (a : Nat) (l3 : List Nat), l2 = a :: l3 ∧ d = .str (nm a) ∧ ds = namesL l3 := by
        cases l2 with
        | nil => cases e
        | cons a l3 => exact ⟨a, l3, rfl, (List.cons.inj e).1, (List.cons.inj e).2⟩
      have ha : a ∈ h := pm.mem_iff.mp (by simp)
      have wa := ct.wd a ha
      have na : a ∉ h1 := fun z => (List.nodup_append.mp (pm.nodup_iff.mpr ct.nd)).2.2 a z a List.mem_cons_self rfl
      have pl := pm.length_eq
      rw [List.length_append, List.length_cons] at pl
      refine ok_ref tl ?_
      exists 1, onIns_ref B.T.t
      have tk : S[qn]? = some (.dK kn) := (B.fr qn lq np).trans tq
      rw [onDk_ref tk, ct.v a ha]
      refine ⟨lk_put, far, tri, c, m, _, _, _, P, R, h1, k1, nm a, f a, rfl, B.T, wa.1, ct.w ha, .inr (by omega), ?_⟩
      have B3 := B.put_same wa (ct.w ha) (.inr (by omega))
      rw [wa.2]
      refine hN _ _ (.inl ⟨l3, _, _, _, rfl, rfl, B3, ?_, ?_⟩)
      · rw [put_oth (by omega) (fun e => nj e.symm)]; exact tl
      · rw [addN_new na, List.append_assoc]; exact pm
    · rintro r S ⟨l2, h1, k1, x, e, rfl, B, tl, pm⟩
      obtain rfl : l2 = [] := by cases l2 with | nil => rfl | cons _ _ => cases e
      rw [List.append_nil] at pm
      refine ok_ref tl ?_
      exists 1
      exact .inl (q _ _ _ _ _ _ (B.less (by omega)) pm)
  refine s_while (fun m r S => ∃ (left h0 : List Nat) (kv0 : List (Key × D)) (x7 : Option D), r = [some (.ref p), some (.ref qn), some (.int c), some (.tup [.str (wayS tri), .str (ruleS far)]), some (.lst (sz.map fun i : Nat => D.int i)), some (.ref st.length), some (.ref (st.length + 4)), x7] ∧
    Bld C far tri c0 m0 st.length (st.length + 1) (st.length + 2) p (K + 900) st.length P0 R0 h0 kv0 f st S ∧ S[st.length + 4]? = some (.lst (namesL left)) ∧ (h0 ++ left).Perm h ∧ m = left.length) ks.length ⟨ks, [], [], none, rfl, B2, L2, pk, rfl⟩ ?_
  rintro mm r S N hN ⟨left, h0, kv0, x7, rfl, B, tl, pm, rfl⟩
  have wl : ∀ a ∈ left, Wd a := fun a ha => ct.wd a (pm.mem_iff.mp (List.mem_append_right _ ha))
  have tk : S[qn]? = some (.dK kn) := (B.fr qn lq np).trans tq
  have pl := pm.length_eq
  rw [List.length_append] at pl
  exists 1
  refine ne_nil tl (sm_namesL wl) (by decide) ?_
  have room : h0.length ≤ c0 := B.T.hh.few
  cases hl : left with
  | nil =>
    subst hl
    exists 1
    refine iteF' rfl ?_
    exact rest S h0 [] kv0 x7 B tl pm
  | cons y ys =>
    obtain ⟨l2, a, e2⟩ : ∃ (l2 : List Nat) (a : Nat), left = l2 ++ [a] := ⟨left.dropLast, left.getLast (by rw [hl]; simp), (List.dropLast_concat_getLast _).symm⟩
    rw [← hl]
    clear hl
    subst e2
    have ha : a ∈ h := pm.mem_iff.mp (by simp)
    have wa := ct.wd a ha
    rw [show (!(namesL (l2 ++ [a])).isEmpty) = true by unfold namesL; rw [List.map_append]; simp]
    exists 1, onIns_ref B.T.t
    refine ⟨far, tri, c0, _, _, _, kv0, rfl, B.T.t, B.T.tc, _, rfl, by omega, by have := B.ct.len; have := (ok c0 hc0).l; omega, ?_⟩
    exists 1, onIns_ref B.T.t
    refine ⟨lk_slots, far, tri, c0, _, _, _, rfl, B.T.t, ?_⟩
    exists 1
    by_cases lt : h0.length < c0
    · refine iteT' (decide_eq_true (by rw [B.ct.len]; omega)) ?_
      try dsimp only
      rw [e_seq]
      exists 1
      refine ⟨lstD_own tl, trivial, pop_names tl ?_⟩
      try dsimp only
      rw [drop_names]
      have B2 := B.wr (x := st.length + 4) (o := .lst (namesL l2)) (by omega) (by omega) (by omega) (by omega)
      have tl2 : (S.set (st.length + 4) (.lst (namesL l2)))[st.length + 4]? = some (.lst (namesL l2)) := List.getElem?_set_self (some_lt tl)
      generalize S.set (st.length + 4) (.lst (namesL l2)) = S3 at B2 tl2 ⊢
      have tk : S3[qn]? = some (.dK kn) := (B2.fr qn lq np).trans tq
      have na : a ∉ h0 := fun z => (List.nodup_append.mp (pm.nodup_iff.mpr ct.nd)).2.2 a z a (by simp) rfl
      exists 1, onIns_ref B2.T.t
      rw [onDk_ref tk, ct.v a ha]
      refine ⟨lk_put, far, tri, c0, m0, _, _, _, P0, R0, h0, kv0, nm a, f a, rfl, B2.T, wa.1, ct.w ha, .inr lt, ?_⟩
      have B3 := B2.put_same wa (ct.w ha) (.inr lt)
      rw [wa.2]
      refine hN l2.length _ _ (by simp) (.inl ⟨l2, _, _, _, rfl, B3, ?_, ?_, rfl⟩)
      · rw [put_oth (by omega) (by omega)]; exact tl2
      · rw [addN_new na, List.append_assoc]
        refine List.Perm.trans (List.Perm.append_left h0 ?_) pm
        exact List.perm_append_comm
    · refine iteF' (decide_eq_false (by rw [B.ct.len]; omega)) ?_
      exact rest S h0 _ kv0 x7 B tl pm
end
end DL
--ELX
--ELO
--ELP
--ELQ
--ELR
--ELS
namespace DL
open PySem PySem.Spec PyProof.Rows L2 LamX PySem.W SL
section
variable {C : Addr}
theorem x_w : Word 0 "x" := ⟨by decide +kernel, by decide +kernel, by intro c hc; have e : sg "x" = [120] := (by decide +kernel); rw [e] at hc; simp at hc; omega⟩
def detF (h : List Nat) (f : Nat → Str) : Nat → Str := fun a => if a ∈ h then f a else "x"
theorem aside_no {z : Str} {h : List Nat} (nY : ∀ a ∈ h, NoY (nm a)) (w : Word 1 z) : num ("q" ++ L2.cutS z none (some 7)) ∉ h := fun m => by
  have n := nY _ m
  rw [nm_num (aside_w w)] at n
  exact (n 113 (by rw [aside_sg]; simp)).1 rfl
theorem len_app {a b : Str} : (a ++ b).length = a.length + b.length := by
  show (a.cps ++ b.cps).size = _
  rw [Array.size_append]
  rfl
theorem word_len {k : Nat} {z : Str} (w : Word k z) : z.length ≤ sizeLine := by
  have e : z.length = (sg z).length := by show z.cps.size = z.cps.toList.length; simp
  have l := w.hi
  have big : (100000 : Nat) ≤ sizeLine := by decide
  omega
theorem nin_ref {z : Str} {S : DSt} {n : Nat} {l : List Nat} {Q : DK} (e : S[n]? = some (.lst (namesL l))) (w : Word 1 z) (wd : ∀ a ∈ l, Wd a) (q : Q (.bl (!decide (num z ∈ l))) S) : dNotIn (.str z) (.ref n) S Q := by
  have es : seqS S (.ref n) = some (namesL l) := by unfold seqS; simp only [e]
  show dInG true (.str z) (.ref n) S Q
  rw [e_nin, es, e_onO]
  have e2 : ((namesL l).any fun y => eqF y (.str z)) = decide (num z ∈ l) := by
    by_cases m : num z ∈ l
    · rw [decide_eq_true m, List.any_eq_true]
      exact ⟨_, List.mem_map.mpr ⟨_, m, rfl⟩, by simp [eqF, nm_num w]⟩
    · rw [decide_eq_false m, List.any_eq_false]
      intro d hd
      obtain ⟨a, ha, rfl⟩ := List.mem_map.mp hd
      have ne : nm a ≠ z := fun e => m (by rw [← e, (wd a ha).2]; exact ha)
      simp [eqF, ne]
  rw [e2]
  refine ⟨⟨rfl, ?_⟩, q⟩
  rw [List.all_eq_true]
  intro d hd
  obtain ⟨a, ha, rfl⟩ := List.mem_map.mp hd
  rfl
structure Det (C : Addr) (far tri : Bool) (c m p k b : Nat) (P : List (List Int)) (R : List (List (List Int))) (F : Nat → Str) (ks0 : List Nat) (st : DSt) (h1 dt : List Nat) (S : DSt) : Prop where
  ex : ∃ (j2 : Nat) (k1 : List (Key × D)), Bld C far tri c m b (b + 1) j2 p k b P R h1 k1 F st S ∧ j2 ≠ b + 3 ∧ j2 ≠ b + 5
  td : S[b + 3]? = some (.lst (namesL dt))
  tl : S[b + 5]? = some (.lst (namesL ks0))
section
variable {far tri : Bool} {c m p k b : Nat} {P : List (List Int)} {R : List (List (List Int))} {F : Nat → Str} {ks0 : List Nat} {st : DSt} {h1 dt : List Nat} {S : DSt}
theorem Det.pb (D : Det C far tri c m p k b P R F ks0 st h1 dt S) : p < b := by
  obtain ⟨j2, k1, B, _⟩ := D.ex
  exact B.pb
theorem Det.pot {k' : Nat} {o : O} (D : Det C far tri c m p k b P R F ks0 st h1 dt S) (po : PotO k' o) : Det C far tri c m p k' b P R F ks0 st h1 dt (S.set p o) := by
  have pb := D.pb
  obtain ⟨j2, k1, B, e1, e2⟩ := D.ex
  exact ⟨⟨j2, k1, B.pot po, e1, e2⟩, by rw [List.getElem?_set_ne (by omega)]; exact D.td, by rw [List.getElem?_set_ne (by omega)]; exact D.tl⟩
theorem Det.less {k' : Nat} (D : Det C far tri c m p k b P R F ks0 st h1 dt S) (l : k' ≤ k) : Det C far tri c m p k' b P R F ks0 st h1 dt S := by
  obtain ⟨j2, k1, B, e1, e2⟩ := D.ex
  exact ⟨⟨j2, k1, B.less l, e1, e2⟩, D.td, D.tl⟩
theorem Det.cong {G : Nat → Str} (D : Det C far tri c m p k b P R F ks0 st h1 dt S) (e : ∀ a ∈ h1, F a = G a) : Det C far tri c m p k b P R G ks0 st h1 dt S := by
  obtain ⟨j2, k1, B, e1, e2⟩ := D.ex
  exact ⟨⟨j2, k1, B.cong e, e1, e2⟩, D.td, D.tl⟩
theorem Det.po (D : Det C far tri c m p k b P R F ks0 st h1 dt S) : Pot k p S := by
  obtain ⟨j2, k1, B, e1, e2⟩ := D.ex
  exact B.po
theorem Det.dts (D : Det C far tri c m p k b P R F ks0 st h1 dt S) (d2 : List Nat) : Det C far tri c m p k b P R F ks0 st h1 d2 (S.set (b + 3) (.lst (namesL d2))) := by
  obtain ⟨j2, k1, B, e1, e2⟩ := D.ex
  exact ⟨⟨j2, k1, B.wr (by omega) (by omega) (by omega) (fun e => e1 e.symm), e1, e2⟩, List.getElem?_set_self (some_lt D.td), by rw [List.getElem?_set_ne (by omega)]; exact D.tl⟩
theorem Det.put {z v : Str} {Qk : DK} (D : Det C far tri c m p k b P R F ks0 st h1 dt S) (w : Word 1 z) (wv : Word 0 v) (few : num z ∈ h1 ∨ h1.length < c) (q : ∀ S', Det C far tri c m p k b P R (updS F (num z) v) ks0 st (addN h1 (num z)) dt S' → Qk .non S') :
    g_put C [.ref b, .str z, .str v] S Qk := by
  obtain ⟨j2, k1, B, e1, e2⟩ := D.ex
  refine ⟨far, tri, c, m, _, _, _, P, R, h1, k1, z, v, rfl, B.T, w, wv, few, q _ ⟨⟨j2, _, B.put w wv few, e1, e2⟩, ?_, ?_⟩⟩
  · rw [put_oth (by omega) (fun e => e1 e.symm)]; exact D.td
  · rw [put_oth (by omega) (fun e => e2 e.symm)]; exact D.tl
theorem Det.out {a : Nat} {Qk : DK} (D : Det C far tri c m p k b P R F ks0 st h1 dt S) (ha : a ∈ h1) (few : h1.length < 64) (q : ∀ (v : Str) S', Det C far tri c m p k b P R F ks0 st (delN h1 a) dt S' → Qk (.str v) S') :
    g_takeOut C [.ref b, .str (nm a)] S Qk := by
  obtain ⟨j2, k1, B, e1, e2⟩ := D.ex
  have wa := B.T.wd a ha
  refine ⟨far, tri, c, m, _, _, _, P, R, h1, k1, nm a, F a, rfl, B.T, wa.1, B.ct.v a ha, few, ?_⟩
  rw [wa.2]
  have l3 := some_lt D.td
  have l5 := some_lt D.tl
  refine q _ _ ⟨⟨_, _, B.out ha, by omega, by omega⟩, ?_, ?_⟩
  · rw [out_oth l3 (by omega) (by omega)]; exact D.td
  · rw [out_oth l5 (by omega) (by omega)]; exact D.tl
theorem Det.on {G : Nat → List (Str × DL.D) → Prop} (D : Det C far tri c m p k b P R F ks0 st h1 dt S) (q : ∀ j2, G b (fsT far tri c (b + 1) j2)) : onIns C S (.ref b) G := by
  obtain ⟨j2, k1, B, e1, e2⟩ := D.ex
  rw [onIns_ref B.T.t]
  exact q j2
theorem Det.at {x : Nat} (D : Det C far tri c m p k b P R F ks0 st h1 dt S) (hx : x < b) (np : x ≠ p) : S[x]? = st[x]? := by
  obtain ⟨j2, k1, B, e1, e2⟩ := D.ex
  exact B.fr x hx np
theorem Det.len {Qk : DK} (D : Det C far tri c m p k b P R F ks0 st h1 dt S) (q : Qk (.int h1.length) S) : g_lenT C [.ref b] S Qk := by
  obtain ⟨j2, k1, B, e1, e2⟩ := D.ex
  refine ⟨far, tri, c, _, _, _, k1, rfl, B.T.t, B.T.tc, ?_⟩
  rw [B.ct.len]
  exact q
end
set_option maxHeartbeats 4000000 in
theorem sem_detours (ds : List D) (st : DSt) (Q : DK) (h : g_byX C ds st Q) : F__law_by_detours C (g_init C) (g_put C) (g_takeOut C) (g_lenT C) g_nameY g_valueD g_shufR { nx := fun _ st' => Rt st Q .non st', rt := Rt st Q } (startD 8 ds) st := by
  obtain ⟨p, qn, K, far, tri, c, m, P, R, h, f, kn, rfl, W, pot, tq, ct, lc, l30, nY, q⟩ := h
  have st8 : startD 8 [D.ref p, D.ref qn, D.int c, kindD far tri] = [some (.ref p), some (.ref qn), some (.int c), some (.tup [.str (wayS tri), .str (ruleS far)]), none, none, none, none] := rfl
  have big : (100000 : Nat) ≤ sizeLine := by decide
  have lp : p < st.length := by obtain ⟨o, e, _⟩ := pot; exact (List.getElem?_eq_some_iff.mp e).1
  have np : qn ≠ p := fun e => by obtain ⟨o, e0, _, _, _, rfl, _⟩ := pot; rw [e, e0] at tq; cases tq
  have lq := some_lt tq
  have c64 := W.o.l
  simp only [F__law_by_detours, st8]
  try dsimp only
  rw [e_seq]
  exists 1, at0, at1
  refine ⟨rfl, rfl, far, tri, c, st.length, rfl, by simp, W.o, rfl, ?_⟩
  rw [made_at0 W.S]
  have B0 := bld_new (C := C) (f := detF h f) lp W pot
  have B1 := B0.app (X := [O.lst []])
  have ea : (st ++ [O.ins C (fsT far tri c (st.length + 1) (st.length + 2)), .dK [], .lst (entD (layF P R []))]).length = st.length + 3 := by rw [List.length_append]; rfl
  exists 1
  rw [ea]
  have q1 : (st ++ [O.ins C (fsT far tri c (st.length + 1) (st.length + 2)), .dK [], .lst (entD (layF P R []))] ++ [O.lst []])[qn]? = some (.dK kn) := (B1.fr qn lq np).trans tq
  have d1 : (st ++ [O.ins C (fsT far tri c (st.length + 1) (st.length + 2)), .dK [], .lst (entD (layF P R []))] ++ [O.lst []])[st.length + 3]? = some (O.lst (namesL [])) := by
    have z := g3 (st := st ++ [O.ins C (fsT far tri c (st.length + 1) (st.length + 2)), .dK [], .lst (entD (layF P R []))]) (l := [O.lst []]) 0
    rw [ea] at z
    exact z
  have l1 : (st ++ [O.ins C (fsT far tri c (st.length + 1) (st.length + 2)), .dK [], .lst (entD (layF P R []))] ++ [O.lst []]).length = st.length + 4 := by rw [List.length_append, ea]; rfl
  generalize st ++ [O.ins C (fsT far tri c (st.length + 1) (st.length + 2)), .dK [], .lst (entD (layF P R []))] ++ [O.lst []] = S1 at B1 q1 d1 l1 ⊢
  try dsimp only
  rw [e_seq]
  exists 1
  refine shuf_known (f := f) (K := K + 950) q1 ct (by omega) (B1.po.less (by omega)) fun ks o2 pk po2 => ?_
  rw [l1]
  have D2 : Det C far tri c m p (K + 950) st.length P R (detF h f) ks st [] [] (S1.set p o2 ++ [.lst [], .lst (namesL ks)]) := by
    refine ⟨⟨_, _, (B1.pot po2).app, by omega, by omega⟩, ?_, ?_⟩
    · rw [List.getElem?_append_left (by rw [List.length_set]; omega), List.getElem?_set_ne (by omega)]
      exact d1
    · have z := g3 (st := S1.set p o2) (l := [O.lst [], .lst (namesL ks)]) 1
      rw [List.length_set, l1] at z
      exact z
  generalize S1.set p o2 ++ [.lst [], .lst (namesL ks)] = S2 at D2 ⊢
  exists 1, it_ref D2.tl
  have lk := pk.length_eq
  refine for_inv (fun rest r S => ∃ (l2 dn dt h1 : List Nat) (x6 x7 : Option D), rest = namesL l2 ∧ r = [some (.ref p), some (.ref qn), some (.int c), some (.tup [.str (wayS tri), .str (ruleS far)]), some (.ref st.length), some (.ref (st.length + 3)), x6, x7] ∧
    Det C far tri c m p (K + 18 * l2.length) st.length P R (detF h f) ks st h1 dt S ∧ (dn ++ l2).Perm h ∧ h1.Perm (dn ++ dt) ∧ dt.length ≤ dn.length ∧ ∀ a ∈ dt, a ∉ h) ?_ ?_ _ _ _ ⟨ks, [], [], [], none, none, rfl, rfl, D2.less (by omega), pk, .refl _, Nat.le_refl _, fun a ha => (by cases ha)⟩
  · rintro d ds r S N hN ⟨l2, dn, dt, h1, x6, x7, e, rfl, X, pm, p1, few, nd⟩
    obtain ⟨a, l3, rfl, rfl, rfl⟩ : ∃ (a : Nat) (l3 : List Nat), l2 = a :: l3 ∧ d = .str (nm a) ∧ ds = namesL l3 := by
      cases l2 with
      | nil => cases e
      | cons a l3 => exact ⟨a, l3, rfl, (List.cons.inj e).1, (List.cons.inj e).2⟩
    rw [List.length_cons] at X
    have ha : a ∈ h := pm.mem_iff.mp (by simp)
    have wa := ct.wd a ha
    have ndh := pm.nodup_iff.mpr ct.nd
    have adn : a ∉ dn := fun z => (List.nodup_append.mp ndh).2.2 a z a List.mem_cons_self rfl
    have pl := pm.length_eq
    rw [List.length_append, List.length_cons] at pl
    have stC : ∀ (S : DSt) (h1 dt : List Nat) (x7 : Option D) (E : DEnds), E.nx = N → Det C far tri c m p (K + 18 * l3.length + 9) st.length P R (detF h f) ks st h1 dt S → h1.length < c → h1.Perm (dn ++ dt) → dt.length ≤ dn.length + 1 → (∀ a ∈ dt, a ∉ h) →
        (sSeq (sDrop (dMeth C "put" (g_put C) (dVar 4) (daCons (dVar 6) (daCons (dCB g_valueD (daCons (dVar 0) daNil)) daNil)))) (sDrop (dMeth C "put" (g_put C) (dVar 4) (daCons (dVar 6) (daCons (dOp dGetK (dVar 1) (dVar 6)) daNil))))) E [some (.ref p), some (.ref qn), some (.int c), some (.tup [.str (wayS tri), .str (ruleS far)]), some (.ref st.length), some (.ref (st.length + 3)), some (.str (nm a)), x7] S := by
      intro S h1 dt x7 E eE X lt p1 few nd
      have na : a ∉ h1 := fun z => (List.mem_append.mp (p1.mem_iff.mp z)).elim adn fun y => nd a y ha
      try dsimp only
      rw [e_seq]
      exists 1
      refine X.on fun j2 => ⟨lk_put, ?_⟩
      refine ⟨p, K + 18 * l3.length, rfl, X.po, fun v o wv po => ?_⟩
      have X2 := X.pot po
      refine X2.put wa.1 wv (.inr lt) fun S3 X3 => ?_
      rw [wa.2] at X3
      exists 1
      refine X3.on fun j2 => ⟨lk_put, ?_⟩
      rw [onDk_ref ((X3.at lq np).trans tq), ct.v a ha]
      simp only [e_onO]
      refine X3.put wa.1 (ct.w ha) (.inl (by rw [wa.2]; exact addN_mem.mpr (.inr rfl))) fun S4 X4 => ?_
      rw [wa.2] at X4
      rw [eE]
      have e2 : addN (addN h1 a) a = h1 ++ [a] := by
        have m : a ∈ addN h1 a := addN_mem.mpr (.inr rfl)
        have z : addN (addN h1 a) a = addN h1 a := if_pos m
        rw [z, addN_new na]
      rw [e2] at X4
      refine hN _ _ (.inl ⟨l3, dn ++ [a], dt, h1 ++ [a], _, _, rfl, rfl, X4.cong fun x hx => ?_, by rw [List.append_assoc]; exact pm, ?_, by rw [List.length_append]; exact few, nd⟩)
      · unfold updS detF
        by_cases e : x = a
        · rw [if_pos e, if_pos (by rw [e]; exact ha), e]
        · rw [if_neg e, if_neg e]
      · have z : (h1 ++ [a]).Perm ((dn ++ dt) ++ [a]) := List.Perm.append_right [a] p1
        refine z.trans ?_
        rw [List.append_assoc, List.append_assoc]
        exact List.Perm.append_left dn List.perm_append_comm
    have stB : ∀ (S : DSt) (h1 dt : List Nat) (x7 : Option D) (E : DEnds), E.nx = N → Det C far tri c m p (K + 18 * l3.length + 9) st.length P R (detF h f) ks st h1 dt S → h1.Perm (dn ++ dt) → dt.length ≤ dn.length + 1 → (∀ a ∈ dt, a ∉ h) →
        (sSeq (sIf (dTest (dOp dEq (dCB (rsLenO C (g_lenT C)) (daCons (dVar 4) daNil)) (dVar 2))) (sDrop (dMeth C "take_out" (g_takeOut C) (dVar 4) (daCons (dMtL mPopAt (dVar 5) (daCons (dC (.int 0)) daNil)) daNil))) sNext) (sSeq (sDrop (dMeth C "put" (g_put C) (dVar 4) (daCons (dVar 6) (daCons (dCB g_valueD (daCons (dVar 0) daNil)) daNil)))) (sDrop (dMeth C "put" (g_put C) (dVar 4) (daCons (dVar 6) (daCons (dOp dGetK (dVar 1) (dVar 6)) daNil)))))) E [some (.ref p), some (.ref qn), some (.int c), some (.tup [.str (wayS tri), .str (ruleS far)]), some (.ref st.length), some (.ref (st.length + 3)), some (.str (nm a)), x7] S := by
      intro S h1 dt x7 E eE X p1 few nd
      have lh : h1.length = dn.length + dt.length := by rw [p1.length_eq, List.length_append]
      have hc : h1.length ≤ c := by
        obtain ⟨_, _, B, _⟩ := X.ex
        exact B.T.hh.few
      try dsimp only
      rw [e_seq]
      exists 1
      refine X.on fun j2 => X.len ⟨_, rfl, by omega, by omega, ?_⟩
      exists 1
      by_cases full : h1.length = c
      · refine iteT' (decide_eq_true (by omega)) ?_
        obtain ⟨b, d2, rfl⟩ : ∃ (b : Nat) (d2 : List Nat), dt = b :: d2 := by
          cases dt with
          | nil => rw [List.length_nil] at lh; omega
          | cons b d2 => exact ⟨b, d2, rfl⟩
        rw [List.length_cons] at few lh
        have b1 : b ∈ h1 := p1.mem_iff.mpr (by simp)
        have ndn : h1.Nodup := by
          obtain ⟨_, _, B, _⟩ := X.ex
          exact B.T.hh.nd
        refine X.on fun j2 => ⟨lk_take_out, lstD_own X.td, ?_⟩
        refine pop_ref X.td (by decide) (by show 0 < (namesL (b :: d2)).length; unfold namesL; simp) (by unfold namesL; rw [List.length_map, List.length_cons]; omega) ?_
        show g_takeOut C [.ref st.length, .str (nm b)] (S.set (st.length + 3) (.lst (namesL d2))) _
        refine (X.dts d2).out b1 (by omega) fun v S' X' => ?_
        have ad : b ∉ dn ++ d2 := by
          have z := (List.perm_middle (a := b) (l₁ := dn) (l₂ := d2)).nodup_iff.mp (p1.nodup_iff.mp ndn)
          exact (List.nodup_cons.mp z).1
        have z := delN_perm (a := b) (p1.trans List.perm_middle)
        have z2 : delN (b :: (dn ++ d2)) b = dn ++ d2 := by
          unfold delN
          rw [List.filter_cons_of_neg (by simp)]
          exact List.filter_eq_self.mpr fun x hx => decide_eq_true fun e : x = b => ad (by rw [← e]; exact hx)
        rw [z2] at z
        refine stC _ _ _ _ _ eE X' ?_ z (by omega) fun x hx => nd x (List.mem_cons_of_mem _ hx)
        rw [z.length_eq, List.length_append]
        omega
      · refine iteF' (decide_eq_false (by omega)) ?_
        exact stC _ _ _ _ _ eE X (by omega) p1 few nd
    refine ok_ref X.tl ?_
    exists 1
    try dsimp only
    rw [e_seq]
    exists 1
    refine ⟨p, K + 18 * l3.length + 9, rfl, X.po.less (by omega), fun z o wz ny po => ?_⟩
    have X2 := X.pot po
    generalize S.set p o = S3 at X2 ⊢
    exists 1
    have wo := aside_w wz
    have noth := aside_no (h := h) nY wz
    refine ⟨word_len wz, by rw [← len_app]; exact word_len wo, ?_⟩
    generalize Str.ofString "q" ++ L2.cutS z none (some 7) = oth at wo noth ⊢
    have tk : S3[qn]? = some (.dK kn) := (X2.at lq np).trans tq
    have fin : ∀ S4 h2 d2, Det C far tri c m p (K + 18 * l3.length + 9) st.length P R (detF h f) ks st h2 d2 S4 → h2.Perm (dn ++ d2) → d2.length ≤ dn.length + 1 → (∀ a ∈ d2, a ∉ h) → _ := fun S4 h2 d2 => stB S4 h2 d2 (some (.str oth)) { nx := N, rt := Rt st Q, bk := sSeq (sFor (wSeq (dVar 5)) (gNm 6) (sDrop (dMeth C "take_out" (g_takeOut C) (dVar 4) (daCons (dVar 6) daNil)))) (sRet (dVar 4)) { nx := fun x st' => Rt st Q D.non st', rt := Rt st Q }, ct := N } rfl
    try dsimp only
    rw [e_seq]
    exists 1, onDk_ref tk
    refine iteT' (by rw [key_no (fun y => noth ((key_mem ct.wd wo).mp (by rw [← ct.ks]; exact y)))]; rfl) ?_
    exists 1
    have wdt : ∀ x ∈ dt, Wd x := fun x hx => by
      obtain ⟨_, _, B, _⟩ := X2.ex
      exact B.T.wd x (p1.mem_iff.mpr (List.mem_append_right _ hx))
    refine nin_ref X2.td wo wdt ?_
    exists 1
    by_cases inD : num oth ∈ dt
    · refine iteF' (by rw [decide_eq_true inD]; rfl) ?_
      exact fin _ _ _ X2 p1 (by omega) nd
    · refine iteT' (by rw [decide_eq_false inD]; rfl) ?_
      have hc : h1.length ≤ c := by
        obtain ⟨_, _, B, _⟩ := X2.ex
        exact B.T.hh.few
      refine X2.on fun j2 => X2.len ⟨_, rfl, by omega, by omega, ?_⟩
      by_cases lt : h1.length + 1 < c
      · refine iteT' (decide_eq_true (by omega)) ?_
        try dsimp only
        rw [e_seq]
        exists 1
        have ni : num oth ∉ h1 := fun z => (List.mem_append.mp (p1.mem_iff.mp z)).elim (fun y => noth (pm.mem_iff.mp (List.mem_append_left _ y))) inD
        refine X2.on fun j2 => ⟨lk_put, X2.put wo x_w (.inr (by omega)) fun S4 X4 => ?_⟩
        rw [addN_new ni] at X4
        have X5 := (X4.cong (G := detF h f) fun x hx => by
          unfold updS
          split
          · next e => unfold detF; rw [if_neg (by rw [e]; exact noth)]
          · rfl).dts (dt ++ [num oth])
        have ea : namesL (dt ++ [num oth]) = namesL dt ++ [.str oth] := by unfold namesL; rw [List.map_append, List.map_singleton, nm_num wo]
        exists 1
        refine ⟨lstD_own X4.td, app_lk X4.td ?_ ?_⟩
        · unfold namesL; rw [List.length_map]; omega
        rw [ea] at X5
        refine fin _ _ _ X5 ?_ ?_ ?_
        · rw [← List.append_assoc]; exact List.Perm.append_right _ p1
        · rw [List.length_append]; exact Nat.succ_le_succ few
        · intro x hx
          rcases List.mem_append.mp hx with e | e
          · exact nd x e
          · rw [List.mem_singleton.mp e]; exact noth
      · refine iteF' (decide_eq_false (by omega)) ?_
        exact fin _ _ _ X2 p1 (by omega) nd
  · rintro r S ⟨l2, dn, dt, h1, x6, x7, e, rfl, X, pm, p1, few, nd⟩
    obtain rfl : l2 = [] := by cases l2 with | nil => rfl | cons _ _ => cases e
    rw [List.append_nil] at pm
    refine ok_ref X.tl ?_
    exists 1, it_ref X.td
    try dsimp only
    rw [e_seq]
    exists 1, it_ref X.td
    have l64 : dn.length + dt.length < 64 := by have := pm.length_eq; omega
    refine for_inv (fun rest r S => ∃ (l2 h1 : List Nat) (x6 : Option D), rest = namesL l2 ∧ r = [some (.ref p), some (.ref qn), some (.int c), some (.tup [.str (wayS tri), .str (ruleS far)]), some (.ref st.length), some (.ref (st.length + 3)), x6, x7] ∧
      Det C far tri c m p K st.length P R (detF h f) ks st h1 dt S ∧ h1.Perm (dn ++ l2) ∧ (∀ a ∈ l2, a ∉ h) ∧ l2.length ≤ dt.length) ?_ ?_ _ _ _ ⟨dt, h1, x6, rfl, rfl, X.less (by omega), p1, nd, Nat.le_refl _⟩
    · rintro d ds r S N hN ⟨l2, h1, x6, e, rfl, X, p1, nd, ll⟩
      obtain ⟨a, l3, rfl, rfl, rfl⟩ : ∃ (a : Nat) (l3 : List Nat), l2 = a :: l3 ∧ d = .str (nm a) ∧ ds = namesL l3 := by
        cases l2 with
        | nil => cases e
        | cons a l3 => exact ⟨a, l3, rfl, (List.cons.inj e).1, (List.cons.inj e).2⟩
      rw [List.length_cons] at ll
      have lh := p1.length_eq
      rw [List.length_append, List.length_cons] at lh
      have a1 : a ∈ h1 := p1.mem_iff.mpr (by simp)
      have ndn : h1.Nodup := by
        obtain ⟨_, _, B, _⟩ := X.ex
        exact B.T.hh.nd
      refine ok_ref X.td ?_
      exists 1
      refine X.on fun j2 => ⟨lk_take_out, X.out a1 (by omega) fun v S' X' => ?_⟩
      exists 1
      refine hN _ _ (.inl ⟨l3, _, _, rfl, rfl, X', ?_, fun b hb => nd b (List.mem_cons_of_mem _ hb), by omega⟩)
      have nd2 := p1.nodup_iff.mp ndn
      have ad : a ∉ dn ++ l3 := by
        have z := (List.perm_middle (a := a) (l₁ := dn) (l₂ := l3)).nodup_iff.mp nd2
        exact (List.nodup_cons.mp z).1
      have z := delN_perm (a := a) (p1.trans List.perm_middle)
      have z2 : delN (a :: (dn ++ l3)) a = dn ++ l3 := by
        unfold delN
        rw [List.filter_cons_of_neg (by simp)]
        exact List.filter_eq_self.mpr fun b hb => decide_eq_true fun e : b = a => ad (by rw [← e]; exact hb)
      rw [z2] at z
      exact z
    · rintro r S ⟨l2, h1, x6, e, rfl, X, p1, nd, ll⟩
      obtain rfl : l2 = [] := by cases l2 with | nil => rfl | cons _ _ => cases e
      rw [List.append_nil] at p1
      refine ok_ref X.td ?_
      exists 1
      obtain ⟨j2, k1, B, _⟩ := X.ex
      have ph := p1.trans pm
      exact .inl (q _ _ _ _ _ _ (B.cong fun x hx => if_pos (ph.mem_iff.mp hx)) ph)
end
end DL
--ELX
--ELO
--ELP
--ELQ
--ELR
--ELS
namespace DL
open PySem PySem.Spec PyProof.Rows L2 LamX PySem.W SL
section
variable {C : Addr}
theorem Ct.puts2 {kvs kv2 : List (Key × D)} {h h2 ks : List Nat} {F f : Nat → Str} (c : Ct kvs h F) (c2 : Ct kv2 h2 f) (sub : ∀ a ∈ ks, a ∈ h2) : Ct (putsN kvs ks (DL.valN kv2)) (addsN h ks) (fun a => if a ∈ ks then f a else F a) := by
  have wk : ∀ a ∈ ks, Wd a := fun a ha => c2.wd a (sub a ha)
  refine ⟨VOk.puts ks kvs c.vo fun a ha => ⟨f a, c2.w (sub a ha), c2.valN (sub a ha)⟩, putsN_keys ks kvs h wk c.wd c.ks, addsN_nd ks h c.nd, addsN_wd c.wd wk, fun a ha => ?_⟩
  rw [putsN_val (addsN_wd c.wd wk a ha) ks kvs wk]
  by_cases e : a ∈ ks
  · rw [if_pos e, if_pos e, c2.valN (sub a e)]
  · rw [if_neg e, if_neg e]
    exact c.v a (((addsN_mem ks h).mp ha).elim id fun z => absurd z e)
structure Joi (C : Addr) (far tri : Bool) (c m m2 p k b : Nat) (P P2 : List (List Int)) (R R2 : List (List (List Int))) (F f : Nat → Str) (ks0 : List Nat) (st : DSt) (h1 h2 : List Nat) (S : DSt) : Prop where
  ex : ∃ (k1 k2 : List (Key × D)), Bld C far tri c m b (b + 1) (b + 2) p k b P R h1 k1 F st S ∧ Bld C true false 64 m2 (b + 3) (b + 4) (b + 5) p k b P2 R2 h2 k2 f st S
  tl : S[b + 7]? = some (.lst (namesL ks0))
section
variable {far tri : Bool} {c m m2 p k b : Nat} {P P2 : List (List Int)} {R R2 : List (List (List Int))} {F f : Nat → Str} {ks0 : List Nat} {st : DSt} {h1 h2 : List Nat} {S : DSt}
theorem Joi.pb (X : Joi C far tri c m m2 p k b P P2 R R2 F f ks0 st h1 h2 S) : p < b := by
  obtain ⟨k1, k2, B, _⟩ := X.ex
  exact B.pb
theorem Joi.pot {k' : Nat} {o : O} (X : Joi C far tri c m m2 p k b P P2 R R2 F f ks0 st h1 h2 S) (po : PotO k' o) : Joi C far tri c m m2 p k' b P P2 R R2 F f ks0 st h1 h2 (S.set p o) := by
  have pb := X.pb
  obtain ⟨k1, k2, B, B2⟩ := X.ex
  exact ⟨⟨k1, k2, B.pot po, B2.pot po⟩, by rw [List.getElem?_set_ne (by omega)]; exact X.tl⟩
theorem Joi.less {k' : Nat} (X : Joi C far tri c m m2 p k b P P2 R R2 F f ks0 st h1 h2 S) (l : k' ≤ k) : Joi C far tri c m m2 p k' b P P2 R R2 F f ks0 st h1 h2 S := by
  obtain ⟨k1, k2, B, B2⟩ := X.ex
  exact ⟨⟨k1, k2, B.less l, B2.less l⟩, X.tl⟩
theorem Joi.po (X : Joi C far tri c m m2 p k b P P2 R R2 F f ks0 st h1 h2 S) : Pot k p S := by
  obtain ⟨k1, k2, B, _⟩ := X.ex
  exact B.po
theorem Joi.at {x : Nat} (X : Joi C far tri c m m2 p k b P P2 R R2 F f ks0 st h1 h2 S) (hx : x < b) (np : x ≠ p) : S[x]? = st[x]? := by
  obtain ⟨k1, k2, B, _⟩ := X.ex
  exact B.fr x hx np
theorem Joi.on1 {G : Nat → List (Str × D) → Prop} (X : Joi C far tri c m m2 p k b P P2 R R2 F f ks0 st h1 h2 S) (q : G b (fsT far tri c (b + 1) (b + 2))) : onIns C S (.ref b) G := by
  obtain ⟨k1, k2, B, B2⟩ := X.ex
  rw [onIns_ref B.T.t]
  exact q
theorem Joi.on2 {G : Nat → List (Str × D) → Prop} (X : Joi C far tri c m m2 p k b P P2 R R2 F f ks0 st h1 h2 S) (q : G (b + 3) (fsT true false 64 (b + 4) (b + 5))) : onIns C S (.ref (b + 3)) G := by
  obtain ⟨k1, k2, B, B2⟩ := X.ex
  rw [onIns_ref B2.T.t]
  exact q
theorem Joi.put1 {a : Nat} {v : Str} {Qk : DK} (X : Joi C far tri c m m2 p k b P P2 R R2 F f ks0 st h1 h2 S) (wa : Wd a) (wv : Word 0 v) (na : a ∉ h1) (few : h1.length < c) (q : ∀ S', Joi C far tri c m m2 p k b P P2 R R2 (updS F a v) f ks0 st (h1 ++ [a]) h2 S' → Qk .non S') : g_put C [.ref b, .str (nm a), .str v] S Qk := by
  obtain ⟨k1, k2, B, B2⟩ := X.ex
  have B3 := B.put wa.1 wv (.inr few)
  refine ⟨far, tri, c, m, _, _, _, P, R, h1, k1, nm a, v, rfl, B.T, wa.1, wv, .inr few, q _ ?_⟩
  rw [wa.2, addN_new na] at B3 ⊢
  refine ⟨⟨_, k2, B3, ?_⟩, ?_⟩
  · exact (B2.wr (by omega) (by omega) (by omega) (by omega)).wr (by omega) (by omega) (by omega) (by omega)
  · rw [put_oth (by omega) (by omega)]; exact X.tl
theorem Joi.put2 {a : Nat} {Qk : DK} (X : Joi C far tri c m m2 p k b P P2 R R2 F f ks0 st h1 h2 S) (wa : Wd a) (wv : Word 0 (f a)) (na : a ∉ h2) (few : h2.length < 64) (q : ∀ S', Joi C far tri c m m2 p k b P P2 R R2 F f ks0 st h1 (h2 ++ [a]) S' → Qk .non S') : g_put C [.ref (b + 3), .str (nm a), .str (f a)] S Qk := by
  obtain ⟨k1, k2, B, B2⟩ := X.ex
  have B3 := B2.put_same wa wv (.inr few)
  refine ⟨true, false, 64, m2, _, _, _, P2, R2, h2, k2, nm a, f a, rfl, B2.T, wa.1, wv, .inr few, q _ ?_⟩
  rw [wa.2]
  rw [addN_new na] at B3 ⊢
  refine ⟨⟨k1, _, ?_, B3⟩, ?_⟩
  · exact (B.wr (by omega) (by omega) (by omega) (by omega)).wr (by omega) (by omega) (by omega) (by omega)
  · rw [put_oth (by omega) (by omega)]; exact X.tl
end
set_option maxHeartbeats 4000000 in
theorem sem_joined (ds : List D) (st : DSt) (Q : DK) (h : g_byX C ds st Q) : F__law_by_joining C (g_init C) (g_put C) (g_addAll C) (g_clone C) g_take g_valueD g_shufR { nx := fun _ st' => Rt st Q .non st', rt := Rt st Q } (startD 9 ds) st := by
  obtain ⟨p, qn, K, far, tri, c, m, P, R, h, f, kn, rfl, W, pot, tq, ct, lc, l30, nY, q⟩ := h
  have st9 : startD 9 [D.ref p, D.ref qn, D.int c, kindD far tri] = [some (.ref p), some (.ref qn), some (.int c), some (.tup [.str (wayS tri), .str (ruleS far)]), none, none, none, none, none] := rfl
  have big : (100000 : Nat) ≤ sizeLine := by decide
  have lp : p < st.length := by obtain ⟨o, e, _⟩ := pot; exact (List.getElem?_eq_some_iff.mp e).1
  have np : qn ≠ p := fun e => by obtain ⟨o, e0, _, _, _, rfl, _⟩ := pot; rw [e, e0] at tq; cases tq
  have lq := some_lt tq
  have c64 := W.o.l
  have o64 : OkC false 64 := ⟨by decide, by decide, fun e => by cases e⟩
  obtain ⟨m2, P2, R2, W2⟩ := nmS_ex (far := true) o64
  simp only [F__law_by_joining, st9]
  try dsimp only
  rw [e_seq]
  exists 1, at0, at1
  refine ⟨rfl, rfl, far, tri, c, st.length, rfl, by simp, W.o, rfl, ?_⟩
  rw [made_at0 W.S]
  have B0 := bld_new (C := C) (f := f) lp W pot
  have ea : (st ++ [O.ins C (fsT far tri c (st.length + 1) (st.length + 2)), .dK [], .lst (entD (layF P R []))]).length = st.length + 3 := by rw [List.length_append]; rfl
  generalize st ++ [O.ins C (fsT far tri c (st.length + 1) (st.length + 2)), .dK [], .lst (entD (layF P R []))] = S0 at B0 ea ⊢
  exists 1
  refine ⟨rfl, rfl, true, false, 64, S0.length, rfl, by simp, o64, rfl, ?_⟩
  rw [made_at0 W2.S]
  have B2 := bld_new (C := C) (f := f) (by omega) W2 B0.po
  have B1 := B0.app (X := [O.ins C (fsT true false 64 (S0.length + 1) (S0.length + 2)), .dK [], .lst (entD (layF P2 R2 []))])
  rw [ea] at B2 B1 ⊢
  have l1 : (S0 ++ [O.ins C (fsT true false 64 (st.length + 3 + 1) (st.length + 3 + 2)), .dK [], .lst (entD (layF P2 R2 []))]).length = st.length + 6 := by rw [List.length_append, ea]; rfl
  generalize S0 ++ [O.ins C (fsT true false 64 (st.length + 3 + 1) (st.length + 3 + 2)), .dK [], .lst (entD (layF P2 R2 []))] = S1 at B1 B2 l1 ⊢
  have B3 : Bld C true false 64 m2 (st.length + 3) (st.length + 4) (st.length + 5) p (K + 1000) st.length P2 R2 [] [] f st S1 := ⟨B2.T, B2.ct, B2.po, by omega, fun x hx np => (B2.fr x (by omega) np).trans (B0.fr x hx np), lp, by omega, by omega, by omega⟩
  have q1 : S1[qn]? = some (.dK kn) := (B1.fr qn lq np).trans tq
  exists 1
  try dsimp only
  rw [e_seq]
  exists 1
  refine shuf_known (f := f) (K := K + 950) q1 ct (by omega) (B1.po.less (by omega)) fun ks o2 pk po2 => ?_
  rw [l1]
  have D2 : Joi C far tri c m m2 p (K + 950) st.length P P2 R R2 f f ks st [] [] (S1.set p o2 ++ [.lst [], .lst (namesL ks)]) := by
    refine ⟨⟨_, _, (B1.pot po2).app, (B3.pot po2).app⟩, ?_⟩
    have z := g3 (st := S1.set p o2) (l := [O.lst [], O.lst (namesL ks)]) 1
    rw [List.length_set, l1] at z
    exact z
  generalize S1.set p o2 ++ [.lst [], .lst (namesL ks)] = S2 at D2 ⊢
  exists 1, it_ref D2.tl
  have lk := pk.length_eq
  refine for_inv (fun rest r S => ∃ (l2 dn h1 h2 : List Nat) (F : Nat → Str) (x6 x7 : Option D), rest = namesL l2 ∧ r = [some (.ref p), some (.ref qn), some (.int c), some (.tup [.str (wayS tri), .str (ruleS far)]), some (.ref st.length), some (.ref (st.length + 3)), x6, x7, none] ∧
    Joi C far tri c m m2 p (K + 10 * l2.length) st.length P P2 R R2 F f ks st h1 h2 S ∧ (dn ++ l2).Perm h ∧ (∀ a, a ∈ dn ↔ a ∈ h1 ∨ a ∈ h2) ∧ (∀ a ∈ h1, a ∈ h2 ∨ F a = f a) ∧ h1.length ≤ dn.length ∧ h2.length ≤ dn.length) ?_ ?_ _ _ _ ⟨ks, [], [], [], f, none, none, rfl, rfl, D2.less (by omega), pk, fun a => by simp, fun a ha => (by cases ha), Nat.le_refl _, Nat.le_refl _⟩
  · rintro d ds r S N hN ⟨l2, dn, h1, h2, F, x6, x7, e, rfl, X, pm, un, vl, f1, f2⟩
    obtain ⟨a, l3, rfl, rfl, rfl⟩ : ∃ (a : Nat) (l3 : List Nat), l2 = a :: l3 ∧ d = .str (nm a) ∧ ds = namesL l3 := by
      cases l2 with
      | nil => cases e
      | cons a l3 => exact ⟨a, l3, rfl, (List.cons.inj e).1, (List.cons.inj e).2⟩
    rw [List.length_cons] at X
    have ha : a ∈ h := pm.mem_iff.mp (by simp)
    have wa := ct.wd a ha
    have ndh := pm.nodup_iff.mpr ct.nd
    have adn : a ∉ dn := fun z => (List.nodup_append.mp ndh).2.2 a z a List.mem_cons_self rfl
    have a1 : a ∉ h1 := fun z => adn ((un a).mpr (.inl z))
    have a2 : a ∉ h2 := fun z => adn ((un a).mpr (.inr z))
    have pl := pm.length_eq
    rw [List.length_append, List.length_cons] at pl
    refine ok_ref X.tl ?_
    exists 1
    try dsimp only
    rw [e_seq]
    exists 1
    refine ⟨p, 3, K + 10 * l3.length + 9, rfl, X.po.less (by omega), by decide, by decide, fun w o w0 w3 po => ?_⟩
    have X2 := X.pot po
    generalize S.set p o = S3 at X2 ⊢
    exists 1
    try dsimp only
    rw [e_seq]
    exists 1
    have tail : ∀ (S4 : DSt) (h1' : List Nat) (F' : Nat → Str), Joi C far tri c m m2 p (K + 10 * l3.length) st.length P P2 R R2 F' f ks st h1' h2 S4 → (∀ x, x ∈ dn ++ [a] ↔ x ∈ h1' ∨ x ∈ h2 ++ [a]) → (∀ x ∈ h1', x ∈ h2 ++ [a] ∨ F' x = f x) → h1'.length ≤ dn.length + 1 →
        onIns C S4 (D.ref (st.length + 3)) fun x af => List.lookup ("put" : Str) af = none ∧ onDk S4 (D.ref qn) fun n kvs => onO (valD kvs (Sum.inr (nm a))) fun d => g_put C [D.ref (st.length + 3), D.str (nm a), d] S4 fun x st1 => N [some (.ref p), some (.ref qn), some (.int c), some (.tup [.str (wayS tri), .str (ruleS far)]), some (.ref st.length), some (.ref (st.length + 3)), some (.str (nm a)), some (.int w), none] st1 := by
      intro S4 h1' F' X4 un4 vl4 l4
      refine X4.on2 ⟨lk_put, ?_⟩
      rw [onDk_ref ((X4.at lq np).trans tq), ct.v a ha]
      simp only [e_onO]
      refine X4.put2 wa (ct.w ha) a2 (by omega) fun S5 X5 => ?_
      refine hN _ _ (.inl ⟨l3, dn ++ [a], h1', h2 ++ [a], F', _, _, rfl, rfl, X5, by rw [List.append_assoc]; exact pm, un4, vl4, ?_, ?_⟩)
      · rw [List.length_append]; exact l4
      · rw [List.length_append, List.length_append]; exact Nat.succ_le_succ f2
    have tk : S3[qn]? = some (.dK kn) := (X2.at lq np).trans tq
    by_cases w2 : w = 2
    · refine iteF' (decide_eq_false (by omega)) ?_
      refine iteT' (decide_eq_true (by omega)) ?_
      refine tail _ _ _ (X2.less (by omega)) (fun x => ?_) (fun x hx => ?_) (by omega)
      · rw [List.mem_append, List.mem_append, un x]; exact or_assoc
      · exact (vl x hx).elim (fun y => .inl (List.mem_append_left _ y)) .inr
    · refine iteT' (decide_eq_true (by omega)) ?_
      refine X2.on1 ⟨lk_put, ?_⟩
      by_cases w0' : w = 0
      · refine iteT' (decide_eq_true w0') ?_
        rw [onDk_ref tk, ct.v a ha]
        simp only [e_onO]
        refine (X2.less (k' := K + 10 * l3.length) (by omega)).put1 wa (ct.w ha) a1 (by omega) fun S4 X4 => ?_
        refine iteF' (decide_eq_false (by omega)) ?_
        refine hN _ _ (.inl ⟨l3, dn ++ [a], h1 ++ [a], h2, _, _, _, rfl, rfl, X4, by rw [List.append_assoc]; exact pm, fun x => ?_, fun x hx => ?_, ?_, ?_⟩)
        · rw [List.mem_append, List.mem_append, un x]
          constructor
          · rintro ((y | y) | y)
            · exact .inl (.inl y)
            · exact .inr y
            · exact .inl (.inr y)
          · rintro ((y | y) | y)
            · exact .inl (.inl y)
            · exact .inr y
            · exact .inl (.inr y)
        · unfold updS
          rcases List.mem_append.mp hx with y | y
          · by_cases e : x = a
            · rw [if_pos e, e]; exact .inr rfl
            · rw [if_neg e]; exact vl x y
          · rw [if_pos (List.mem_singleton.mp y), List.mem_singleton.mp y]; exact .inr rfl
        · rw [List.length_append, List.length_append]; exact Nat.succ_le_succ f1
        · rw [List.length_append]; exact Nat.le_succ_of_le f2
      · refine iteF' (decide_eq_false w0') ?_
        refine ⟨p, K + 10 * l3.length, rfl, X2.po, fun v o wv po => ?_⟩
        have X3 := X2.pot po
        refine X3.put1 wa wv a1 (by omega) fun S4 X4 => ?_
        refine iteT' (decide_eq_true (by omega)) ?_
        refine tail _ _ _ X4 (fun x => ?_) (fun x hx => ?_) ?_
        · rw [List.mem_append, List.mem_append, List.mem_append, un x]
          constructor
          · rintro ((y | y) | y)
            · exact .inl (.inl y)
            · exact .inr (.inl y)
            · exact .inl (.inr y)
          · rintro ((y | y) | (y | y))
            · exact .inl (.inl y)
            · exact .inr y
            · exact .inl (.inr y)
            · exact .inr y
        · unfold updS
          rcases List.mem_append.mp hx with y | y
          · by_cases e : x = a
            · exact .inl (List.mem_append_right _ (List.mem_singleton.mpr e))
            · rw [if_neg e]; exact (vl x y).elim (fun z => .inl (List.mem_append_left _ z)) .inr
          · exact .inl (List.mem_append_right _ y)
        · rw [List.length_append]; exact Nat.succ_le_succ f1
  · rintro r S ⟨l2, dn, h1, h2, F, x6, x7, e, rfl, X, pm, un, vl, f1, f2⟩
    obtain rfl : l2 = [] := by cases l2 with | nil => rfl | cons _ _ => cases e
    rw [List.append_nil] at pm
    refine ok_ref X.tl ?_
    try dsimp only
    rw [e_seq]
    exists 1
    refine X.on1 ⟨lk_clone, ?_⟩
    have ndh := pm.nodup_iff.mpr ct.nd
    have pl := pm.length_eq
    obtain ⟨k1, k2, B1, B2⟩ := X.ex
    have pS := srtN_perm h1
    have pS2 := srtN_perm h2
    have ndS : (srtN h1).Nodup := pS.nodup_iff.mpr B1.ct.nd
    refine ⟨far, tri, c, m, _, _, _, P, R, h1, k1, rfl, B1.T, B1.ct.vo, by omega, ?_⟩
    have c3 := B1.ct.puts ndS fun a ha => pS.mem_iff.mp ha
    obtain ⟨eL, hS⟩ := lay_same W B1.T.hh pS.symm
    generalize putsN [] (srtN h1) (valN k1) = k3 at c3 ⊢
    have lS := some_lt X.tl
    have T3 : Tab C far tri c m S.length (S.length + 1) (S.length + 2) P R (srtN h1) k3 (S ++ tbl C far tri c S.length k3 (layF P R (srtN h1))) := ⟨g3 0, g3 1, c3.ks, g3 2, W, hS, c3.wd⟩
    have T2 := (B2.app (X := tbl C far tri c S.length k3 (layF P R (srtN h1)))).T
    have po3 := (B2.app (X := tbl C far tri c S.length k3 (layF P R (srtN h1)))).po
    have fr3 := (B2.app (X := tbl C far tri c S.length k3 (layF P R (srtN h1)))).fr
    generalize hS5 : S ++ tbl C far tri c S.length k3 (layF P R (srtN h1)) = S5 at T3 T2 po3 fr3 ⊢
    have mem : ∀ a, a ∈ addsN (srtN h1) (srtN h2) ↔ a ∈ h := fun a => by
      rw [addsN_mem, pS.mem_iff, pS2.mem_iff, ← un a]
      exact pm.mem_iff
    have p3 : (addsN (srtN h1) (srtN h2)).Perm h := (List.perm_ext_iff_of_nodup (addsN_nd _ _ ndS) ct.nd).mpr mem
    try dsimp only
    rw [e_seq]
    exists 1
    rw [onIns_ref T3.t]
    refine ⟨lk_add_all, far, tri, true, false, c, m, S.length, S.length + 1, S.length + 2, 64, st.length + 3, st.length + 4, st.length + 5, P, R, srtN h1, h2, k3, k2, rfl, T3, T2.t, T2.tc, T2.ks, B2.ct.nd, B2.ct.wd, B2.ct.vo, by omega, by omega, by rw [p3.length_eq]; omega, by rw [pS.length_eq]; omega, by omega, ?_⟩
    have c4 := c3.puts2 B2.ct fun a ha => pS2.mem_iff.mp ha
    exists 1
    have fS : ∀ a ∈ addsN (srtN h1) (srtN h2), (if a ∈ srtN h2 then f a else F a) = f a := fun a ha => by
      by_cases e : a ∈ srtN h2
      · rw [if_pos e]
      · rw [if_neg e]
        have a1 : a ∈ h1 := pS.mem_iff.mp (((addsN_mem _ _).mp ha).elim id fun z => absurd z e)
        exact (vl a a1).elim (fun z => absurd (pS2.mem_iff.mpr z) e) id
    have c5 := c4.cong (g := f) fS
    have wdA : ∀ a ∈ addsN (srtN h1) (srtN h2), Wd a := c5.wd
    have l5 := some_lt T3.te
    refine .inl (q _ S.length (S.length + 1) (S.length + 2) _ _ ⟨⟨?_, ?_, c5.ks, ?_, W, ⟨c5.nd, fun x hx => W.lt x (wdA x hx), by rw [p3.length_eq]; omega⟩, wdA⟩, c5, ?_, ?_, fun x hx np => ?_, lp, by omega, by omega, by omega⟩ p3)
    · rw [put_oth (by omega) (by omega)]; exact T3.t
    · exact List.getElem?_set_self (by rw [List.length_set]; omega)
    · rw [List.getElem?_set_ne (by omega)]; exact List.getElem?_set_self l5
    · obtain ⟨o, e, po⟩ := po3
      exact ⟨o, by rw [put_oth (by omega) (by omega)]; exact e, po.less (by omega)⟩
    · rw [List.length_set, List.length_set]; omega
    · rw [put_oth (by omega) (by omega)]; exact fr3 x hx np
end
end DL
--ELX
--ELO
--ELP
--ELQ
--ELR
--ELS
namespace DL
open PySem PySem.Spec PyProof.Rows L2 LamX PySem.W SL
section
variable {C : Addr}
def At3 (C : Addr) (far tri : Bool) (c m : Nat) (P : List (List Int)) (R : List (List (List Int))) (h : List Nat) (f : Nat → Str) (lo hi : Nat) (S : DSt) (n : Nat) : Prop :=
  ∃ (i j : Nat) (h' : List Nat) (k' : List (Key × D)), Tab C far tri c m n i j P R h' k' S ∧ Ct k' h' f ∧ h'.Perm h ∧ lo ≤ n ∧ lo ≤ i ∧ lo ≤ j ∧ n < hi ∧ i < hi ∧ j < hi
section
variable {far tri : Bool} {c m : Nat} {P : List (List Int)} {R : List (List (List Int))} {h : List Nat} {f : Nat → Str} {lo hi : Nat} {S S' : DSt} {n : Nat}
theorem At3.mv (A : At3 C far tri c m P R h f lo hi S n) (e : ∀ x, lo ≤ x → x < hi → S'[x]? = S[x]?) : At3 C far tri c m P R h f lo hi S' n := by
  obtain ⟨i, j, h', k', T, ct, pm, a1, a2, a3, b1, b2, b3⟩ := A
  exact ⟨i, j, h', k', T.mv (e _ a1 b1) (e _ a2 b2) (e _ a3 b3), ct, pm, a1, a2, a3, b1, b2, b3⟩
theorem At3.alk {p u : Nat} (A : At3 C far tri c m P R h f lo hi S n) (pl : p < lo) (ul : u < lo) : Alk p u C far tri c m P R h f S n := by
  obtain ⟨i, j, h', k', T, ct, pm, a1, a2, a3, b1, b2, b3⟩ := A
  exact ⟨i, j, h', k', T, ct, pm, by omega, by omega, by omega, by omega⟩
theorem Bld.at3 {i j p k b : Nat} {h' : List Nat} {kvs : List (Key × D)} {st : DSt} (B : Bld C far tri c m n i j p k b P R h' kvs f st S) (pm : h'.Perm h) : At3 C far tri c m P R h f b S.length S n :=
  ⟨i, j, h', kvs, B.T, B.ct, pm, B.bn, B.bi, B.bj, some_lt B.T.t, some_lt B.T.tc, some_lt B.T.te⟩
end
structure Thr (C : Addr) (far tri : Bool) (c m p k qn b l1 l2 l3 n1 n2 n3 : Nat) (P : List (List Int)) (R : List (List (List Int))) (h : List Nat) (f : Nat → Str) (kn : List (Key × D)) (st S : DSt) : Prop where
  po : Pot k p S
  q : S[qn]? = some (.dK kn)
  t : S[l2]? = some (.lst [.ref n1, .ref n2, .ref n3])
  A1 : At3 C far tri c m P R h f b l1 S n1
  A3 : At3 C far tri c m P R h f (l2 + 1) l3 S n3
  le : l3 ≤ S.length
  fr : ∀ x, x < st.length → x ≠ p → S[x]? = st[x]?
  pb : p < b
  qb : qn < b
  sb : st.length ≤ b
  b1 : b ≤ l1
  b2 : l1 ≤ l2
  b3 : l2 < l3
structure Sec (C : Addr) (far tri : Bool) (c m n2 i2 j2 l1 l2 l3 : Nat) (P : List (List Int)) (R : List (List (List Int))) (h : List Nat) (k2 : List (Key × D)) (f : Nat → Str) (S : DSt) : Prop where
  T : Tab C far tri c m n2 i2 j2 P R h k2 S
  ct : Ct k2 h f
  n1 : l1 ≤ n2
  n2 : n2 < l2
  i1 : l1 ≤ i2
  i2 : i2 < l2
  j : l1 ≤ j2 ∧ j2 < l2 ∨ l3 ≤ j2
section
variable {far tri : Bool} {c m p k qn b l1 l2 l3 n1 n2 n3 i2 j2 c2 m2 : Nat} {P P2 : List (List Int)} {R R2 : List (List (List Int))} {h h2 : List Nat} {f f2 : Nat → Str} {kn k2 : List (Key × D)} {st S S' : DSt}
theorem Thr.mv (X : Thr C far tri c m p k qn b l1 l2 l3 n1 n2 n3 P R h f kn st S) (e : ∀ x, x < l1 ∨ l2 ≤ x ∧ x < l3 → S'[x]? = S[x]?) (l : l3 ≤ S'.length) : Thr C far tri c m p k qn b l1 l2 l3 n1 n2 n3 P R h f kn st S' := by
  have pb := X.pb
  have qb := X.qb
  have sb := X.sb
  have b1 := X.b1
  have b2 := X.b2
  have b3 := X.b3
  refine ⟨?_, (e _ (by omega)).trans X.q, (e _ (by omega)).trans X.t, X.A1.mv fun x h1 h2 => e x (by omega), X.A3.mv fun x h1 h2 => e x (by omega), l, fun x hx np => (e x (by omega)).trans (X.fr x hx np), pb, qb, sb, b1, b2, b3⟩
  obtain ⟨o, eo, po⟩ := X.po
  exact ⟨o, (e p (by omega)).trans eo, po⟩
theorem Thr.pot {k' : Nat} {o : O} (X : Thr C far tri c m p k qn b l1 l2 l3 n1 n2 n3 P R h f kn st S) (po : PotO k' o) : Thr C far tri c m p k' qn b l1 l2 l3 n1 n2 n3 P R h f kn st (S.set p o) := by
  have pb := X.pb
  have b1 := X.b1
  have b2 := X.b2
  have np : qn ≠ p := fun e => by obtain ⟨o, e0, _, _, _, rfl, _⟩ := X.po; have z := X.q; rw [e, e0] at z; cases z
  have ne : ∀ x, x ≠ p → (S.set p o)[x]? = S[x]? := fun x hx => List.getElem?_set_ne (fun z => hx z.symm)
  exact ⟨X.po.set2 po, (ne _ np).trans X.q, (ne _ (by omega)).trans X.t, X.A1.mv fun x h1 h2 => ne x (by omega), X.A3.mv fun x h1 h2 => ne x (by omega), by rw [List.length_set]; exact X.le, fun x hx xp => (ne x xp).trans (X.fr x hx xp), pb, X.qb, X.sb, b1, b2, X.b3⟩
theorem Sec.mv (A : Sec C far tri c2 m2 n2 i2 j2 l1 l2 l3 P2 R2 h2 k2 f2 S) (e : ∀ x, l1 ≤ x → S'[x]? = S[x]?) (b23 : l1 ≤ l3) : Sec C far tri c2 m2 n2 i2 j2 l1 l2 l3 P2 R2 h2 k2 f2 S' :=
  ⟨A.T.mv (e _ A.n1) (e _ A.i1) (e _ (by have := A.j; omega)), A.ct, A.n1, A.n2, A.i1, A.i2, A.j⟩
theorem Sec.at3 (A : Sec C far tri c2 m2 n2 i2 j2 l1 l2 l3 P2 R2 h2 k2 f2 S) (pm : h2.Perm h) (b23 : l1 ≤ l3) : At3 C far tri c2 m2 P2 R2 h f2 l1 S.length S n2 :=
  ⟨i2, j2, h2, k2, A.T, A.ct, pm, A.n1, A.i1, by have := A.j; omega, some_lt A.T.t, some_lt A.T.tc, some_lt A.T.te⟩
theorem Thr.less {k' : Nat} (X : Thr C far tri c m p k qn b l1 l2 l3 n1 n2 n3 P R h f kn st S) (l : k' ≤ k) : Thr C far tri c m p k' qn b l1 l2 l3 n1 n2 n3 P R h f kn st S := { X with po := X.po.less l }
theorem Thr.alike {k0 : Nat} {Q : DK} (X : Thr C far tri c m p (k0 + 60) qn b l1 l2 l3 n1 n2 n3 P R h f kn st S) (A : Sec C far tri c m n2 i2 j2 l1 l2 l3 P R h2 k2 f S) (pm : h2.Perm h) (ct : Ct kn h f) (few : h.length < 64) (q : ∀ o, PotO k0 o → Q (.bl true) (S.set p o)) : g_alike C [.ref p, .ref l2, .ref qn] S Q := by
  have pb := X.pb
  have qb := X.qb
  have b1 := X.b1
  have b2 := X.b2
  have b3 := X.b3
  refine ⟨p, l2, qn, k0, n1, n2, n3, far, tri, c, m, P, R, h, f, kn, rfl, X.po, X.t, X.q, ct, few, fun n hn => ?_, q⟩
  simp only [List.mem_cons, List.not_mem_nil, or_false] at hn
  rcases hn with rfl | rfl | rfl
  · exact X.A1.alk pb qb
  · exact (A.at3 pm (by omega)).alk (by omega) (by omega)
  · exact X.A3.alk (by omega) (by omega)
theorem sec_put {z v : Str} {Qk : DK} (X : Thr C far tri c m p k qn b l1 l2 l3 n1 n2 n3 P R h f kn st S) (A : Sec C far tri c2 m2 n2 i2 j2 l1 l2 l3 P2 R2 h2 k2 f2 S) (w : Word 1 z) (wv : Word 0 v) (few : num z ∈ h2 ∨ h2.length < c2)
    (q : ∀ S', Thr C far tri c m p k qn b l1 l2 l3 n1 n2 n3 P R h f kn st S' → Sec C far tri c2 m2 n2 i2 j2 l1 l2 l3 P2 R2 (addN h2 (num z)) (putD k2 (.inr z) (.str v)) (updS f2 (num z) v) S' → Qk .non S') : g_put C [.ref n2, .str z, .str v] S Qk := by
  have T := A.T
  have ij : j2 ≠ i2 := fun e => by have := T.te; rw [e, T.tc] at this; cases this
  have nj : n2 ≠ j2 := fun e => by have := T.te; rw [← e, T.t] at this; cases this
  have ni : n2 ≠ i2 := fun e => by have := T.tc; rw [← e, T.t] at this; cases this
  have a1 := A.n1
  have a2 := A.n2
  have a3 := A.i1
  have a4 := A.i2
  have a5 := A.j
  have b2 := X.b2
  have b3 := X.b3
  refine ⟨far, tri, c2, m2, n2, i2, j2, P2, R2, h2, k2, z, v, rfl, T, w, wv, few, q _ (X.mv (fun x hx => put_oth (by omega) (by omega)) (by rw [List.length_set, List.length_set]; exact X.le)) ⟨⟨?_, ?_, keys_put T.ks T.wd w, ?_, T.W, add_hist T.W T.hh w.wd few, add_wd T.wd w.wd⟩, A.ct.put w wv, a1, a2, a3, a4, a5⟩⟩
  · rw [put_oth ni nj]; exact T.t
  · exact List.getElem?_set_self (by rw [List.length_set]; exact some_lt T.tc)
  · rw [List.getElem?_set_ne (fun e => ij e.symm)]; exact List.getElem?_set_self (some_lt T.te)
theorem sec_out {a : Nat} {Qk : DK} (X : Thr C far tri c m p k qn b l1 l2 l3 n1 n2 n3 P R h f kn st S) (A : Sec C far tri c2 m2 n2 i2 j2 l1 l2 l3 P2 R2 h2 k2 f2 S) (ha : a ∈ h2) (l : h2.length < 64)
    (q : ∀ S' j' k', Thr C far tri c m p k qn b l1 l2 l3 n1 n2 n3 P R h f kn st S' → Sec C far tri c2 m2 n2 i2 j' l1 l2 l3 P2 R2 (delN h2 a) k' f2 S' → Qk (.str (f2 a)) S') : g_takeOut C [.ref n2, .str (nm a)] S Qk := by
  have T := A.T
  have wa := T.wd a ha
  have ni : i2 ≠ n2 := fun e => by have := T.tc; rw [e, T.t] at this; cases this
  have a1 := A.n1
  have a2 := A.n2
  have a3 := A.i1
  have a4 := A.i2
  have b2 := X.b2
  have b3 := X.b3
  have le := X.le
  have ln := some_lt T.t
  have li := some_lt T.tc
  have cd := A.ct.drop wa.1
  rw [wa.2] at cd
  refine ⟨far, tri, c2, m2, n2, i2, j2, P2, R2, h2, k2, nm a, f2 a, rfl, T, wa.1, A.ct.v a ha, l, ?_⟩
  rw [wa.2]
  refine q _ S.length (dropD k2 (.inr (nm a))) (X.mv (fun x hx => out_oth (by omega) (by omega) (by omega)) (by rw [List.length_append, List.length_set, List.length_set]; omega)) ⟨⟨?_, ?_, cd.ks, ?_, T.W, delN_hist T.hh, fun b hb => T.wd b (delN_mem.mp hb).1⟩, cd, a1, a2, a3, a4, .inr le⟩
  · rw [List.getElem?_append_left (by rw [List.length_set, List.length_set]; exact ln)]
    exact List.getElem?_set_self (by rw [List.length_set]; exact ln)
  · rw [List.getElem?_append_left (by rw [List.length_set, List.length_set]; exact li), List.getElem?_set_ne ni.symm]
    exact List.getElem?_set_self li
  · rw [List.getElem?_append_right (by rw [List.length_set, List.length_set]; exact Nat.le_refl _), List.length_set, List.length_set, Nat.sub_self]
    rfl
theorem sec_outS {z : Str} {Qk : DK} (X : Thr C far tri c m p k qn b l1 l2 l3 n1 n2 n3 P R h f kn st S) (A : Sec C far tri c2 m2 n2 i2 j2 l1 l2 l3 P2 R2 h2 k2 f2 S) (w : Word 1 z) (ha : num z ∈ h2) (l : h2.length < 64)
    (q : ∀ S' j' k', Thr C far tri c m p k qn b l1 l2 l3 n1 n2 n3 P R h f kn st S' → Sec C far tri c2 m2 n2 i2 j' l1 l2 l3 P2 R2 (delN h2 (num z)) k' f2 S' → Qk (.str (f2 (num z))) S') : g_takeOut C [.ref n2, .str z] S Qk := by
  have z2 := sec_out X A ha l q
  rw [nm_num w] at z2
  exact z2
theorem Sec.cong {g : Nat → Str} (A : Sec C far tri c2 m2 n2 i2 j2 l1 l2 l3 P2 R2 h2 k2 f2 S) (e : ∀ a ∈ h2, f2 a = g a) : Sec C far tri c2 m2 n2 i2 j2 l1 l2 l3 P2 R2 h2 k2 g S := { A with ct := A.ct.cong e }
theorem At3.ty {lo hi n : Nat} (A : At3 C far tri c m P R h f lo hi S n) : TyD C S (.ref n) := by
  obtain ⟨i, j, h', k', T, _⟩ := A
  unfold TyD
  simp only [T.t]
theorem sec_grow {c3 m3 : Nat} {P3 : List (List Int)} {R3 : List (List (List Int))} {Qk : DK} (X : Thr C far tri c m p k qn b l1 l2 l3 n1 n2 n3 P R h f kn st S) (A : Sec C far tri c2 m2 n2 i2 j2 l1 l2 l3 P2 R2 h2 k2 f2 S) (W : NmS far tri c3 m3 P3 R3) (few : h2.length ≤ c3) (l : h2.length < 64)
    (q : ∀ S' j', Thr C far tri c m p k qn b l1 l2 l3 n1 n2 n3 P R h f kn st S' → Sec C far tri c3 m3 n2 i2 j' l1 l2 l3 P3 R3 h2 k2 f2 S' → Qk .non S') : g_grow C [.ref n2, .int c3] S Qk := by
  have T := A.T
  have ni : i2 ≠ n2 := fun e => by have := T.tc; rw [e, T.t] at this; cases this
  have a1 := A.n1
  have a2 := A.n2
  have a3 := A.i1
  have a4 := A.i2
  have b2 := X.b2
  have b3 := X.b3
  have le := X.le
  have ln := some_lt T.t
  have li := some_lt T.tc
  refine ⟨far, tri, c2, m2, n2, i2, j2, c3, m3, P2, P3, R2, R3, h2, k2, rfl, T, W, few, l, ?_⟩
  refine q _ S.length (X.mv (fun x hx => grow_oth (by omega) (by omega)) (by rw [List.length_append, List.length_set]; omega)) ⟨⟨?_, ?_, T.ks, ?_, W, ⟨T.hh.nd, fun a ha => W.lt a (T.wd a ha), few⟩, T.wd⟩, A.ct, a1, a2, a3, a4, .inr le⟩
  · rw [List.getElem?_append_left (by rw [List.length_set]; exact ln)]
    exact List.getElem?_set_self ln
  · rw [grow_oth li ni]; exact T.tc
  · rw [List.getElem?_append_right (by rw [List.length_set]; exact Nat.le_refl _), List.length_set, Nat.sub_self]
    rfl
theorem Sec.on {G : Nat → List (Str × D) → Prop} (A : Sec C far tri c2 m2 n2 i2 j2 l1 l2 l3 P2 R2 h2 k2 f2 S) (q : G n2 (fsT far tri c2 i2 j2)) : onIns C S (.ref n2) G := by
  rw [onIns_ref A.T.t]
  exact q
theorem sec_ne {lo hi n : Nat} {Qk : DK} (A : Sec C far tri c2 m2 n2 i2 j2 l1 l2 l3 P2 R2 h2 k2 f2 S) (B : At3 C far tri c m P R h f lo hi S n) (no : c2 ≠ c ∨ h2.length ≠ h.length) (q : Qk (.bl false) S) : g_eqT C [.ref n2, .ref n] S Qk := by
  obtain ⟨i, j, h', k', T, ct, pm, _⟩ := B
  refine eq_tabs A.T.t A.T.tc T.t T.tc A.ct ct false (.inr ⟨rfl, ?_⟩) q
  rcases no with e | e
  · exact .inl e
  · exact .inr (.inr (.inr (.inl (by rw [pm.length_eq]; exact e))))
end
def g_right84 (C : Addr) : DRs := fun ds st Q => ∃ p k : Nat, ds = [.ref p] ∧ Pot (k + 5000) p st ∧ ∀ o : O, PotO k o → Q (.bl true) (st.set p o)
theorem ar_right84 (ds : List D) (st : DSt) (Q : DK) (h : g_right84 C ds st Q) : ds.length = 1 := by
  obtain ⟨p, k, rfl, _⟩ := h
  rfl
set_option maxHeartbeats 8000000 in
theorem sem_right84 (ds : List D) (st : DSt) (Q : DK) (h : g_right84 C ds st Q) : F__law_right_v55 C (g_put C) (g_takeOut C) (g_grow C) (g_eqT C) g_take g_ofX g_kindD g_nameY g_valueD (g_byX C) (g_byX C) (g_byX C) (g_alike C) { nx := fun _ st' => Rt st Q .non st', rt := Rt st Q } (startD 8 ds) st := by
  obtain ⟨p, K, rfl, pot, q⟩ := h
  have st8 : startD 8 [D.ref p] = [some (.ref p), none, none, none, none, none, none, none] := rfl
  have big : (100000 : Nat) ≤ sizeLine := by decide
  have lp : p < st.length := by obtain ⟨o, e, _⟩ := pot; exact (List.getElem?_eq_some_iff.mp e).1
  simp only [F__law_right_v55, st8]
  try dsimp only
  rw [e_seq]
  exists 1
  refine ⟨p, K + 4998, rfl, pot, fun far tri o1 po1 => ?_⟩
  exists 1
  try dsimp only
  rw [e_seq]
  exists 1
  refine ⟨p, _, [8, 16, 4, 32, 2].map fun i : Nat => D.int i, K + 4997, rfl, .inl rfl, by simp, by simp, pot_at lp po1, fun d o2 hd po2 => ?_⟩
  obtain ⟨c, hc, rfl⟩ := List.mem_map.mp hd
  rw [pot_app lp]
  have oc : OkC tri c ∧ OkC tri (2 * c) := by
    simp only [List.mem_cons, List.not_mem_nil, or_false] at hc
    refine ⟨⟨by omega, by omega, fun _ => ?_⟩, ⟨by omega, by omega, fun _ => ?_⟩⟩
    · simp only [List.mem_cons, List.not_mem_nil, or_false]; omega
    · simp only [List.mem_cons, List.not_mem_nil, or_false]; omega
  have c2 : 2 ≤ c := by
    simp only [List.mem_cons, List.not_mem_nil, or_false] at hc
    omega
  try dsimp only
  rw [e_seq]
  exists 1
  refine ⟨p, 30, K + 4996, rfl, pot_at lp (po2.less (by omega)), by decide, by decide, fun w o3 w0 w30 po3 => ?_⟩
  rw [pot_app lp]
  exists 1
  refine ⟨⟨by omega, by omega⟩, ?_⟩
  have own : ∀ (o x : O), (st.set p o ++ [x])[st.length]? = some x := fun o x => st_get 0
  have put : ∀ (o x y : O), (st.set p o ++ [x]).set st.length y = st.set p o ++ [y] := fun o x y => st_set 0
  rw [show (st.set p o1).length = st.length from List.length_set]
  refine for_inv (fun left r S => ∃ (h : List Nat) (kn : List (Key × D)) (f : Nat → Str) (o : O) (x4 x5 : Option D), Ct kn h f ∧ (∀ a ∈ h, NoY (nm a)) ∧ h.length + left.length ≤ w.toNat ∧ h.length < c ∧ PotO (K + 4000 + 18 * left.length) o ∧
    r = [some (.ref p), some (kindD far tri), some (.ref st.length), some (.int c), x4, x5, none, none] ∧ S = st.set p o ++ [.dK kn]) ?_ ?_ _ _ _ ⟨[], [], fun _ => "", o3, none, none, ⟨VOk.nil, rfl, List.nodup_nil, fun a ha => (by cases ha), fun a ha => (by cases ha)⟩, fun a ha => (by cases ha), by rw [rgD_length]; simp, by show 0 < c; omega, po3.less (by rw [rgD_length]; omega), rfl, rfl⟩
  · rintro d left r S N hN ⟨h, kn, f, o, x4, x5, ct, nY, lh, lc, po, rfl, rfl⟩
    rw [List.length_cons] at lh po
    exists 1
    try dsimp only
    rw [e_seq]
    exists 1
    refine ⟨p, K + 4000 + 18 * left.length + 9, rfl, pot_at lp (po.less (by omega)), fun z o4 wz ny po4 => ?_⟩
    rw [pot_app lp]
    exists 1, onDk_ref (own _ _)
    have km := key_mem ct.wd wz
    rw [← ct.ks] at km
    have yes : (num z ∈ h ∨ h.length + 1 < c) → g_valueD [D.ref p] (st.set p o4 ++ [O.dK kn]) fun v st1 => onDk st1 (D.ref st.length) fun n kvs => kvs.length < sizeLine ∧ N [some (.ref p), some (kindD far tri), some (.ref st.length), some (.int c), some d, some (.str z), none, none] (st1.set n (O.dK (putD kvs (Sum.inr z) v))) := fun room => by
      refine ⟨p, K + 4000 + 18 * left.length, rfl, pot_at lp po4, fun v o5 wv po5 => ?_⟩
      rw [pot_app lp]
      try dsimp only
      rw [onDk_ref (own _ _)]
      refine ⟨by have := ct.len; omega, ?_⟩
      rw [put]
      refine hN _ _ (.inl ⟨addN h (num z), _, _, o5, _, _, ct.put wz wv, fun a ha => ?_, ?_, ?_, po5, rfl, rfl⟩)
      · rcases addN_mem.mp ha with e | e
        · exact nY a e
        · rw [e, nm_num wz]; exact ny
      · have := addN_len (h := h) (a := num z); omega
      · rcases room with e | e
        · have z2 : addN h (num z) = h := if_pos e
          rw [z2]; exact lc
        · have := addN_len (h := h) (a := num z); omega
    by_cases lt : h.length + 1 < c
    · refine iteT' (decide_eq_true (by rw [ct.len]; omega)) ?_
      rw [if_pos trivial]
      exact yes (.inr lt)
    · refine iteF' (decide_eq_false (by rw [ct.len]; omega)) ?_
      by_cases zin : num z ∈ h
      · refine iteT' (key_yes (km.mpr zin)) ?_
        exact yes (.inl zin)
      · refine iteF' (key_no fun y => zin (km.mp y)) ?_
        refine hN _ _ (.inl ⟨h, kn, f, o4, _, _, ct, nY, by omega, lc, po4.less (by omega), rfl, rfl⟩)
  · rintro r S ⟨h, kn, f, o, x4, x5, ct, nY, lh, lc, po, rfl, rfl⟩
    exists 1
    try dsimp only
    rw [e_seq]
    exists 1
    rw [List.length_nil] at lh po
    obtain ⟨m, P, R, W⟩ := nmS_ex (far := far) oc.1
    have q0 := own o (.dK kn)
    have l0 : (st.set p o ++ [O.dK kn]).length = st.length + 1 := by rw [List.length_append, List.length_set]; rfl
    have p0 : Pot (K + 4000) p (st.set p o ++ [O.dK kn]) := pot_at lp (po.less (by omega))
    have f0 : ∀ x, x < st.length → x ≠ p → (st.set p o ++ [O.dK kn])[x]? = st[x]? := fun x hx np => by rw [List.getElem?_append_left (by rw [List.length_set]; exact hx), List.getElem?_set_ne (fun e => np e.symm)]
    generalize st.set p o ++ [O.dK kn] = S0 at q0 l0 p0 f0 ⊢
    have hl : h.length ≤ 30 := by omega
    have np : st.length ≠ p := by omega
    refine ⟨p, _, K + 3000, far, tri, c, m, P, R, h, f, kn, rfl, W, p0, q0, ct, lc, hl, nY, fun S1 n1 i1 j1 h1 k1 B1 pm1 => ?_⟩
    have l1 := some_lt B1.T.t
    have e1 := B1.bn
    have q1 : S1[st.length]? = some (.dK kn) := (B1.fr _ (by omega) np).trans q0
    refine ⟨p, _, K + 2000, far, tri, c, m, P, R, h, f, kn, rfl, W, B1.po, q1, ct, lc, hl, nY, fun S2 n2 i2 j2 h2 k2 B2 pm2 => ?_⟩
    have l2 := some_lt B2.T.t
    have e2 := B2.bn
    have q2 : S2[st.length]? = some (.dK kn) := (B2.fr _ (by omega) np).trans q1
    have t2 : (S2 ++ [O.lst [.ref n1, .ref n2]])[S2.length]? = some (.lst [.ref n1, .ref n2]) := g3 0
    have l3 : (S2 ++ [O.lst [.ref n1, .ref n2]]).length = S2.length + 1 := by rw [List.length_append]; rfl
    have q3 : (S2 ++ [O.lst [.ref n1, .ref n2]])[st.length]? = some (.dK kn) := (app_at q2).trans q2
    try dsimp only
    rw [e_seq]
    exists 1
    refine ⟨lstD_own t2, ?_⟩
    refine ⟨p, _, K + 1000, far, tri, c, m, P, R, h, f, kn, rfl, W, B2.po.app, q3, ct, lc, hl, nY, fun S3 n3 i3 j3 h3 k3 B3 pm3 => ?_⟩
    rw [l3] at B3
    have t3 : S3[S2.length]? = some (.lst [.ref n1, .ref n2]) := (B3.fr _ (by omega) (by omega)).trans t2
    refine app_lk t3 (show 2 < sizeLine by omega) ?_
    have e3 := B3.bn
    have l4 := some_lt B3.T.t
    have X : Thr C far tri c m p (K + 1000) st.length (st.length + 1) S1.length S2.length S3.length n1 n2 n3 P R h f kn st (S3.set S2.length (.lst [.ref n1, .ref n2, .ref n3])) := by
      have ne : ∀ x, x ≠ S2.length → (S3.set S2.length (.lst [.ref n1, .ref n2, .ref n3]))[x]? = S3[x]? := fun x hx => List.getElem?_set_ne (fun e => hx e.symm)
      have o2 : ∀ x, x < S2.length → x ≠ p → (S3.set S2.length (.lst [.ref n1, .ref n2, .ref n3]))[x]? = S2[x]? := fun x hx np => by
        rw [ne x (by omega), B3.fr x (by omega) np]
        exact List.getElem?_append_left hx
      have o1 : ∀ x, x < S1.length → x ≠ p → (S3.set S2.length (.lst [.ref n1, .ref n2, .ref n3]))[x]? = S1[x]? := fun x hx np => (o2 x (by omega) np).trans (B2.fr x hx np)
      have a1 := B1.at3 pm1
      rw [l0] at a1
      refine ⟨?_, (o2 _ (by omega) np).trans q2, List.getElem?_set_self (by omega), a1.mv fun x h1 h2 => o1 x h2 (by omega), (B3.at3 pm3).mv fun x h1 h2 => ne x (by omega), by rw [List.length_set]; exact Nat.le_refl _, fun x hx xp => (o1 x (by omega) xp).trans ((B1.fr x (by omega) xp).trans (f0 x hx xp)), by omega, by omega, by omega, by omega, by omega, by omega⟩
      obtain ⟨o, eo, po⟩ := B3.po
      exact ⟨o, (ne p (by omega)).trans eo, po⟩
    have A : Sec C far tri c m n2 i2 j2 S1.length S2.length S3.length P R h2 k2 f (S3.set S2.length (.lst [.ref n1, .ref n2, .ref n3])) := by
      have b1 := B2.bn
      have b2 := B2.bi
      have b3 := B2.bj
      have t1 := some_lt B2.T.t
      have t2 := some_lt B2.T.tc
      have t3 := some_lt B2.T.te
      have o2 : ∀ x, x < S2.length → x ≠ p → (S3.set S2.length (.lst [.ref n1, .ref n2, .ref n3]))[x]? = S2[x]? := fun x hx np => by
        rw [List.getElem?_set_ne (by omega), B3.fr x (by omega) np]
        exact List.getElem?_append_left hx
      exact ⟨B2.T.mv (o2 _ t1 (by omega)) (o2 _ t2 (by omega)) (o2 _ t3 (by omega)), B2.ct, b1, t1, b2, t2, .inl ⟨b3, t3⟩⟩
    dsimp only [List.cons_append, List.nil_append]
    have l1S : S1.length ≤ S3.length := by omega
    generalize S3.set S2.length (.lst [.ref n1, .ref n2, .ref n3]) = S4 at X A ⊢
    generalize S1.length = L1 at X A l1S
    generalize S2.length = L2 at X A
    generalize S3.length = L3 at X A l1S
    clear B1 B2 B3 q1 q2 q3 t2 t3 l1 l2 l3 l4 e1 e2 e3 p0 q0 f0 po
    try dsimp only
    rw [e_seq]
    exists 1
    refine (X.less (k' := K + 900 + 60) (by omega)).alike A pm2 ct (by omega) fun o4 po4 => ?_
    have X1 := X.pot po4
    have A1 := A.mv (S' := S4.set p o4) (fun x hx => List.getElem?_set_ne (by have := X.pb; have := X.b1; omega)) l1S
    generalize S4.set p o4 = S5 at X1 A1 ⊢
    simp only [e_onB, Bool.not_true, if_true, Bool.false_eq_true, if_false]
    have sT : ∀ S, S[L2]? = some (.lst [.ref n1, .ref n2, .ref n3]) → seqS S (.ref L2) = some [.ref n1, .ref n2, .ref n3] := fun S e => by unfold seqS; simp only [e]
    have ix : atI [D.ref n1, .ref n2, .ref n3] 0 = some (.ref n1) ∧ atI [D.ref n1, .ref n2, .ref n3] 1 = some (.ref n2) ∧ atI [D.ref n1, .ref n2, .ref n3] 2 = some (.ref n3) := ⟨rfl, rfl, rfl⟩
    try dsimp only
    rw [e_seq]
    exists 1, sT _ X1.t, ix.1, ix.2.1, ix.2.2
    try dsimp only
    rw [e_seq]
    exists 1
    have ny : num "yyy" ∉ h2 := fun z => by
      have n := nY _ (pm2.mem_iff.mp z)
      rw [nm_num yyy_w] at n
      exact not_yyy n rfl
    have lh2 := pm2.length_eq
    refine A1.on ⟨lk_put, sec_put X1 A1 yyy_w new_w (.inr (by omega)) fun S6 X6 A6 => ?_⟩
    rw [addN_new ny] at A6
    try dsimp only
    rw [e_seq]
    exists 1, sT _ X6.t, ix.1, ix.2.1, ix.2.2
    rw [onIns_ref A6.T.t]
    refine ⟨X6.A1.ty, sec_ne A6 X6.A1 (.inr (by rw [List.length_append, List.length_singleton]; omega)) ⟨false, rfl, ?_⟩⟩
    simp only [Bool.false_eq_true, if_false]
    refine A6.on ⟨lk_take_out, sec_outS X6 A6 yyy_w (by simp) (by rw [List.length_append, List.length_singleton]; omega) fun S7 j7 k7 X7 A7 => ?_⟩
    have e7 : delN (h2 ++ [num "yyy"]) (num "yyy") = h2 := by rw [← addN_new ny]; exact del_add ny
    rw [e7] at A7
    have A8 := A7.cong (g := f) fun a ha => by
      unfold updS
      rw [if_neg fun e => ny (by rw [← e]; exact ha)]
    have v7 : updS f (num "yyy") "new" (num "yyy") = "new" := if_pos rfl
    rw [v7]
    exists 1
    refine iteF' (by decide) ?_
    refine (X7.less (k' := K + 800 + 60) (by omega)).alike A8 pm2 ct (by omega) fun o5 po5 => ?_
    have X9 := X7.pot po5
    have A9 := A8.mv (S' := S7.set p o5) (fun x hx => List.getElem?_set_ne (by have := X7.pb; have := X7.b1; omega)) l1S
    generalize S7.set p o5 = S9 at X9 A9 ⊢
    simp only [e_onB, Bool.not_true, if_true, Bool.false_eq_true, if_false]
    obtain ⟨m', P', R', W'⟩ := nmS_ex (far := far) oc.2
    try dsimp only
    rw [e_seq]
    exists 1
    rw [show (2 * (c : Int)) = ((2 * c : Nat) : Int) by omega]
    refine A9.on ⟨lk_grow, by unfold CMul; omega, sec_grow X9 A9 W' (by omega) (by omega) fun S10 j10 X10 A10 => ?_⟩
    try dsimp only
    rw [e_seq]
    exists 1, sT _ X10.t, ix.1, ix.2.1, ix.2.2
    rw [onIns_ref A10.T.t]
    refine ⟨X10.A3.ty, sec_ne A10 X10.A3 (.inl (by omega)) ⟨false, rfl, ?_⟩⟩
    simp only [Bool.false_eq_true, if_false]
    try dsimp only
    rw [e_seq]
    exists 1
    refine A10.on ⟨lk_grow, sec_grow X10 A10 W (by omega) (by omega) fun S11 j11 X11 A11 => ?_⟩
    exists 1
    refine (X11.less (k' := K + 60) (by omega)).alike A11 pm2 ct (by omega) fun o6 po6 => ?_
    have X12 := X11.pot po6
    refine rt_cut lp (by rw [List.length_set]; have := X11.le; have := X11.sb; have := X11.b1; have := X11.b2; have := X11.b3; omega) (List.getElem?_set_self ?_) po6 (fun x hx np => X12.fr x hx np) rfl (q o6 po6)
    have := X11.le
    have := X11.pb
    have := X11.b1
    have := X11.b2
    have := X11.b3
    omega
end
end DL
namespace DL
open PySem PySem.Spec PyProof.Rows L2 LamX PySem.W SL
def F_law_v6 (g__law_pot_of : DRs) (g__law_right : DRs) : DTS := (sSeq (sFor (wRng1 (daCons (dCB dMax2 (daCons (dC (.int 1)) (daCons (dCB dMin2 (daCons (dC (.int 2)) (daCons (dCB dLen (daCons (dVar 0) daNil)) daNil))) daNil))) daNil)) (gNm 1) (sSeq (sSet 2 (dCB g__law_pot_of (daCons (dVar 0) (daCons (dVar 1) daNil)))) (sIf (dtOr (dtNot (dTest (dCB g__law_right (daCons (dVar 2) daNil)))) (dtNot (dTest (dCB g__law_right (daCons (dVar 2) daNil))))) (sRet (dC (.bl false))) sNext))) (sRet (dC (.bl true))))
end DL
--ELX
--ELO
--ELP
--ELQ
--ELR
--ELS
namespace DL
open PySem PySem.Spec PyProof.Rows L2 LamX PySem.W SL
section
variable {C : Addr}
theorem sem_law84 (ds : List D) (st : DSt) (Q : DK) (h : g_law ds st Q) : F_law_v6 g_pot (g_right84 C) { nx := fun _ st' => Rt st Q .non st', rt := Rt st Q } (startD 3 ds) st := by
  obtain ⟨ns, x, rfl, hx, few, q⟩ := h
  have st3 : startD 3 [x] = [some x, none, none] := rfl
  simp only [F_law_v6, st3]
  try dsimp only
  rw [e_seq]
  exists 1, hx.seq, List.length_map
  generalize hj : (if (if (ns.length : Int) < 2 then (ns.length : Int) else 2) > 1 then (if (ns.length : Int) < 2 then (ns.length : Int) else 2) else 1) = j
  have j3 : 1 ≤ j ∧ j ≤ 2 := by
    rw [← hj]
    split <;> (try split) <;> omega
  refine ⟨⟨by omega, by omega⟩, ?_⟩
  refine for_inv (fun left r st' => ∃ (x1 x2 : Option D), r = [some x, x1, x2] ∧ ∀ d ∈ left, ∃ c : Nat, c ≤ 3 ∧ d = .int (c : Nat)) ?_ ?_ _ _ _ ⟨_, _, rfl, fun d hd => by obtain ⟨c, lc, rfl⟩ := rgD_mem hd; exact ⟨c, by omega, by rw [Int.zero_add]⟩⟩
  · rintro d left r st' N hN ⟨x1, x2, rfl, hl⟩
    obtain ⟨c, lc, rfl⟩ := hl d List.mem_cons_self
    exists 1
    try dsimp only
    rw [e_seq]
    exists 1
    refine ⟨ns, x, c, rfl, hx, lc, fun o po => ?_⟩
    exists 1
    refine ⟨st'.length, 5000, rfl, ⟨o, by simp, po.less (by decide)⟩, fun o2 po2 => ?_⟩
    exists 1
    refine iteF' rfl ?_
    refine ⟨st'.length, 0, rfl, ⟨o2, by simp, po2.less (by decide)⟩, fun o3 po3 => ?_⟩
    exists 1
    refine iteF' rfl ?_
    exact hN _ _ (.inl ⟨_, _, rfl, fun d hd => hl d (List.mem_cons_of_mem _ hd)⟩)
  · rintro r st' ⟨x1, x2, rfl, hl⟩
    exists 1
    exact .inl (q _)
end
end DL
namespace DL.K84
open PySem PySem.Spec PyProof.Rows L2 LamX PySem.W SL
open DL
def topS (i : Nat) : Stmt := PySem.Challenge.pw_samelayout_k84_whole_tables_by_unlike_hi.main.body.getD i (.Pass ⟨0, 0, 0, 0⟩)
abbrev s_is_integer_within : Stmt := topS 11
abbrev n_is_integer_within : List Str := ["value", "low", "high"]
theorem sc_is_integer_within : FnScope n_is_integer_within ["value", "low", "high"] (defScope s_is_integer_within) := ⟨rfl, rfl, rfl, by decide +kernel, rfl, by decide +kernel, by decide +kernel⟩
abbrev s_linear : Stmt := topS 13
abbrev n_linear : List Str := ["count", "home", "at"]
theorem sc_linear : FnScope n_linear ["count", "home"] (defScope s_linear) := ⟨rfl, rfl, rfl, by decide +kernel, rfl, by decide +kernel, by decide +kernel⟩
abbrev s_triangular : Stmt := topS 14
abbrev n_triangular : List Str := ["count", "home", "at"]
theorem sc_triangular : FnScope n_triangular ["count", "home"] (defScope s_triangular) := ⟨rfl, rfl, rfl, by decide +kernel, rfl, by decide +kernel, by decide +kernel⟩
abbrev s_is_power_of_two : Stmt := topS 15
abbrev n_is_power_of_two : List Str := ["number"]
theorem sc_is_power_of_two : FnScope n_is_power_of_two ["number"] (defScope s_is_power_of_two) := ⟨rfl, rfl, rfl, by decide +kernel, rfl, by decide +kernel, by decide +kernel⟩
abbrev s_is_word : Stmt := topS 22
abbrev n_is_word : List Str := ["value", "least", "letter"]
theorem sc_is_word : FnScope n_is_word ["value", "least"] (defScope s_is_word) := ⟨rfl, rfl, rfl, by decide +kernel, rfl, by decide +kernel, by decide +kernel⟩
abbrev s_require_name : Stmt := topS 23
abbrev n_require_name : List Str := ["value"]
theorem sc_require_name : FnScope n_require_name ["value"] (defScope s_require_name) := ⟨rfl, rfl, rfl, by decide +kernel, rfl, by decide +kernel, by decide +kernel⟩
abbrev s_require_count : Stmt := topS 24
abbrev n_require_count : List Str := ["value", "way"]
theorem sc_require_count : FnScope n_require_count ["value", "way"] (defScope s_require_count) := ⟨rfl, rfl, rfl, by decide +kernel, rfl, by decide +kernel, by decide +kernel⟩
abbrev s_home_of : Stmt := topS 25
abbrev n_home_of : List Str := ["name", "count", "number", "letter"]
theorem sc_home_of : FnScope n_home_of ["name", "count"] (defScope s_home_of) := ⟨rfl, rfl, rfl, by decide +kernel, rfl, by decide +kernel, by decide +kernel⟩
abbrev s_Table___init__ : Stmt := inClass (topS 26) 0
abbrev n_Table___init__ : List Str := ["self", "count", "way", "rule"]
theorem sc_Table___init__ : FnScope n_Table___init__ ["self", "count", "way", "rule"] (defScope s_Table___init__) := ⟨rfl, rfl, rfl, by decide +kernel, rfl, by decide +kernel, by decide +kernel⟩
abbrev s_Table_put : Stmt := inClass (topS 26) 1
abbrev n_Table_put : List Str := ["self", "name", "value"]
theorem sc_Table_put : FnScope n_Table_put ["self", "name", "value"] (defScope s_Table_put) := ⟨rfl, rfl, rfl, by decide +kernel, rfl, by decide +kernel, by decide +kernel⟩
abbrev s_Table_value_of : Stmt := inClass (topS 26) 2
abbrev n_Table_value_of : List Str := ["self", "name"]
theorem sc_Table_value_of : FnScope n_Table_value_of ["self", "name"] (defScope s_Table_value_of) := ⟨rfl, rfl, rfl, by decide +kernel, rfl, by decide +kernel, by decide +kernel⟩
abbrev s_Table_take_out : Stmt := inClass (topS 26) 3
abbrev n_Table_take_out : List Str := ["self", "name", "value"]
theorem sc_Table_take_out : FnScope n_Table_take_out ["self", "name"] (defScope s_Table_take_out) := ⟨rfl, rfl, rfl, by decide +kernel, rfl, by decide +kernel, by decide +kernel⟩
abbrev s_Table_look_up : Stmt := inClass (topS 26) 4
abbrev n_Table_look_up : List Str := ["self", "name", "reads", "slot"]
theorem sc_Table_look_up : FnScope n_Table_look_up ["self", "name"] (defScope s_Table_look_up) := ⟨rfl, rfl, rfl, by decide +kernel, rfl, by decide +kernel, by decide +kernel⟩
abbrev s_Table_names : Stmt := inClass (topS 26) 5
abbrev n_Table_names : List Str := ["self"]
theorem sc_Table_names : FnScope n_Table_names ["self"] (defScope s_Table_names) := ⟨rfl, rfl, rfl, by decide +kernel, rfl, by decide +kernel, by decide +kernel⟩
abbrev s_Table_layout : Stmt := inClass (topS 26) 6
abbrev n_Table_layout : List Str := ["self"]
theorem sc_Table_layout : FnScope n_Table_layout ["self"] (defScope s_Table_layout) := ⟨rfl, rfl, rfl, by decide +kernel, rfl, by decide +kernel, by decide +kernel⟩
abbrev s_Table___len__ : Stmt := inClass (topS 26) 7
abbrev n_Table___len__ : List Str := ["self"]
theorem sc_Table___len__ : FnScope n_Table___len__ ["self"] (defScope s_Table___len__) := ⟨rfl, rfl, rfl, by decide +kernel, rfl, by decide +kernel, by decide +kernel⟩
abbrev s_Table_slots : Stmt := inClass (topS 26) 8
abbrev n_Table_slots : List Str := ["self"]
theorem sc_Table_slots : FnScope n_Table_slots ["self"] (defScope s_Table_slots) := ⟨rfl, rfl, rfl, by decide +kernel, rfl, by decide +kernel, by decide +kernel⟩
abbrev s_Table_distances : Stmt := inClass (topS 26) 9
abbrev n_Table_distances : List Str := ["self", "name"]
theorem sc_Table_distances : FnScope n_Table_distances ["self"] (defScope s_Table_distances) := ⟨rfl, rfl, rfl, by decide +kernel, rfl, by decide +kernel, by decide +kernel⟩
abbrev s_Table_grow : Stmt := inClass (topS 26) 10
abbrev n_Table_grow : List Str := ["self", "count"]
theorem sc_Table_grow : FnScope n_Table_grow ["self", "count"] (defScope s_Table_grow) := ⟨rfl, rfl, rfl, by decide +kernel, rfl, by decide +kernel, by decide +kernel⟩
abbrev s_Table_add_all : Stmt := inClass (topS 26) 11
abbrev n_Table_add_all : List Str := ["self", "other", "together", "name"]
theorem sc_Table_add_all : FnScope n_Table_add_all ["self", "other"] (defScope s_Table_add_all) := ⟨rfl, rfl, rfl, by decide +kernel, rfl, by decide +kernel, by decide +kernel⟩
abbrev s_Table_clone : Stmt := inClass (topS 26) 12
abbrev n_Table_clone : List Str := ["self", "twin"]
theorem sc_Table_clone : FnScope n_Table_clone ["self"] (defScope s_Table_clone) := ⟨rfl, rfl, rfl, by decide +kernel, rfl, by decide +kernel, by decide +kernel⟩
abbrev s_Table___eq__ : Stmt := inClass (topS 26) 13
abbrev n_Table___eq__ : List Str := ["self", "other"]
theorem sc_Table___eq__ : FnScope n_Table___eq__ ["self", "other"] (defScope s_Table___eq__) := ⟨rfl, rfl, rfl, by decide +kernel, rfl, by decide +kernel, by decide +kernel⟩
abbrev s_Table_order_of : Stmt := inClass (topS 26) 14
abbrev n_Table_order_of : List Str := ["self", "name", "home"]
theorem sc_Table_order_of : FnScope n_Table_order_of ["self", "name"] (defScope s_Table_order_of) := ⟨rfl, rfl, rfl, by decide +kernel, rfl, by decide +kernel, by decide +kernel⟩
abbrev s_Table_distance : Stmt := inClass (topS 26) 15
abbrev n_Table_distance : List Str := ["self", "name", "slot"]
theorem sc_Table_distance : FnScope n_Table_distance ["self", "name", "slot"] (defScope s_Table_distance) := ⟨rfl, rfl, rfl, by decide +kernel, rfl, by decide +kernel, by decide +kernel⟩
abbrev s_Table_beats : Stmt := inClass (topS 26) 16
abbrev n_Table_beats : List Str := ["self", "one", "other", "slot", "farther"]
theorem sc_Table_beats : FnScope n_Table_beats ["self", "one", "other", "slot"] (defScope s_Table_beats) := ⟨rfl, rfl, rfl, by decide +kernel, rfl, by decide +kernel, by decide +kernel⟩
abbrev s_Table_settle : Stmt := inClass (topS 26) 17
abbrev n_Table_settle : List Str := ["self", "name", "asking", "slot"]
theorem sc_Table_settle : FnScope n_Table_settle ["self", "name"] (defScope s_Table_settle) := ⟨rfl, rfl, rfl, by decide +kernel, rfl, by decide +kernel, by decide +kernel⟩
abbrev s_Table_settle_all : Stmt := inClass (topS 26) 18
abbrev n_Table_settle_all : List Str := ["self", "name"]
theorem sc_Table_settle_all : FnScope n_Table_settle_all ["self"] (defScope s_Table_settle_all) := ⟨rfl, rfl, rfl, by decide +kernel, rfl, by decide +kernel, by decide +kernel⟩
abbrev s__law_pot_of : Stmt := topS 28
abbrev n__law_pot_of : List Str := ["_law_script", "_law_k", "_law_cell", "_law_own"]
theorem sc__law_pot_of : FnScope n__law_pot_of ["_law_script", "_law_k"] (defScope s__law_pot_of) := ⟨rfl, rfl, rfl, by decide +kernel, rfl, by decide +kernel, by decide +kernel⟩
abbrev s__law_take : Stmt := topS 29
abbrev n__law_take : List Str := ["_law_pot", "_law_upto", "_law_digit", "_law_prime", "_law_mixed"]
theorem sc__law_take : FnScope n__law_take ["_law_pot", "_law_upto"] (defScope s__law_take) := ⟨rfl, rfl, rfl, by decide +kernel, rfl, by decide +kernel, by decide +kernel⟩
abbrev s__law_of : Stmt := topS 30
abbrev n__law_of : List Str := ["_law_pot", "_law_some"]
theorem sc__law_of : FnScope n__law_of ["_law_pot", "_law_some"] (defScope s__law_of) := ⟨rfl, rfl, rfl, by decide +kernel, rfl, by decide +kernel, by decide +kernel⟩
abbrev s__law_drawn_kind : Stmt := topS 36
abbrev n__law_drawn_kind : List Str := ["_law_pot"]
theorem sc__law_drawn_kind : FnScope n__law_drawn_kind ["_law_pot"] (defScope s__law_drawn_kind) := ⟨rfl, rfl, rfl, by decide +kernel, rfl, by decide +kernel, by decide +kernel⟩
abbrev s__law_drawn_name : Stmt := topS 38
abbrev n__law_drawn_name : List Str := ["_law_pot", "_law_turn"]
theorem sc__law_drawn_name : FnScope n__law_drawn_name ["_law_pot"] (defScope s__law_drawn_name) := ⟨rfl, rfl, rfl, by decide +kernel, rfl, by decide +kernel, by decide +kernel⟩
abbrev s__law_drawn_value : Stmt := topS 39
abbrev n__law_drawn_value : List Str := ["_law_pot", "_law_turn"]
theorem sc__law_drawn_value : FnScope n__law_drawn_value ["_law_pot"] (defScope s__law_drawn_value) := ⟨rfl, rfl, rfl, by decide +kernel, rfl, by decide +kernel, by decide +kernel⟩
abbrev s__law_shuffled : Stmt := topS 40
abbrev n__law_shuffled : List Str := ["_law_pot", "_law_some", "_law_left", "_law_found"]
theorem sc__law_shuffled : FnScope n__law_shuffled ["_law_pot", "_law_some"] (defScope s__law_shuffled) := ⟨rfl, rfl, rfl, by decide +kernel, rfl, by decide +kernel, by decide +kernel⟩
abbrev s__law_by_detours : Stmt := topS 41
abbrev n__law_by_detours : List Str := ["_law_pot", "_law_known", "_law_count", "_law_kind", "_law_table", "_law_detours", "_law_name", "_law_other"]
theorem sc__law_by_detours : FnScope n__law_by_detours ["_law_pot", "_law_known", "_law_count", "_law_kind"] (defScope s__law_by_detours) := ⟨rfl, rfl, rfl, by decide +kernel, rfl, by decide +kernel, by decide +kernel⟩
abbrev s__law_by_growing : Stmt := topS 42
abbrev n__law_by_growing : List Str := ["_law_pot", "_law_known", "_law_count", "_law_kind", "_law_sizes", "_law_table", "_law_some", "_law_name"]
theorem sc__law_by_growing : FnScope n__law_by_growing ["_law_pot", "_law_known", "_law_count", "_law_kind"] (defScope s__law_by_growing) := ⟨rfl, rfl, rfl, by decide +kernel, rfl, by decide +kernel, by decide +kernel⟩
abbrev s__law_by_joining : Stmt := topS 43
abbrev n__law_by_joining : List Str := ["_law_pot", "_law_known", "_law_count", "_law_kind", "_law_one", "_law_other", "_law_name", "_law_manner", "_law_third"]
theorem sc__law_by_joining : FnScope n__law_by_joining ["_law_pot", "_law_known", "_law_count", "_law_kind"] (defScope s__law_by_joining) := ⟨rfl, rfl, rfl, by decide +kernel, rfl, by decide +kernel, by decide +kernel⟩
abbrev s__law_are_alike : Stmt := topS 44
abbrev n__law_are_alike : List Str := ["_law_pot", "_law_tables", "_law_known", "_law_first", "_law_some", "_law_table", "_law_turn", "_law_name"]
theorem sc__law_are_alike : FnScope n__law_are_alike ["_law_pot", "_law_tables", "_law_known"] (defScope s__law_are_alike) := ⟨rfl, rfl, rfl, by decide +kernel, rfl, by decide +kernel, by decide +kernel⟩
abbrev s__law_right : Stmt := topS 45
abbrev n__law_right : List Str := ["_law_pot", "_law_kind", "_law_known", "_law_count", "_law_turn", "_law_name", "_law_tables", "_law_second"]
theorem sc__law_right : FnScope n__law_right ["_law_pot"] (defScope s__law_right) := ⟨rfl, rfl, rfl, by decide +kernel, rfl, by decide +kernel, by decide +kernel⟩
abbrev s_law : Stmt := topS 46
abbrev n_law : List Str := ["_law_script", "_law_k", "_law_pot"]
theorem sc_law : FnScope n_law ["_law_script"] (defScope s_law) := ⟨rfl, rfl, rfl, by decide +kernel, rfl, by decide +kernel, by decide +kernel⟩
abbrev KB_kb1_way_rule (K : Frag) (fd : FuncData) : Prop := ∃ gg, KBn K fd ["self", "count", "way", "rule"] 2 ["way", "rule"] gg (fun vs zs => perm [0, 1, 2, 3] (vs ++ zs ++ ([] : List Str).map V.str))
structure Defs (K : Frag) (mg : Str → Option Value) (base : Heap) (T : List (Addr × Str)) (C : Addr) : Prop where
  mC : mg "Table" = some (.ref C)
  cls : Cls K C
  na_count : NoAttr K C "count"
  na_way : NoAttr K C "way"
  na_rule : NoAttr K C "rule"
  na_contents : NoAttr K C "contents"
  na_entries : NoAttr K C "entries"
  isC : IsC K C
  d_is_integer_within : ∃ f fd, Fun K "is_integer_within" "is_integer_within" s_is_integer_within f fd ∧ Binds K fd ["value", "low", "high"] [] ∧ mg "is_integer_within" = some (.ref f)
  d_linear : ∃ f fd, Fun K "linear" "linear" s_linear f fd ∧ Binds K fd ["count", "home"] [] ∧ mg "linear" = some (.ref f)
  d_triangular : ∃ f fd, Fun K "triangular" "triangular" s_triangular f fd ∧ Binds K fd ["count", "home"] [] ∧ mg "triangular" = some (.ref f)
  d_is_power_of_two : ∃ f fd, Fun K "is_power_of_two" "is_power_of_two" s_is_power_of_two f fd ∧ Binds K fd ["number"] [] ∧ mg "is_power_of_two" = some (.ref f)
  d_is_word : ∃ f fd, Fun K "is_word" "is_word" s_is_word f fd ∧ Binds K fd ["value", "least"] [] ∧ mg "is_word" = some (.ref f)
  d_require_name : ∃ f fd, Fun K "require_name" "require_name" s_require_name f fd ∧ Binds K fd ["value"] [] ∧ mg "require_name" = some (.ref f)
  d_require_count : ∃ f fd, Fun K "require_count" "require_count" s_require_count f fd ∧ Binds K fd ["value", "way"] [] ∧ mg "require_count" = some (.ref f)
  d_home_of : ∃ f fd, Fun K "home_of" "home_of" s_home_of f fd ∧ Binds K fd ["name", "count"] [] ∧ mg "home_of" = some (.ref f)
  d_Table___init__ : ∃ f fd, Fun K "__init__" "Table.__init__" s_Table___init__ f fd ∧ L2.Mk K C f ∧ KB_kb1_way_rule K fd
  d_Table_put : ∃ f fd, Fun K "put" "Table.put" s_Table_put f fd ∧ Binds K fd ["self", "name", "value"] [] ∧ Meth K C "put" f
  d_Table_value_of : ∃ f fd, Fun K "value_of" "Table.value_of" s_Table_value_of f fd ∧ Binds K fd ["self", "name"] [] ∧ Meth K C "value_of" f
  d_Table_take_out : ∃ f fd, Fun K "take_out" "Table.take_out" s_Table_take_out f fd ∧ Binds K fd ["self", "name"] [] ∧ Meth K C "take_out" f
  d_Table_look_up : ∃ f fd, Fun K "look_up" "Table.look_up" s_Table_look_up f fd ∧ Binds K fd ["self", "name"] [] ∧ Meth K C "look_up" f
  d_Table_names : ∃ f fd, Fun K "names" "Table.names" s_Table_names f fd ∧ Binds K fd ["self"] [] ∧ Meth K C "names" f
  d_Table_layout : ∃ f fd, Fun K "layout" "Table.layout" s_Table_layout f fd ∧ Binds K fd ["self"] [] ∧ Meth K C "layout" f
  d_Table___len__ : ∃ f fd, Fun K "__len__" "Table.__len__" s_Table___len__ f fd ∧ Binds K fd ["self"] [] ∧ Meth K C "__len__" f
  d_Table_slots : ∃ f fd, Fun K "slots" "Table.slots" s_Table_slots f fd ∧ Binds K fd ["self"] [] ∧ Meth K C "slots" f
  d_Table_distances : ∃ f fd, Fun K "distances" "Table.distances" s_Table_distances f fd ∧ Binds K fd ["self"] [] ∧ Meth K C "distances" f
  d_Table_grow : ∃ f fd, Fun K "grow" "Table.grow" s_Table_grow f fd ∧ Binds K fd ["self", "count"] [] ∧ Meth K C "grow" f
  d_Table_add_all : ∃ f fd, Fun K "add_all" "Table.add_all" s_Table_add_all f fd ∧ Binds K fd ["self", "other"] [] ∧ Meth K C "add_all" f
  d_Table_clone : ∃ f fd, Fun K "clone" "Table.clone" s_Table_clone f fd ∧ Binds K fd ["self"] [] ∧ Meth K C "clone" f
  d_Table___eq__ : ∃ f fd, Fun K "__eq__" "Table.__eq__" s_Table___eq__ f fd ∧ Binds K fd ["self", "other"] [] ∧ Meth K C "__eq__" f
  d_Table_order_of : ∃ f fd, Fun K "order_of" "Table.order_of" s_Table_order_of f fd ∧ Binds K fd ["self", "name"] [] ∧ Meth K C "order_of" f
  d_Table_distance : ∃ f fd, Fun K "distance" "Table.distance" s_Table_distance f fd ∧ Binds K fd ["self", "name", "slot"] [] ∧ Meth K C "distance" f
  d_Table_beats : ∃ f fd, Fun K "beats" "Table.beats" s_Table_beats f fd ∧ Binds K fd ["self", "one", "other", "slot"] [] ∧ Meth K C "beats" f
  d_Table_settle : ∃ f fd, Fun K "settle" "Table.settle" s_Table_settle f fd ∧ Binds K fd ["self", "name"] [] ∧ Meth K C "settle" f
  d_Table_settle_all : ∃ f fd, Fun K "settle_all" "Table.settle_all" s_Table_settle_all f fd ∧ Binds K fd ["self"] [] ∧ Meth K C "settle_all" f
  d__law_pot_of : ∃ f fd, Fun K "_law_pot_of" "_law_pot_of" s__law_pot_of f fd ∧ Binds K fd ["_law_script", "_law_k"] [] ∧ mg "_law_pot_of" = some (.ref f)
  d__law_take : ∃ f fd, Fun K "_law_take" "_law_take" s__law_take f fd ∧ Binds K fd ["_law_pot", "_law_upto"] [] ∧ mg "_law_take" = some (.ref f)
  d__law_of : ∃ f fd, Fun K "_law_of" "_law_of" s__law_of f fd ∧ Binds K fd ["_law_pot", "_law_some"] [] ∧ mg "_law_of" = some (.ref f)
  d__law_drawn_kind : ∃ f fd, Fun K "_law_drawn_kind" "_law_drawn_kind" s__law_drawn_kind f fd ∧ Binds K fd ["_law_pot"] [] ∧ mg "_law_drawn_kind" = some (.ref f)
  d__law_drawn_name : ∃ f fd, Fun K "_law_drawn_name" "_law_drawn_name" s__law_drawn_name f fd ∧ Binds K fd ["_law_pot"] [] ∧ mg "_law_drawn_name" = some (.ref f)
  d__law_drawn_value : ∃ f fd, Fun K "_law_drawn_value" "_law_drawn_value" s__law_drawn_value f fd ∧ Binds K fd ["_law_pot"] [] ∧ mg "_law_drawn_value" = some (.ref f)
  d__law_shuffled : ∃ f fd, Fun K "_law_shuffled" "_law_shuffled" s__law_shuffled f fd ∧ Binds K fd ["_law_pot", "_law_some"] [] ∧ mg "_law_shuffled" = some (.ref f)
  d__law_by_detours : ∃ f fd, Fun K "_law_by_detours" "_law_by_detours" s__law_by_detours f fd ∧ Binds K fd ["_law_pot", "_law_known", "_law_count", "_law_kind"] [] ∧ mg "_law_by_detours" = some (.ref f)
  d__law_by_growing : ∃ f fd, Fun K "_law_by_growing" "_law_by_growing" s__law_by_growing f fd ∧ Binds K fd ["_law_pot", "_law_known", "_law_count", "_law_kind"] [] ∧ mg "_law_by_growing" = some (.ref f)
  d__law_by_joining : ∃ f fd, Fun K "_law_by_joining" "_law_by_joining" s__law_by_joining f fd ∧ Binds K fd ["_law_pot", "_law_known", "_law_count", "_law_kind"] [] ∧ mg "_law_by_joining" = some (.ref f)
  d__law_are_alike : ∃ f fd, Fun K "_law_are_alike" "_law_are_alike" s__law_are_alike f fd ∧ Binds K fd ["_law_pot", "_law_tables", "_law_known"] [] ∧ mg "_law_are_alike" = some (.ref f)
  d__law_right : ∃ f fd, Fun K "_law_right" "_law_right" s__law_right f fd ∧ Binds K fd ["_law_pot"] [] ∧ mg "_law_right" = some (.ref f)
  d_law : ∃ f fd, Fun K "law" "law" s_law f fd ∧ Binds K fd ["_law_script"] [] ∧ mg "law" = some (.ref f)
  c_LETTERS : ∃ u, mg "LETTERS" = some u ∧ RelV (.str "abcdefghijklmnopqrstuvwxyz") u
  c_MOST_LETTERS : ∃ u, mg "MOST_LETTERS" = some u ∧ RelV (.int (8)) u
  c_MOST_SLOTS : ∃ u, mg "MOST_SLOTS" = some u ∧ RelV (.int (64)) u
  c_NO_NAME : ∃ u, mg "NO_NAME" = some u ∧ RelV (.str "") u
  c_NO_SLOT : ∃ u, mg "NO_SLOT" = some u ∧ RelV (.int (-1)) u
  z_abs : mg "abs" = none
  z_all : mg "all" = none
  z_bool : mg "bool" = none
  z_enumerate : mg "enumerate" = none
  z_int : mg "int" = none
  z_isinstance : mg "isinstance" = none
  z_len : mg "len" = none
  z_list : mg "list" = none
  z_max : mg "max" = none
  z_min : mg "min" = none
  z_range : mg "range" = none
  z_set : mg "set" = none
  z_sorted : mg "sorted" = none
  z_str : mg "str" = none
  z_tuple : mg "tuple" = none
section
variable {P : Program} {w : World} {K : Frag} {mg : Str → Option Value} {base : Heap} {T : List (Addr × Str)}
def Cal (P : Program) (w : World) (K : Frag) (mg : Str → Option Value) (base : Heap) (T : List (Addr × Str)) (x : Str) (st : Stmt) (k : Nat) (ps : List Str) (g : DRs) : Prop := ∃ f fd, Fun K x x st f fd ∧ Binds K fd ps [] ∧ mg x = some (.ref f) ∧ FnD P w K mg base T k f fd ps g
variable {C : Addr}
def CalM (P : Program) (w : World) (K : Frag) (mg : Str → Option Value) (base : Heap) (T : List (Addr × Str)) (C : Addr) (x qual : Str) (st : Stmt) (k : Nat) (ps : List Str) (g : DRs) : Prop := ∃ f fd, Fun K x qual st f fd ∧ Binds K fd ps [] ∧ Meth K C x f ∧ FnD P w K mg base T k f fd ps g
def CalI (P : Program) (w : World) (K : Frag) (mg : Str → Option Value) (base : Heap) (T : List (Addr × Str)) (C : Addr) (qual : Str) (st : Stmt) (k : Nat) (ps : List Str) (g : DRs) : Prop := ∃ f fd, Fun K "__init__" qual st f fd ∧ L2.Mk K C f ∧ KB_kb1_way_rule K fd ∧ FnD P w K mg base T k f fd ps g
theorem ok_is_integer_within (D : Defs K mg base T C) {g_ : DRs} (ar : ∀ ds st Q, g_ ds st Q → ds.length = 3) (sem : ∀ ds st Q, g_ ds st Q → F_is_integer_within { nx := fun _ st' => Rt st Q .non st', rt := Rt st Q } (startD 3 ds) st) : Cal P w K mg base T "is_integer_within" s_is_integer_within 1 ["value", "low", "high"] g_ := by
  obtain ⟨f, fd, F, b, m⟩ := D.d_is_integer_within
  exact ⟨f, fd, F, b, m, fnD_mk (k := 0) F sc_is_integer_within ar (fun cdv A outer s H E gd hr => (ds_one (ds_ret (de_and (de_isi (u := "int") (by decide +kernel) (by rfl) D.z_isinstance (by rfl) D.z_int (by decide +kernel) (de_var (pv 0))) (de_and (de_not (de_isi (u := "bool") (by decide +kernel) (by rfl) D.z_isinstance (by rfl) D.z_bool (by decide +kernel) (de_var (pv 0)))) (de_one (de_chain op_le op_le (opD_I0 fun _ _ _ _ => .bl _) (opD_I0 fun _ _ _ _ => .bl _) (de_var (pv 1)) (de_var (pv 0)) (de_var (pv 2))))))))) sem⟩
theorem ok_linear (D : Defs K mg base T C) {g_ : DRs} (ar : ∀ ds st Q, g_ ds st Q → ds.length = 2) (sem : ∀ ds st Q, g_ ds st Q → F_linear { nx := fun _ st' => Rt st Q .non st', rt := Rt st Q } (startD 3 ds) st) : Cal P w K mg base T "linear" s_linear 1 ["count", "home"] g_ := by
  obtain ⟨f, fd, F, b, m⟩ := D.d_linear
  exact ⟨f, fd, F, b, m, fnD_mk (k := 0) F sc_linear ar (fun cdv A outer s H E gd hr => (ds_one (ds_ret (de_callTy call_tup2 callD_tup (by rfl) D.z_tuple (by decide +kernel) (da_cons (de_lcG (own := [("at", 2)]) finT_ok rfl sc_linear.nd (di_range1 (by rfl) D.z_range (da_cons (de_var (pv 0)) da_nil)) (blkOk_by (own := [("at", 2)]) (N := n_linear) (sc := defScope s_linear) (by decide +kernel)) (fun _ _ _ _ _ => (dg_name (i := 2) sc_linear.nd rfl (.inl rfl) (by decide))) (fun _ _ _ _ _ => dts_nil) (fun _ _ _ _ _ => (de_mod (de_add (de_var (pv 1)) (de_var (pv 2))) (de_var (pv 0))))) da_nil))))) sem⟩
theorem ok_triangular (D : Defs K mg base T C) {g_is_power_of_two : DRs} (C_is_power_of_two : Cal P w K mg base T "is_power_of_two" s_is_power_of_two 1 ["number"] g_is_power_of_two) {g_ : DRs} (ar : ∀ ds st Q, g_ ds st Q → ds.length = 2) (sem : ∀ ds st Q, g_ ds st Q → F_triangular g_is_power_of_two { nx := fun _ st' => Rt st Q .non st', rt := Rt st Q } (startD 3 ds) st) : Cal P w K mg base T "triangular" s_triangular 2 ["count", "home"] g_ := by
  obtain ⟨f, fd, F, b, m⟩ := D.d_triangular
  obtain ⟨f_is_power_of_two, fd_is_power_of_two, F_is_power_of_two_, b_is_power_of_two, g_is_power_of_two_at, G_is_power_of_two⟩ := C_is_power_of_two
  exact ⟨f, fd, F, b, m, fnD_mk (k := 1) F sc_triangular ar (fun cdv A outer s H E gd hr => (ds_cons (ds_if (dt_not (dt_val (de_call G_is_power_of_two gd (hr.mono (by omega)) (by rfl) g_is_power_of_two_at F_is_power_of_two_.kp b_is_power_of_two (da_cons (de_var (pv 0)) da_nil)))) (ds_one ds_never) ds_nil) (ds_one (ds_ret (de_callTy call_tup2 callD_tup (by rfl) D.z_tuple (by decide +kernel) (da_cons (de_lcG (own := [("at", 2)]) finT_ok rfl sc_triangular.nd (di_range1 (by rfl) D.z_range (da_cons (de_var (pv 0)) da_nil)) (blkOk_by (own := [("at", 2)]) (N := n_triangular) (sc := defScope s_triangular) (by decide +kernel)) (fun _ _ _ _ _ => (dg_name (i := 2) sc_triangular.nd rfl (.inl rfl) (by decide))) (fun _ _ _ _ _ => dts_nil) (fun _ _ _ _ _ => (de_mod (de_add (de_var (pv 1)) (de_div (de_mul (de_var (pv 2)) (de_add (de_var (pv 2)) (de_int))) (de_int))) (de_var (pv 0))))) da_nil)))))) sem⟩
theorem ok_is_power_of_two (D : Defs K mg base T C) {g_ : DRs} (ar : ∀ ds st Q, g_ ds st Q → ds.length = 1) (sem : ∀ ds st Q, g_ ds st Q → F_is_power_of_two { nx := fun _ st' => Rt st Q .non st', rt := Rt st Q } (startD 1 ds) st) : Cal P w K mg base T "is_power_of_two" s_is_power_of_two 1 ["number"] g_ := by
  obtain ⟨f, fd, F, b, m⟩ := D.d_is_power_of_two
  exact ⟨f, fd, F, b, m, fnD_mk (k := 0) F sc_is_power_of_two ar (fun cdv A outer s H E gd hr => (ds_one (ds_ret (de_and (de_cmp op_gt (opD_I0 fun _ _ _ _ => .bl _) (de_var (pv 0)) (de_int) (nomark _)) (de_one (de_cmp (op_eq2 hr.units) opD_eq (de_band (de_var (pv 0)) (de_sub (de_var (pv 0)) (de_int))) (de_int) (nomark _))))))) sem⟩
theorem ok_is_word (D : Defs K mg base T C) {g_ : DRs} (ar : ∀ ds st Q, g_ ds st Q → ds.length = 2) (sem : ∀ ds st Q, g_ ds st Q → F_is_word { nx := fun _ st' => Rt st Q .non st', rt := Rt st Q } (startD 3 ds) st) : Cal P w K mg base T "is_word" s_is_word 1 ["value", "least"] g_ := by
  obtain ⟨f, fd, F, b, m⟩ := D.d_is_word
  obtain ⟨u_LETTERS, h_c_LETTERS, r_LETTERS⟩ := D.c_LETTERS
  obtain ⟨u_MOST_LETTERS, h_c_MOST_LETTERS, r_MOST_LETTERS⟩ := D.c_MOST_LETTERS
  exact ⟨f, fd, F, b, m, fnD_mk (k := 0) F sc_is_word ar (fun cdv A outer s H E gd hr => (ds_cons (ds_if (PW.pt (dw_or (dt_not (dt_val (de_isi (u := "str") (by decide +kernel) (by rfl) D.z_isinstance (by rfl) D.z_str (by decide +kernel) (de_var (pv 0))))) (dw_or1 (dt_not (dt_chain op_le op_le (opD_I0 fun _ _ _ _ => .bl _) (opD_I0 fun _ _ _ _ => .bl _) (de_var (pv 1)) (de_callB call_lenA callD_lenA (by rfl) D.z_len PySem.boot_len (da_cons (de_var (pv 0)) da_nil)) (de_globI (by rfl) h_c_MOST_LETTERS r_MOST_LETTERS)))))) (ds_one (ds_ret (de_bl))) ds_nil) (ds_one (ds_ret (de_callB (cr_all rfl) (callD_all _) (by rfl) D.z_all (by decide +kernel) (da_cons (de_lcG (own := [("letter", 2)]) finT_ok rfl sc_is_word.nd (di_str (de_var (pv 0))) (blkOk_by (own := [("letter", 2)]) (N := n_is_word) (sc := defScope s_is_word) (by decide +kernel)) (fun _ _ _ _ _ => (dg_name (i := 2) sc_is_word.nd rfl (.inl rfl) (by decide))) (fun _ _ _ _ _ => dts_nil) (fun _ _ _ _ _ => (de_cmp op_in_str opD_inS (de_var (pv 2)) (de_globS (by rfl) h_c_LETTERS r_LETTERS) (by rfl)))) da_nil)))))) sem⟩
theorem ok_require_name (D : Defs K mg base T C) {g_is_word : DRs} (C_is_word : Cal P w K mg base T "is_word" s_is_word 1 ["value", "least"] g_is_word) {g_ : DRs} (ar : ∀ ds st Q, g_ ds st Q → ds.length = 1) (sem : ∀ ds st Q, g_ ds st Q → F_require_name g_is_word { nx := fun _ st' => Rt st Q .non st', rt := Rt st Q } (startD 1 ds) st) : Cal P w K mg base T "require_name" s_require_name 2 ["value"] g_ := by
  obtain ⟨f, fd, F, b, m⟩ := D.d_require_name
  obtain ⟨f_is_word, fd_is_word, F_is_word_, b_is_word, g_is_word_at, G_is_word⟩ := C_is_word
  exact ⟨f, fd, F, b, m, fnD_mk (k := 1) F sc_require_name ar (fun cdv A outer s H E gd hr => (ds_one (ds_if (dt_not (dt_val (de_call G_is_word gd (hr.mono (by omega)) (by rfl) g_is_word_at F_is_word_.kp b_is_word (da_cons (de_var (pv 0)) (da_cons (de_int) da_nil))))) (ds_one ds_never) ds_nil))) sem⟩
theorem ok_require_count (D : Defs K mg base T C) {g_is_integer_within : DRs} (C_is_integer_within : Cal P w K mg base T "is_integer_within" s_is_integer_within 1 ["value", "low", "high"] g_is_integer_within) {g_is_power_of_two : DRs} (C_is_power_of_two : Cal P w K mg base T "is_power_of_two" s_is_power_of_two 1 ["number"] g_is_power_of_two) {g_ : DRs} (ar : ∀ ds st Q, g_ ds st Q → ds.length = 2) (sem : ∀ ds st Q, g_ ds st Q → F_require_count g_is_integer_within g_is_power_of_two { nx := fun _ st' => Rt st Q .non st', rt := Rt st Q } (startD 2 ds) st) : Cal P w K mg base T "require_count" s_require_count 2 ["value", "way"] g_ := by
  obtain ⟨f, fd, F, b, m⟩ := D.d_require_count
  obtain ⟨f_is_integer_within, fd_is_integer_within, F_is_integer_within_, b_is_integer_within, g_is_integer_within_at, G_is_integer_within⟩ := C_is_integer_within
  obtain ⟨f_is_power_of_two, fd_is_power_of_two, F_is_power_of_two_, b_is_power_of_two, g_is_power_of_two_at, G_is_power_of_two⟩ := C_is_power_of_two
  obtain ⟨u_MOST_SLOTS, h_c_MOST_SLOTS, r_MOST_SLOTS⟩ := D.c_MOST_SLOTS
  exact ⟨f, fd, F, b, m, fnD_mk (k := 1) F sc_require_count ar (fun cdv A outer s H E gd hr => (ds_one (ds_if (PW.pt (dw_or (dt_not (dt_val (de_call G_is_integer_within gd (hr.mono (by omega)) (by rfl) g_is_integer_within_at F_is_integer_within_.kp b_is_integer_within (da_cons (de_var (pv 0)) (da_cons (de_int) (da_cons (de_globI (by rfl) h_c_MOST_SLOTS r_MOST_SLOTS) da_nil)))))) (dw_or1 (PW.pt (dw_and (dt_cmpR (op_eq2 hr.units) opD_eq (de_var (pv 1)) (de_str) (nomark _)) (dw_and1 (dt_not (dt_val (de_call G_is_power_of_two gd (hr.mono (by omega)) (by rfl) g_is_power_of_two_at F_is_power_of_two_.kp b_is_power_of_two (da_cons (de_var (pv 0)) da_nil)))))))))) (ds_one ds_never) ds_nil))) sem⟩
theorem ok_home_of (D : Defs K mg base T C) {g_ : DRs} (ar : ∀ ds st Q, g_ ds st Q → ds.length = 2) (sem : ∀ ds st Q, g_ ds st Q → F_home_of { nx := fun _ st' => Rt st Q .non st', rt := Rt st Q } (startD 4 ds) st) : Cal P w K mg base T "home_of" s_home_of 1 ["name", "count"] g_ := by
  obtain ⟨f, fd, F, b, m⟩ := D.d_home_of
  obtain ⟨u_LETTERS, h_c_LETTERS, r_LETTERS⟩ := D.c_LETTERS
  exact ⟨f, fd, F, b, m, fnD_mk (k := 0) F sc_home_of ar (fun cdv A outer s H E gd hr => (ds_cons (ds_set (i := 2) sc_home_of.nd rfl (.inl rfl) (de_int)) (ds_cons (ds_for (vs := [3]) PassesOwn.never rfl (di_str (de_var (pv 0))) (dg_name (i := 3) sc_home_of.nd rfl (.inl rfl) (by decide)) (ds_one (ds_set (i := 2) sc_home_of.nd rfl (.inl rfl) (de_add (de_add (de_mul (de_var (pv 2)) (de_int)) (de_sidx (de_globS (by rfl) h_c_LETTERS r_LETTERS) (de_var (pv 3)))) (de_int))))) (ds_one (ds_ret (de_mod (de_var (pv 2)) (de_var (pv 1)))))))) sem⟩
theorem ok_Table___init__ (D : Defs K mg base T C) {g_require_count : DRs} (C_require_count : Cal P w K mg base T "require_count" s_require_count 2 ["value", "way"] g_require_count) {g_ : DRs} (ar : ∀ ds st Q, g_ ds st Q → ds.length = 4) (sem : ∀ ds st Q, g_ ds st Q → F_Table___init__ C g_require_count { nx := fun _ st' => Rt st Q .non st', rt := Rt st Q } (startD 4 ds) st) : CalI P w K mg base T C "Table.__init__" s_Table___init__ 3 ["self", "count", "way", "rule"] g_ := by
  obtain ⟨f, fd, F, m, kk_kb1_way_rule⟩ := D.d_Table___init__
  obtain ⟨f_require_count, fd_require_count, F_require_count_, b_require_count, g_require_count_at, G_require_count⟩ := C_require_count
  obtain ⟨u_NO_NAME, h_c_NO_NAME, r_NO_NAME⟩ := D.c_NO_NAME
  exact ⟨f, fd, F, m, kk_kb1_way_rule, fnD_mk (k := 2) F sc_Table___init__ ar (fun cdv A outer s H E gd hr => (ds_cons (ds_if (dt_cmpR op_notIn_seq (opD_in true) (de_var (pv 2)) (de_tup (da_cons (de_str) (da_cons (de_str) da_nil))) (by rfl)) (ds_one ds_never) ds_nil) (ds_cons (ds_if (dt_cmpR op_notIn_seq (opD_in true) (de_var (pv 3)) (de_tup (da_cons (de_str) (da_cons (de_str) da_nil))) (by rfl)) (ds_one ds_never) ds_nil) (ds_cons (ds_expr (de_call G_require_count gd (hr.mono (by omega)) (by rfl) g_require_count_at F_require_count_.kp b_require_count (da_cons (de_var (pv 1)) (da_cons (de_var (pv 2)) da_nil)))) (ds_cons (ds_fld D.cls D.na_count (de_var (pv 0)) (de_var (pv 1))) (ds_cons (ds_fld D.cls D.na_way (de_var (pv 0)) (de_var (pv 2))) (ds_cons (ds_fld D.cls D.na_rule (de_var (pv 0)) (de_var (pv 3))) (ds_cons (ds_fld D.cls D.na_contents (de_var (pv 0)) (de_newK)) (ds_one (ds_fld D.cls D.na_entries (de_var (pv 0)) (de_mulN (de_lst (da_cons (de_globS (by rfl) h_c_NO_NAME r_NO_NAME) da_nil)) (de_var (pv 1))))))))))))) sem⟩
theorem ok_Table_put (D : Defs K mg base T C) {g_is_word : DRs} (C_is_word : Cal P w K mg base T "is_word" s_is_word 1 ["value", "least"] g_is_word) {g_require_name : DRs} (C_require_name : Cal P w K mg base T "require_name" s_require_name 2 ["value"] g_require_name) {g_Table_settle : DRs} (C_Table_settle : CalM P w K mg base T C "settle" "Table.settle" s_Table_settle 6 ["self", "name"] g_Table_settle) {g_ : DRs} (ar : ∀ ds st Q, g_ ds st Q → ds.length = 3) (sem : ∀ ds st Q, g_ ds st Q → F_Table_put C g_is_word g_require_name g_Table_settle { nx := fun _ st' => Rt st Q .non st', rt := Rt st Q } (startD 3 ds) st) : CalM P w K mg base T C "put" "Table.put" s_Table_put 7 ["self", "name", "value"] g_ := by
  obtain ⟨f, fd, F, b, m⟩ := D.d_Table_put
  obtain ⟨f_is_word, fd_is_word, F_is_word_, b_is_word, g_is_word_at, G_is_word⟩ := C_is_word
  obtain ⟨f_require_name, fd_require_name, F_require_name_, b_require_name, g_require_name_at, G_require_name⟩ := C_require_name
  obtain ⟨f_Table_settle, fd_Table_settle, F_Table_settle_, b_Table_settle, M_Table_settle, G_Table_settle⟩ := C_Table_settle
  exact ⟨f, fd, F, b, m, fnD_mk (k := 6) F sc_Table_put ar (fun cdv A outer s H E gd hr => (ds_cons (ds_expr (de_call G_require_name gd (hr.mono (by omega)) (by rfl) g_require_name_at F_require_name_.kp b_require_name (da_cons (de_var (pv 1)) da_nil))) (ds_cons (ds_if (dt_not (dt_val (de_call G_is_word gd (hr.mono (by omega)) (by rfl) g_is_word_at F_is_word_.kp b_is_word (da_cons (de_var (pv 2)) (da_cons (de_int) da_nil))))) (ds_one ds_never) ds_nil) (ds_cons (ds_if (dt_ninK (Nat.lt_of_le_of_lt (Nat.add_le_add_left (by decide) _) hr.units) (de_var (pv 1)) (de_fld D.cls D.na_contents (de_var (pv 0)))) (ds_cons (ds_if (dt_cmpR (op_eq2 hr.units) opD_eq (de_callB call_lenD callD_lenK (by rfl) D.z_len PySem.boot_len (da_cons (de_fld D.cls D.na_contents (de_var (pv 0))) da_nil)) (de_fld D.cls D.na_count (de_var (pv 0))) (nomark _)) (ds_one ds_never) ds_nil) (ds_one (ds_expr (de_meth D.cls M_Table_settle G_Table_settle gd (hr.mono (by omega)) b_Table_settle (de_var (pv 0)) (da_cons (de_var (pv 1)) da_nil))))) ds_nil) (ds_one (ds_putK (Nat.lt_of_le_of_lt (Nat.add_le_add_left (by decide) _) hr.units) (de_fld D.cls D.na_contents (de_var (pv 0))) (de_var (pv 1)) (de_var (pv 2)))))))) sem⟩
theorem ok_Table_value_of (D : Defs K mg base T C) {g_require_name : DRs} (C_require_name : Cal P w K mg base T "require_name" s_require_name 2 ["value"] g_require_name) {g_ : DRs} (ar : ∀ ds st Q, g_ ds st Q → ds.length = 2) (sem : ∀ ds st Q, g_ ds st Q → F_Table_value_of C g_require_name { nx := fun _ st' => Rt st Q .non st', rt := Rt st Q } (startD 2 ds) st) : CalM P w K mg base T C "value_of" "Table.value_of" s_Table_value_of 3 ["self", "name"] g_ := by
  obtain ⟨f, fd, F, b, m⟩ := D.d_Table_value_of
  obtain ⟨f_require_name, fd_require_name, F_require_name_, b_require_name, g_require_name_at, G_require_name⟩ := C_require_name
  exact ⟨f, fd, F, b, m, fnD_mk (k := 2) F sc_Table_value_of ar (fun cdv A outer s H E gd hr => (ds_cons (ds_expr (de_call G_require_name gd (hr.mono (by omega)) (by rfl) g_require_name_at F_require_name_.kp b_require_name (da_cons (de_var (pv 1)) da_nil))) (ds_cons (ds_if (dt_ninK (Nat.lt_of_le_of_lt (Nat.add_le_add_left (by decide) _) hr.units) (de_var (pv 1)) (de_fld D.cls D.na_contents (de_var (pv 0)))) (ds_one ds_never) ds_nil) (ds_one (ds_ret (de_getK (Nat.lt_of_le_of_lt (Nat.add_le_add_left (by decide) _) hr.units) (de_fld D.cls D.na_contents (de_var (pv 0))) (de_var (pv 1)) (fun _ _ => rfl))))))) sem⟩
theorem ok_Table_take_out (D : Defs K mg base T C) {g_Table_value_of : DRs} (C_Table_value_of : CalM P w K mg base T C "value_of" "Table.value_of" s_Table_value_of 3 ["self", "name"] g_Table_value_of) {g_Table_settle_all : DRs} (C_Table_settle_all : CalM P w K mg base T C "settle_all" "Table.settle_all" s_Table_settle_all 7 ["self"] g_Table_settle_all) {g_ : DRs} (ar : ∀ ds st Q, g_ ds st Q → ds.length = 2) (sem : ∀ ds st Q, g_ ds st Q → F_Table_take_out C g_Table_value_of g_Table_settle_all { nx := fun _ st' => Rt st Q .non st', rt := Rt st Q } (startD 3 ds) st) : CalM P w K mg base T C "take_out" "Table.take_out" s_Table_take_out 8 ["self", "name"] g_ := by
  obtain ⟨f, fd, F, b, m⟩ := D.d_Table_take_out
  obtain ⟨f_Table_value_of, fd_Table_value_of, F_Table_value_of_, b_Table_value_of, M_Table_value_of, G_Table_value_of⟩ := C_Table_value_of
  obtain ⟨f_Table_settle_all, fd_Table_settle_all, F_Table_settle_all_, b_Table_settle_all, M_Table_settle_all, G_Table_settle_all⟩ := C_Table_settle_all
  exact ⟨f, fd, F, b, m, fnD_mk (k := 7) F sc_Table_take_out ar (fun cdv A outer s H E gd hr => (ds_cons (ds_set (i := 2) sc_Table_take_out.nd rfl (.inl rfl) (de_meth D.cls M_Table_value_of G_Table_value_of gd (hr.mono (by omega)) b_Table_value_of (de_var (pv 0)) (da_cons (de_var (pv 1)) da_nil))) (ds_cons (ds_expr (de_popK (de_fld D.cls D.na_contents (de_var (pv 0))) (de_var (pv 1)))) (ds_cons (ds_expr (de_meth0 D.cls M_Table_settle_all G_Table_settle_all gd (hr.mono (by omega)) b_Table_settle_all (de_var (pv 0)))) (ds_one (ds_ret (de_var (pv 2)))))))) sem⟩
theorem ok_Table_look_up (D : Defs K mg base T C) {g_require_name : DRs} (C_require_name : Cal P w K mg base T "require_name" s_require_name 2 ["value"] g_require_name) {g_Table_order_of : DRs} (C_Table_order_of : CalM P w K mg base T C "order_of" "Table.order_of" s_Table_order_of 3 ["self", "name"] g_Table_order_of) {g_Table_beats : DRs} (C_Table_beats : CalM P w K mg base T C "beats" "Table.beats" s_Table_beats 5 ["self", "one", "other", "slot"] g_Table_beats) {g_ : DRs} (ar : ∀ ds st Q, g_ ds st Q → ds.length = 2) (sem : ∀ ds st Q, g_ ds st Q → F_Table_look_up C g_require_name g_Table_order_of g_Table_beats { nx := fun _ st' => Rt st Q .non st', rt := Rt st Q } (startD 4 ds) st) : CalM P w K mg base T C "look_up" "Table.look_up" s_Table_look_up 6 ["self", "name"] g_ := by
  obtain ⟨f, fd, F, b, m⟩ := D.d_Table_look_up
  obtain ⟨f_require_name, fd_require_name, F_require_name_, b_require_name, g_require_name_at, G_require_name⟩ := C_require_name
  obtain ⟨f_Table_order_of, fd_Table_order_of, F_Table_order_of_, b_Table_order_of, M_Table_order_of, G_Table_order_of⟩ := C_Table_order_of
  obtain ⟨f_Table_beats, fd_Table_beats, F_Table_beats_, b_Table_beats, M_Table_beats, G_Table_beats⟩ := C_Table_beats
  obtain ⟨u_NO_NAME, h_c_NO_NAME, r_NO_NAME⟩ := D.c_NO_NAME
  obtain ⟨u_NO_SLOT, h_c_NO_SLOT, r_NO_SLOT⟩ := D.c_NO_SLOT
  exact ⟨f, fd, F, b, m, fnD_mk (k := 5) F sc_Table_look_up ar (fun cdv A outer s H E gd hr => (ds_cons (ds_expr (de_call G_require_name gd (hr.mono (by omega)) (by rfl) g_require_name_at F_require_name_.kp b_require_name (da_cons (de_var (pv 1)) da_nil))) (ds_cons (ds_for (vs := [2, 3]) PassesOwn.never rfl (di_enumK (k := 1) (by decide) (by rfl) D.z_enumerate (da_cons (de_meth D.cls M_Table_order_of G_Table_order_of gd (hr.mono (by omega)) b_Table_order_of (de_var (pv 0)) (da_cons (de_var (pv 1)) da_nil)) da_nil)) (dg_tup rfl (dgs_cons (dg_name (i := 2) sc_Table_look_up.nd rfl (.inl rfl) (by decide)) (dgs_cons (dg_name (i := 3) sc_Table_look_up.nd rfl (.inl rfl) (by decide)) dgs_nil))) (ds_cons (ds_if (dt_cmpR (op_eq2 hr.units) opD_eq (de_ix (de_fld D.cls D.na_entries (de_var (pv 0))) (de_var (pv 3)) (fun _ _ => rfl)) (de_var (pv 1)) (nomark _)) (ds_one (ds_ret (de_tup (da_cons (de_var (pv 3)) (da_cons (de_var (pv 2)) da_nil))))) ds_nil) (ds_one (ds_if (PW.pt (dw_or (dt_cmpR (op_eq2 hr.units) opD_eq (de_ix (de_fld D.cls D.na_entries (de_var (pv 0))) (de_var (pv 3)) (fun _ _ => rfl)) (de_globS (by rfl) h_c_NO_NAME r_NO_NAME) (nomark _)) (dw_or1 (dt_val (de_meth D.cls M_Table_beats G_Table_beats gd (hr.mono (by omega)) b_Table_beats (de_var (pv 0)) (da_cons (de_var (pv 1)) (da_cons (de_ix (de_fld D.cls D.na_entries (de_var (pv 0))) (de_var (pv 3)) (fun _ _ => rfl)) (da_cons (de_var (pv 3)) da_nil)))))))) (ds_one (ds_ret (de_tup (da_cons (de_globI (by rfl) h_c_NO_SLOT r_NO_SLOT) (da_cons (de_var (pv 2)) da_nil))))) ds_nil)))) (ds_one (ds_ret (de_tup (da_cons (de_globI (by rfl) h_c_NO_SLOT r_NO_SLOT) (da_cons (de_fld D.cls D.na_count (de_var (pv 0))) da_nil)))))))) sem⟩
theorem ok_Table_names (D : Defs K mg base T C) {g_ : DRs} (ar : ∀ ds st Q, g_ ds st Q → ds.length = 1) (sem : ∀ ds st Q, g_ ds st Q → F_Table_names C { nx := fun _ st' => Rt st Q .non st', rt := Rt st Q } (startD 1 ds) st) : CalM P w K mg base T C "names" "Table.names" s_Table_names 1 ["self"] g_ := by
  obtain ⟨f, fd, F, b, m⟩ := D.d_Table_names
  exact ⟨f, fd, F, b, m, fnD_mk (k := 0) F sc_Table_names ar (fun cdv A outer s H E gd hr => (ds_one (ds_ret (de_callTy call_tup2 callD_tup (by rfl) D.z_tuple (by decide +kernel) (da_cons (de_callB (cr_sortKS rfl) (callD_sortKS (.inl rfl)) (by rfl) D.z_sorted (by decide +kernel) (da_cons (de_fld D.cls D.na_contents (de_var (pv 0))) da_nil)) da_nil))))) sem⟩
theorem ok_Table_layout (D : Defs K mg base T C) {g_ : DRs} (ar : ∀ ds st Q, g_ ds st Q → ds.length = 1) (sem : ∀ ds st Q, g_ ds st Q → F_Table_layout C { nx := fun _ st' => Rt st Q .non st', rt := Rt st Q } (startD 1 ds) st) : CalM P w K mg base T C "layout" "Table.layout" s_Table_layout 1 ["self"] g_ := by
  obtain ⟨f, fd, F, b, m⟩ := D.d_Table_layout
  exact ⟨f, fd, F, b, m, fnD_mk (k := 0) F sc_Table_layout ar (fun cdv A outer s H E gd hr => (ds_one (ds_ret (de_callTy call_tup2 callD_tup (by rfl) D.z_tuple (by decide +kernel) (da_cons (de_fld D.cls D.na_entries (de_var (pv 0))) da_nil))))) sem⟩
theorem ok_Table___len__ (D : Defs K mg base T C) {g_ : DRs} (ar : ∀ ds st Q, g_ ds st Q → ds.length = 1) (sem : ∀ ds st Q, g_ ds st Q → F_Table___len__ C { nx := fun _ st' => Rt st Q .non st', rt := Rt st Q } (startD 1 ds) st) : CalM P w K mg base T C "__len__" "Table.__len__" s_Table___len__ 1 ["self"] g_ := by
  obtain ⟨f, fd, F, b, m⟩ := D.d_Table___len__
  exact ⟨f, fd, F, b, m, fnD_mk (k := 0) F sc_Table___len__ ar (fun cdv A outer s H E gd hr => (ds_one (ds_ret (de_callB call_lenD callD_lenK (by rfl) D.z_len PySem.boot_len (da_cons (de_fld D.cls D.na_contents (de_var (pv 0))) da_nil))))) sem⟩
theorem ok_Table_slots (D : Defs K mg base T C) {g_ : DRs} (ar : ∀ ds st Q, g_ ds st Q → ds.length = 1) (sem : ∀ ds st Q, g_ ds st Q → F_Table_slots C { nx := fun _ st' => Rt st Q .non st', rt := Rt st Q } (startD 1 ds) st) : CalM P w K mg base T C "slots" "Table.slots" s_Table_slots 1 ["self"] g_ := by
  obtain ⟨f, fd, F, b, m⟩ := D.d_Table_slots
  exact ⟨f, fd, F, b, m, fnD_mk (k := 0) F sc_Table_slots ar (fun cdv A outer s H E gd hr => (ds_one (ds_ret (de_fld D.cls D.na_count (de_var (pv 0)))))) sem⟩
theorem ok_Table_distances (D : Defs K mg base T C) {g_Table_names : DRs} (C_Table_names : CalM P w K mg base T C "names" "Table.names" s_Table_names 1 ["self"] g_Table_names) {g_Table_distance : DRs} (C_Table_distance : CalM P w K mg base T C "distance" "Table.distance" s_Table_distance 4 ["self", "name", "slot"] g_Table_distance) {g_ : DRs} (ar : ∀ ds st Q, g_ ds st Q → ds.length = 1) (sem : ∀ ds st Q, g_ ds st Q → F_Table_distances C g_Table_names g_Table_distance { nx := fun _ st' => Rt st Q .non st', rt := Rt st Q } (startD 2 ds) st) : CalM P w K mg base T C "distances" "Table.distances" s_Table_distances 5 ["self"] g_ := by
  obtain ⟨f, fd, F, b, m⟩ := D.d_Table_distances
  obtain ⟨f_Table_names, fd_Table_names, F_Table_names_, b_Table_names, M_Table_names, G_Table_names⟩ := C_Table_names
  obtain ⟨f_Table_distance, fd_Table_distance, F_Table_distance_, b_Table_distance, M_Table_distance, G_Table_distance⟩ := C_Table_distance
  exact ⟨f, fd, F, b, m, fnD_mk (k := 4) F sc_Table_distances ar (fun cdv A outer s H E gd hr => (ds_one (ds_ret (de_callTy call_tup2 callD_tup (by rfl) D.z_tuple (by decide +kernel) (da_cons (de_lcG (own := [("name", 1)]) finT_ok rfl sc_Table_distances.nd (di_seq (de_meth0 D.cls M_Table_names G_Table_names gd (hr.mono (by omega)) b_Table_names (de_var (pv 0)))) (blkOk_by (own := [("name", 1)]) (N := n_Table_distances) (sc := defScope s_Table_distances) (by decide +kernel)) (fun _ _ _ _ _ => (dg_name (i := 1) sc_Table_distances.nd rfl (.inl rfl) (by decide))) (fun _ _ _ _ _ => dts_nil) (fun _ _ _ _ _ => (de_tup (da_cons (de_var (pv 1)) (da_cons (de_meth D.cls M_Table_distance G_Table_distance gd (hr.mono (by omega)) b_Table_distance (de_var (pv 0)) (da_cons (de_var (pv 1)) (da_cons (de_bmL PySem.F.slot_list_index PySem.F.type_list_index mt_index mtD_indexS (de_fld D.cls D.na_entries (de_var (pv 0))) (da_cons (de_var (pv 1)) da_nil)) da_nil))) da_nil))))) da_nil))))) sem⟩
theorem ok_Table_grow (D : Defs K mg base T C) {g_require_count : DRs} (C_require_count : Cal P w K mg base T "require_count" s_require_count 2 ["value", "way"] g_require_count) {g_Table_settle_all : DRs} (C_Table_settle_all : CalM P w K mg base T C "settle_all" "Table.settle_all" s_Table_settle_all 7 ["self"] g_Table_settle_all) {g_ : DRs} (ar : ∀ ds st Q, g_ ds st Q → ds.length = 2) (sem : ∀ ds st Q, g_ ds st Q → F_Table_grow C g_require_count g_Table_settle_all { nx := fun _ st' => Rt st Q .non st', rt := Rt st Q } (startD 2 ds) st) : CalM P w K mg base T C "grow" "Table.grow" s_Table_grow 8 ["self", "count"] g_ := by
  obtain ⟨f, fd, F, b, m⟩ := D.d_Table_grow
  obtain ⟨f_require_count, fd_require_count, F_require_count_, b_require_count, g_require_count_at, G_require_count⟩ := C_require_count
  obtain ⟨f_Table_settle_all, fd_Table_settle_all, F_Table_settle_all_, b_Table_settle_all, M_Table_settle_all, G_Table_settle_all⟩ := C_Table_settle_all
  exact ⟨f, fd, F, b, m, fnD_mk (k := 7) F sc_Table_grow ar (fun cdv A outer s H E gd hr => (ds_cons (ds_expr (de_call G_require_count gd (hr.mono (by omega)) (by rfl) g_require_count_at F_require_count_.kp b_require_count (da_cons (de_var (pv 1)) (da_cons (de_fld D.cls D.na_way (de_var (pv 0))) da_nil)))) (ds_cons (ds_if (dt_cmpR op_gt (opD_I0 fun _ _ _ _ => .bl _) (de_callB call_lenD callD_lenK (by rfl) D.z_len PySem.boot_len (da_cons (de_fld D.cls D.na_contents (de_var (pv 0))) da_nil)) (de_var (pv 1)) (nomark _)) (ds_one ds_never) ds_nil) (ds_cons (ds_fld D.cls D.na_count (de_var (pv 0)) (de_var (pv 1))) (ds_one (ds_expr (de_meth0 D.cls M_Table_settle_all G_Table_settle_all gd (hr.mono (by omega)) b_Table_settle_all (de_var (pv 0))))))))) sem⟩
theorem ok_Table_add_all (D : Defs K mg base T C) {g_Table_put : DRs} (C_Table_put : CalM P w K mg base T C "put" "Table.put" s_Table_put 7 ["self", "name", "value"] g_Table_put) {g_Table_value_of : DRs} (C_Table_value_of : CalM P w K mg base T C "value_of" "Table.value_of" s_Table_value_of 3 ["self", "name"] g_Table_value_of) {g_Table_names : DRs} (C_Table_names : CalM P w K mg base T C "names" "Table.names" s_Table_names 1 ["self"] g_Table_names) {g_ : DRs} (ar : ∀ ds st Q, g_ ds st Q → ds.length = 2) (sem : ∀ ds st Q, g_ ds st Q → F_Table_add_all C g_Table_put g_Table_value_of g_Table_names { nx := fun _ st' => Rt st Q .non st', rt := Rt st Q } (startD 4 ds) st) : CalM P w K mg base T C "add_all" "Table.add_all" s_Table_add_all 8 ["self", "other"] g_ := by
  obtain ⟨f, fd, F, b, m⟩ := D.d_Table_add_all
  obtain ⟨f_Table_put, fd_Table_put, F_Table_put_, b_Table_put, M_Table_put, G_Table_put⟩ := C_Table_put
  obtain ⟨f_Table_value_of, fd_Table_value_of, F_Table_value_of_, b_Table_value_of, M_Table_value_of, G_Table_value_of⟩ := C_Table_value_of
  obtain ⟨f_Table_names, fd_Table_names, F_Table_names_, b_Table_names, M_Table_names, G_Table_names⟩ := C_Table_names
  exact ⟨f, fd, F, b, m, fnD_mk (k := 7) F sc_Table_add_all ar (fun cdv A outer s H E gd hr => (ds_cons (ds_set (i := 2) sc_Table_add_all.nd rfl (.inl rfl) (de_lenSetS (by rfl) D.z_len (by rfl) D.z_set (de_add (de_meth0 D.cls M_Table_names G_Table_names gd (hr.mono (by omega)) b_Table_names (de_var (pv 0))) (de_meth0 D.cls M_Table_names G_Table_names gd (hr.mono (by omega)) b_Table_names (de_var (pv 1)))))) (ds_cons (ds_if (dt_cmpR op_gt (opD_I0 fun _ _ _ _ => .bl _) (de_var (pv 2)) (de_fld D.cls D.na_count (de_var (pv 0))) (nomark _)) (ds_one ds_never) ds_nil) (ds_one (ds_for (vs := [3]) PassesOwn.never rfl (di_seq (de_meth0 D.cls M_Table_names G_Table_names gd (hr.mono (by omega)) b_Table_names (de_var (pv 1)))) (dg_name (i := 3) sc_Table_add_all.nd rfl (.inl rfl) (by decide)) (ds_one (ds_expr (de_meth D.cls M_Table_put G_Table_put gd (hr.mono (by omega)) b_Table_put (de_var (pv 0)) (da_cons (de_var (pv 3)) (da_cons (de_meth D.cls M_Table_value_of G_Table_value_of gd (hr.mono (by omega)) b_Table_value_of (de_var (pv 1)) (da_cons (de_var (pv 3)) da_nil)) da_nil)))))))))) sem⟩
theorem ok_Table_clone (D : Defs K mg base T C) {g_Table___init__ : DRs} (C_Table___init__ : CalI P w K mg base T C "Table.__init__" s_Table___init__ 3 ["self", "count", "way", "rule"] g_Table___init__) {g_Table_add_all : DRs} (C_Table_add_all : CalM P w K mg base T C "add_all" "Table.add_all" s_Table_add_all 8 ["self", "other"] g_Table_add_all) {g_ : DRs} (ar : ∀ ds st Q, g_ ds st Q → ds.length = 1) (sem : ∀ ds st Q, g_ ds st Q → F_Table_clone C g_Table___init__ g_Table_add_all { nx := fun _ st' => Rt st Q .non st', rt := Rt st Q } (startD 2 ds) st) : CalM P w K mg base T C "clone" "Table.clone" s_Table_clone 9 ["self"] g_ := by
  obtain ⟨f, fd, F, b, m⟩ := D.d_Table_clone
  obtain ⟨f_Table___init__, fd_Table___init__, F_Table___init___, MK, ⟨gg_kb1_way_rule, B_kb1_way_rule⟩, G_Table___init__⟩ := C_Table___init__
  obtain ⟨f_Table_add_all, fd_Table_add_all, F_Table_add_all_, b_Table_add_all, M_Table_add_all, G_Table_add_all⟩ := C_Table_add_all
  exact ⟨f, fd, F, b, m, fnD_mk (k := 8) F sc_Table_clone ar (fun cdv A outer s H E gd hr => (ds_cons (ds_set (i := 1) sc_Table_clone.nd rfl (.inl rfl) (de_mk MK G_Table___init__ gd (hr.mono (by omega)) (by rfl) D.mC B_kb1_way_rule (relG_ix [0, 1, 2, 3] []) (da_cons (de_fld D.cls D.na_count (de_var (pv 0))) da_nil) (dk_cons (de_fld D.cls D.na_way (de_var (pv 0))) (dk_cons (de_fld D.cls D.na_rule (de_var (pv 0))) dk_nil)))) (ds_cons (ds_expr (de_meth D.cls M_Table_add_all G_Table_add_all gd (hr.mono (by omega)) b_Table_add_all (de_var (pv 1)) (da_cons (de_var (pv 0)) da_nil))) (ds_one (ds_ret (de_var (pv 1))))))) sem⟩
theorem ok_Table___eq__ (D : Defs K mg base T C) {g_ : DRs} (ar : ∀ ds st Q, g_ ds st Q → ds.length = 2) (sem : ∀ ds st Q, g_ ds st Q → F_Table___eq__ C { nx := fun _ st' => Rt st Q .non st', rt := Rt st Q } (startD 2 ds) st) : CalM P w K mg base T C "__eq__" "Table.__eq__" s_Table___eq__ 1 ["self", "other"] g_ := by
  obtain ⟨f, fd, F, b, m⟩ := D.d_Table___eq__
  exact ⟨f, fd, F, b, m, fnD_mk (k := 0) F sc_Table___eq__ ar (fun cdv A outer s H E gd hr => (ds_one (ds_ret (de_and (de_isO D.isC (by rfl) D.z_isinstance (by rfl) D.mC (de_var (pv 1))) (de_and (de_cmp (op_eq2 hr.units) opD_eq (de_fld D.cls D.na_count (de_var (pv 0))) (de_fld D.cls D.na_count (de_var (pv 1))) (nomark _)) (de_and (de_cmp (op_eq2 hr.units) opD_eq (de_fld D.cls D.na_way (de_var (pv 0))) (de_fld D.cls D.na_way (de_var (pv 1))) (nomark _)) (de_and (de_cmp (op_eq2 hr.units) opD_eq (de_fld D.cls D.na_rule (de_var (pv 0))) (de_fld D.cls D.na_rule (de_var (pv 1))) (nomark _)) (de_one (de_cmp (op_eqT0 hr.units0) opD_eqT (de_fld D.cls D.na_contents (de_var (pv 0))) (de_fld D.cls D.na_contents (de_var (pv 1))) (nomark _)))))))))) sem⟩
theorem ok_Table_order_of (D : Defs K mg base T C) {g_linear : DRs} (C_linear : Cal P w K mg base T "linear" s_linear 1 ["count", "home"] g_linear) {g_triangular : DRs} (C_triangular : Cal P w K mg base T "triangular" s_triangular 2 ["count", "home"] g_triangular) {g_home_of : DRs} (C_home_of : Cal P w K mg base T "home_of" s_home_of 1 ["name", "count"] g_home_of) {g_ : DRs} (ar : ∀ ds st Q, g_ ds st Q → ds.length = 2) (sem : ∀ ds st Q, g_ ds st Q → F_Table_order_of C g_linear g_triangular g_home_of { nx := fun _ st' => Rt st Q .non st', rt := Rt st Q } (startD 3 ds) st) : CalM P w K mg base T C "order_of" "Table.order_of" s_Table_order_of 3 ["self", "name"] g_ := by
  obtain ⟨f, fd, F, b, m⟩ := D.d_Table_order_of
  obtain ⟨f_linear, fd_linear, F_linear_, b_linear, g_linear_at, G_linear⟩ := C_linear
  obtain ⟨f_triangular, fd_triangular, F_triangular_, b_triangular, g_triangular_at, G_triangular⟩ := C_triangular
  obtain ⟨f_home_of, fd_home_of, F_home_of_, b_home_of, g_home_of_at, G_home_of⟩ := C_home_of
  exact ⟨f, fd, F, b, m, fnD_mk (k := 2) F sc_Table_order_of ar (fun cdv A outer s H E gd hr => (ds_cons (ds_set (i := 2) sc_Table_order_of.nd rfl (.inl rfl) (de_call G_home_of gd (hr.mono (by omega)) (by rfl) g_home_of_at F_home_of_.kp b_home_of (da_cons (de_var (pv 1)) (da_cons (de_fld D.cls D.na_count (de_var (pv 0))) da_nil)))) (ds_cons (ds_if (dt_cmpR (op_eq2 hr.units) opD_eq (de_fld D.cls D.na_way (de_var (pv 0))) (de_str) (nomark _)) (ds_one (ds_ret (de_call G_triangular gd (hr.mono (by omega)) (by rfl) g_triangular_at F_triangular_.kp b_triangular (da_cons (de_fld D.cls D.na_count (de_var (pv 0))) (da_cons (de_var (pv 2)) da_nil))))) ds_nil) (ds_one (ds_ret (de_call G_linear gd (hr.mono (by omega)) (by rfl) g_linear_at F_linear_.kp b_linear (da_cons (de_fld D.cls D.na_count (de_var (pv 0))) (da_cons (de_var (pv 2)) da_nil)))))))) sem⟩
theorem ok_Table_distance (D : Defs K mg base T C) {g_Table_order_of : DRs} (C_Table_order_of : CalM P w K mg base T C "order_of" "Table.order_of" s_Table_order_of 3 ["self", "name"] g_Table_order_of) {g_ : DRs} (ar : ∀ ds st Q, g_ ds st Q → ds.length = 3) (sem : ∀ ds st Q, g_ ds st Q → F_Table_distance C g_Table_order_of { nx := fun _ st' => Rt st Q .non st', rt := Rt st Q } (startD 3 ds) st) : CalM P w K mg base T C "distance" "Table.distance" s_Table_distance 4 ["self", "name", "slot"] g_ := by
  obtain ⟨f, fd, F, b, m⟩ := D.d_Table_distance
  obtain ⟨f_Table_order_of, fd_Table_order_of, F_Table_order_of_, b_Table_order_of, M_Table_order_of, G_Table_order_of⟩ := C_Table_order_of
  exact ⟨f, fd, F, b, m, fnD_mk (k := 3) F sc_Table_distance ar (fun cdv A outer s H E gd hr => (ds_one (ds_ret (de_index (de_meth D.cls M_Table_order_of G_Table_order_of gd (hr.mono (by omega)) b_Table_order_of (de_var (pv 0)) (da_cons (de_var (pv 1)) da_nil)) (da_cons (de_var (pv 2)) da_nil))))) sem⟩
theorem ok_Table_beats (D : Defs K mg base T C) {g_Table_distance : DRs} (C_Table_distance : CalM P w K mg base T C "distance" "Table.distance" s_Table_distance 4 ["self", "name", "slot"] g_Table_distance) {g_ : DRs} (ar : ∀ ds st Q, g_ ds st Q → ds.length = 4) (sem : ∀ ds st Q, g_ ds st Q → F_Table_beats C g_Table_distance { nx := fun _ st' => Rt st Q .non st', rt := Rt st Q } (startD 5 ds) st) : CalM P w K mg base T C "beats" "Table.beats" s_Table_beats 5 ["self", "one", "other", "slot"] g_ := by
  obtain ⟨f, fd, F, b, m⟩ := D.d_Table_beats
  obtain ⟨f_Table_distance, fd_Table_distance, F_Table_distance_, b_Table_distance, M_Table_distance, G_Table_distance⟩ := C_Table_distance
  exact ⟨f, fd, F, b, m, fnD_mk (k := 4) F sc_Table_beats ar (fun cdv A outer s H E gd hr => (ds_cons (ds_if (dt_cmpR (op_eq2 hr.units) opD_eq (de_fld D.cls D.na_rule (de_var (pv 0))) (de_str) (nomark _)) (ds_cons (ds_set (i := 4) sc_Table_beats.nd rfl (.inl rfl) (de_sub (de_meth D.cls M_Table_distance G_Table_distance gd (hr.mono (by omega)) b_Table_distance (de_var (pv 0)) (da_cons (de_var (pv 1)) (da_cons (de_var (pv 3)) da_nil))) (de_meth D.cls M_Table_distance G_Table_distance gd (hr.mono (by omega)) b_Table_distance (de_var (pv 0)) (da_cons (de_var (pv 2)) (da_cons (de_var (pv 3)) da_nil))))) (ds_one (ds_if (dt_cmpR (op_ne2 hr.units) opD_ne (de_var (pv 4)) (de_int) (nomark _)) (ds_one (ds_ret (de_cmp op_gt (opD_I0 fun _ _ _ _ => .bl _) (de_var (pv 4)) (de_int) (nomark _)))) ds_nil))) ds_nil) (ds_one (ds_ret (de_cmp op_lt_str opD_ltS (de_var (pv 1)) (de_var (pv 2)) (nomark _)))))) sem⟩
theorem ok_Table_settle (D : Defs K mg base T C) {g_Table_order_of : DRs} (C_Table_order_of : CalM P w K mg base T C "order_of" "Table.order_of" s_Table_order_of 3 ["self", "name"] g_Table_order_of) {g_Table_distance : DRs} (C_Table_distance : CalM P w K mg base T C "distance" "Table.distance" s_Table_distance 4 ["self", "name", "slot"] g_Table_distance) {g_Table_beats : DRs} (C_Table_beats : CalM P w K mg base T C "beats" "Table.beats" s_Table_beats 5 ["self", "one", "other", "slot"] g_Table_beats) {g_ : DRs} (ar : ∀ ds st Q, g_ ds st Q → ds.length = 2) (sem : ∀ ds st Q, g_ ds st Q → F_Table_settle C g_Table_order_of g_Table_distance g_Table_beats { nx := fun _ st' => Rt st Q .non st', rt := Rt st Q } (startD 4 ds) st) : CalM P w K mg base T C "settle" "Table.settle" s_Table_settle 6 ["self", "name"] g_ := by
  obtain ⟨f, fd, F, b, m⟩ := D.d_Table_settle
  obtain ⟨f_Table_order_of, fd_Table_order_of, F_Table_order_of_, b_Table_order_of, M_Table_order_of, G_Table_order_of⟩ := C_Table_order_of
  obtain ⟨f_Table_distance, fd_Table_distance, F_Table_distance_, b_Table_distance, M_Table_distance, G_Table_distance⟩ := C_Table_distance
  obtain ⟨f_Table_beats, fd_Table_beats, F_Table_beats_, b_Table_beats, M_Table_beats, G_Table_beats⟩ := C_Table_beats
  obtain ⟨u_NO_NAME, h_c_NO_NAME, r_NO_NAME⟩ := D.c_NO_NAME
  exact ⟨f, fd, F, b, m, fnD_mk (k := 5) F sc_Table_settle ar (fun cdv A outer s H E gd hr => (ds_cons (ds_set (i := 2) sc_Table_settle.nd rfl (.inl rfl) (de_var (pv 1))) (ds_cons (ds_set (i := 3) sc_Table_settle.nd rfl (.inl rfl) (de_ix (de_meth D.cls M_Table_order_of G_Table_order_of gd (hr.mono (by omega)) b_Table_order_of (de_var (pv 0)) (da_cons (de_var (pv 2)) da_nil)) (de_int) (fun _ _ => rfl))) (ds_cons (ds_while PassesOwn.never (dt_cmpR (op_ne2 hr.units) opD_ne (de_ix (de_fld D.cls D.na_entries (de_var (pv 0))) (de_var (pv 3)) (fun _ _ => rfl)) (de_globS (by rfl) h_c_NO_NAME r_NO_NAME) (nomark _)) (ds_cons (ds_if (dt_val (de_meth D.cls M_Table_beats G_Table_beats gd (hr.mono (by omega)) b_Table_beats (de_var (pv 0)) (da_cons (de_var (pv 2)) (da_cons (de_ix (de_fld D.cls D.na_entries (de_var (pv 0))) (de_var (pv 3)) (fun _ _ => rfl)) (da_cons (de_var (pv 3)) da_nil))))) (ds_one (ds_asg (vs := [2]) (de_tup (da_cons (de_ix (de_fld D.cls D.na_entries (de_var (pv 0))) (de_var (pv 3)) (fun _ _ => rfl)) (da_cons (de_var (pv 2)) da_nil))) (dg_tup rfl (dgs_cons (dg_name (i := 2) sc_Table_settle.nd rfl (.inl rfl) (by decide)) (dgs_cons (dg_sub (de_fld D.cls D.na_entries (de_var (pv 0))) (de_var (pv 3))) dgs_nil))))) ds_nil) (ds_one (ds_set (i := 3) sc_Table_settle.nd rfl (.inl rfl) (de_ix (de_meth D.cls M_Table_order_of G_Table_order_of gd (hr.mono (by omega)) b_Table_order_of (de_var (pv 0)) (da_cons (de_var (pv 2)) da_nil)) (de_add (de_meth D.cls M_Table_distance G_Table_distance gd (hr.mono (by omega)) b_Table_distance (de_var (pv 0)) (da_cons (de_var (pv 2)) (da_cons (de_var (pv 3)) da_nil))) (de_int)) (fun _ _ => rfl)))))) (ds_one (ds_asg (vs := []) (de_var (pv 2)) (dg_sub (de_fld D.cls D.na_entries (de_var (pv 0))) (de_var (pv 3))))))))) sem⟩
theorem ok_Table_settle_all (D : Defs K mg base T C) {g_Table_names : DRs} (C_Table_names : CalM P w K mg base T C "names" "Table.names" s_Table_names 1 ["self"] g_Table_names) {g_Table_settle : DRs} (C_Table_settle : CalM P w K mg base T C "settle" "Table.settle" s_Table_settle 6 ["self", "name"] g_Table_settle) {g_ : DRs} (ar : ∀ ds st Q, g_ ds st Q → ds.length = 1) (sem : ∀ ds st Q, g_ ds st Q → F_Table_settle_all C g_Table_names g_Table_settle { nx := fun _ st' => Rt st Q .non st', rt := Rt st Q } (startD 2 ds) st) : CalM P w K mg base T C "settle_all" "Table.settle_all" s_Table_settle_all 7 ["self"] g_ := by
  obtain ⟨f, fd, F, b, m⟩ := D.d_Table_settle_all
  obtain ⟨f_Table_names, fd_Table_names, F_Table_names_, b_Table_names, M_Table_names, G_Table_names⟩ := C_Table_names
  obtain ⟨f_Table_settle, fd_Table_settle, F_Table_settle_, b_Table_settle, M_Table_settle, G_Table_settle⟩ := C_Table_settle
  obtain ⟨u_NO_NAME, h_c_NO_NAME, r_NO_NAME⟩ := D.c_NO_NAME
  exact ⟨f, fd, F, b, m, fnD_mk (k := 6) F sc_Table_settle_all ar (fun cdv A outer s H E gd hr => (ds_cons (ds_fld D.cls D.na_entries (de_var (pv 0)) (de_mulN (de_lst (da_cons (de_globS (by rfl) h_c_NO_NAME r_NO_NAME) da_nil)) (de_fld D.cls D.na_count (de_var (pv 0))))) (ds_one (ds_for (vs := [1]) PassesOwn.never rfl (di_seq (de_meth0 D.cls M_Table_names G_Table_names gd (hr.mono (by omega)) b_Table_names (de_var (pv 0)))) (dg_name (i := 1) sc_Table_settle_all.nd rfl (.inl rfl) (by decide)) (ds_one (ds_expr (de_meth D.cls M_Table_settle G_Table_settle gd (hr.mono (by omega)) b_Table_settle (de_var (pv 0)) (da_cons (de_var (pv 1)) da_nil)))))))) sem⟩
theorem ok__law_pot_of (D : Defs K mg base T C) {g_ : DRs} (ar : ∀ ds st Q, g_ ds st Q → ds.length = 2) (sem : ∀ ds st Q, g_ ds st Q → F__law_pot_of { nx := fun _ st' => Rt st Q .non st', rt := Rt st Q } (startD 4 ds) st) : Cal P w K mg base T "_law_pot_of" s__law_pot_of 1 ["_law_script", "_law_k"] g_ := by
  obtain ⟨f, fd, F, b, m⟩ := D.d__law_pot_of
  exact ⟨f, fd, F, b, m, fnD_mk (k := 0) F sc__law_pot_of ar (fun cdv A outer s H E gd hr => (ds_cons (ds_set (i := 2) sc__law_pot_of.nd rfl (.inl rfl) (de_if (dt_cmpR (op_ltG (Nat.lt_of_le_of_lt (Nat.le_add_right _ _) hr.units)) opD_ltG (de_var (pv 1)) (de_callB call_len_seq callD_len (by rfl) D.z_len PySem.boot_len (da_cons (de_var (pv 0)) da_nil)) (nomark _)) (de_ix (de_var (pv 0)) (de_var (pv 1)) (fun _ _ => rfl)) (de_add (de_mul (de_int) (de_var (pv 1))) (de_int)))) (ds_cons (ds_set (i := 3) sc__law_pot_of.nd rfl (.inl rfl) (de_mul (de_mod (de_callB call_abs callD_abs (by rfl) D.z_abs (by decide +kernel) (da_cons (de_var (pv 2)) da_nil)) (de_pow (de_pow (de_int) (de_int)) (de_int))) (de_callTy call_int1 callD_int (by rfl) D.z_int (by decide +kernel) (da_cons (de_cmp op_ge (opD_I0 fun _ _ _ _ => .bl _) (de_callB call_abs callD_abs (by rfl) D.z_abs (by decide +kernel) (da_cons (de_var (pv 2)) da_nil)) (de_pow (de_int) (de_int)) (nomark _)) da_nil)))) (ds_one (ds_ret (de_lstN (da_cons (de_var (pv 3)) (da_cons (de_mod (de_add (de_add (de_mul (de_mod (de_var (pv 2)) (de_int)) (de_int)) (de_mul (de_mul (de_int) (de_var (pv 1))) (de_var (pv 1)))) (de_int)) (de_int)) (da_cons (de_int) da_nil))))))))) sem⟩
theorem ok__law_take (D : Defs K mg base T C) {g_ : DRs} (ar : ∀ ds st Q, g_ ds st Q → ds.length = 2) (sem : ∀ ds st Q, g_ ds st Q → F__law_take_v3 { nx := fun _ st' => Rt st Q .non st', rt := Rt st Q } (startD 5 ds) st) : Cal P w K mg base T "_law_take" s__law_take 1 ["_law_pot", "_law_upto"] g_ := by
  obtain ⟨f, fd, F, b, m⟩ := D.d__law_take
  exact ⟨f, fd, F, b, m, fnD_mk (k := 0) F sc__law_take ar (fun cdv A outer s H E gd hr => (ds_cons (ds_if (dt_cmpR op_gt (opD_I0 fun _ _ _ _ => .bl _) (de_ix (de_var (pv 0)) (de_int) (fun _ _ => rfl)) (de_int) (nomark _)) (ds_cons (ds_set (i := 2) sc__law_take.nd rfl (.inl rfl) (de_mod (de_ix (de_var (pv 0)) (de_int) (fun _ _ => rfl)) (de_var (pv 1)))) (ds_cons (ds_asg (vs := []) (de_div (de_ix (de_var (pv 0)) (de_int) (fun _ _ => rfl)) (de_var (pv 1))) (dg_sub (de_var (pv 0)) (de_int))) (ds_one (ds_ret (de_var (pv 2)))))) ds_nil) (ds_cons (ds_asg (vs := []) (de_add (de_ix (de_var (pv 0)) (de_int) (fun _ _ => rfl)) (de_int)) (dg_sub (de_var (pv 0)) (de_int))) (ds_cons (ds_set (i := 3) sc__law_take.nd rfl (.inl rfl) (de_ix (de_lst (da_cons (de_int) (da_cons (de_int) (da_cons (de_int) (da_cons (de_int) (da_cons (de_int) da_nil)))))) (de_mod (de_ix (de_var (pv 0)) (de_int) (fun _ _ => rfl)) (de_int)) (fun _ _ => rfl))) (ds_cons (ds_set (i := 4) sc__law_take.nd rfl (.inl rfl) (de_mod (de_pow (de_add (de_add (de_ix (de_var (pv 0)) (de_int) (fun _ _ => rfl)) (de_mul (de_mul (de_int) (de_ix (de_var (pv 0)) (de_int) (fun _ _ => rfl))) (de_ix (de_var (pv 0)) (de_int) (fun _ _ => rfl)))) (de_int)) (de_int)) (de_var (pv 3)))) (ds_one (ds_ret (de_mod (de_div (de_mod (de_mul (de_var (pv 4)) (de_add (de_mod (de_var (pv 4)) (de_int)) (de_mul (de_int) (de_ix (de_var (pv 0)) (de_int) (fun _ _ => rfl))))) (de_int)) (de_int)) (de_var (pv 1)))))))))) sem⟩
theorem ok__law_of (D : Defs K mg base T C) {g__law_take : DRs} (C__law_take : Cal P w K mg base T "_law_take" s__law_take 1 ["_law_pot", "_law_upto"] g__law_take) {g_ : DRs} (ar : ∀ ds st Q, g_ ds st Q → ds.length = 2) (sem : ∀ ds st Q, g_ ds st Q → F__law_of_v2 g__law_take { nx := fun _ st' => Rt st Q .non st', rt := Rt st Q } (startD 2 ds) st) : Cal P w K mg base T "_law_of" s__law_of 2 ["_law_pot", "_law_some"] g_ := by
  obtain ⟨f, fd, F, b, m⟩ := D.d__law_of
  obtain ⟨f__law_take, fd__law_take, F__law_take_, b__law_take, g__law_take_at, G__law_take⟩ := C__law_take
  exact ⟨f, fd, F, b, m, fnD_mk (k := 1) F sc__law_of ar (fun cdv A outer s H E gd hr => (ds_one (ds_ret (de_ixA (de_var (pv 1)) (de_call G__law_take gd (hr.mono (by omega)) (by rfl) g__law_take_at F__law_take_.kp b__law_take (da_cons (de_var (pv 0)) (da_cons (de_callB call_lenA callD_lenA (by rfl) D.z_len PySem.boot_len (da_cons (de_var (pv 1)) da_nil)) da_nil))) (fun _ _ => rfl))))) sem⟩
theorem ok__law_drawn_kind (D : Defs K mg base T C) {g__law_of : DRs} (C__law_of : Cal P w K mg base T "_law_of" s__law_of 2 ["_law_pot", "_law_some"] g__law_of) {g_ : DRs} (ar : ∀ ds st Q, g_ ds st Q → ds.length = 1) (sem : ∀ ds st Q, g_ ds st Q → F__law_drawn_kind g__law_of { nx := fun _ st' => Rt st Q .non st', rt := Rt st Q } (startD 1 ds) st) : Cal P w K mg base T "_law_drawn_kind" s__law_drawn_kind 3 ["_law_pot"] g_ := by
  obtain ⟨f, fd, F, b, m⟩ := D.d__law_drawn_kind
  obtain ⟨f__law_of, fd__law_of, F__law_of_, b__law_of, g__law_of_at, G__law_of⟩ := C__law_of
  exact ⟨f, fd, F, b, m, fnD_mk (k := 2) F sc__law_drawn_kind ar (fun cdv A outer s H E gd hr => (ds_one (ds_ret (de_tup (da_cons (de_call G__law_of gd (hr.mono (by omega)) (by rfl) g__law_of_at F__law_of_.kp b__law_of (da_cons (de_var (pv 0)) (da_cons (de_lst (da_cons (de_str) (da_cons (de_str) da_nil))) da_nil))) (da_cons (de_call G__law_of gd (hr.mono (by omega)) (by rfl) g__law_of_at F__law_of_.kp b__law_of (da_cons (de_var (pv 0)) (da_cons (de_lst (da_cons (de_str) (da_cons (de_str) da_nil))) da_nil))) da_nil)))))) sem⟩
theorem ok__law_drawn_name (D : Defs K mg base T C) {g__law_of : DRs} (C__law_of : Cal P w K mg base T "_law_of" s__law_of 2 ["_law_pot", "_law_some"] g__law_of) {g_ : DRs} (ar : ∀ ds st Q, g_ ds st Q → ds.length = 1) (sem : ∀ ds st Q, g_ ds st Q → F__law_drawn_name_v3 g__law_of { nx := fun _ st' => Rt st Q .non st', rt := Rt st Q } (startD 2 ds) st) : Cal P w K mg base T "_law_drawn_name" s__law_drawn_name 3 ["_law_pot"] g_ := by
  obtain ⟨f, fd, F, b, m⟩ := D.d__law_drawn_name
  obtain ⟨f__law_of, fd__law_of, F__law_of_, b__law_of, g__law_of_at, G__law_of⟩ := C__law_of
  exact ⟨f, fd, F, b, m, fnD_mk (k := 2) F sc__law_drawn_name ar (fun cdv A outer s H E gd hr => (ds_one (ds_ret (de_join (de_str) (de_lcG (own := [("_law_turn", 1)]) finT_ok rfl sc__law_drawn_name.nd (di_range1 (by rfl) D.z_range (da_cons (de_call G__law_of gd (hr.mono (by omega)) (by rfl) g__law_of_at F__law_of_.kp b__law_of (da_cons (de_var (pv 0)) (da_cons (de_lst (da_cons (de_int) (da_cons (de_int) (da_cons (de_int) (da_cons (de_int) (da_cons (de_int) da_nil)))))) da_nil))) da_nil)) (blkOk_by (own := [("_law_turn", 1)]) (N := n__law_drawn_name) (sc := defScope s__law_drawn_name) (by decide +kernel)) (fun _ _ _ _ _ => (dg_name (i := 1) sc__law_drawn_name.nd rfl (.inl rfl) (by decide))) (fun _ _ _ _ _ => dts_nil) (fun _ _ _ _ _ => (de_call G__law_of gd (hr.mono (by omega)) (by rfl) g__law_of_at F__law_of_.kp b__law_of (da_cons (de_var (pv 0)) (da_cons (de_str) da_nil))))))))) sem⟩
theorem ok__law_drawn_value (D : Defs K mg base T C) {g__law_of : DRs} (C__law_of : Cal P w K mg base T "_law_of" s__law_of 2 ["_law_pot", "_law_some"] g__law_of) {g_ : DRs} (ar : ∀ ds st Q, g_ ds st Q → ds.length = 1) (sem : ∀ ds st Q, g_ ds st Q → F__law_drawn_value g__law_of { nx := fun _ st' => Rt st Q .non st', rt := Rt st Q } (startD 2 ds) st) : Cal P w K mg base T "_law_drawn_value" s__law_drawn_value 3 ["_law_pot"] g_ := by
  obtain ⟨f, fd, F, b, m⟩ := D.d__law_drawn_value
  obtain ⟨f__law_of, fd__law_of, F__law_of_, b__law_of, g__law_of_at, G__law_of⟩ := C__law_of
  exact ⟨f, fd, F, b, m, fnD_mk (k := 2) F sc__law_drawn_value ar (fun cdv A outer s H E gd hr => (ds_one (ds_ret (de_join (de_str) (de_lcG (own := [("_law_turn", 1)]) finT_ok rfl sc__law_drawn_value.nd (di_range1 (by rfl) D.z_range (da_cons (de_call G__law_of gd (hr.mono (by omega)) (by rfl) g__law_of_at F__law_of_.kp b__law_of (da_cons (de_var (pv 0)) (da_cons (de_lst (da_cons (de_int) (da_cons (de_int) (da_cons (de_int) (da_cons (de_int) da_nil))))) da_nil))) da_nil)) (blkOk_by (own := [("_law_turn", 1)]) (N := n__law_drawn_value) (sc := defScope s__law_drawn_value) (by decide +kernel)) (fun _ _ _ _ _ => (dg_name (i := 1) sc__law_drawn_value.nd rfl (.inl rfl) (by decide))) (fun _ _ _ _ _ => dts_nil) (fun _ _ _ _ _ => (de_call G__law_of gd (hr.mono (by omega)) (by rfl) g__law_of_at F__law_of_.kp b__law_of (da_cons (de_var (pv 0)) (da_cons (de_str) da_nil))))))))) sem⟩
theorem ok__law_shuffled (D : Defs K mg base T C) {g__law_take : DRs} (C__law_take : Cal P w K mg base T "_law_take" s__law_take 1 ["_law_pot", "_law_upto"] g__law_take) {g_ : DRs} (ar : ∀ ds st Q, g_ ds st Q → ds.length = 2) (sem : ∀ ds st Q, g_ ds st Q → F__law_shuffled_v3 g__law_take { nx := fun _ st' => Rt st Q .non st', rt := Rt st Q } (startD 4 ds) st) : Cal P w K mg base T "_law_shuffled" s__law_shuffled 2 ["_law_pot", "_law_some"] g_ := by
  obtain ⟨f, fd, F, b, m⟩ := D.d__law_shuffled
  obtain ⟨f__law_take, fd__law_take, F__law_take_, b__law_take, g__law_take_at, G__law_take⟩ := C__law_take
  exact ⟨f, fd, F, b, m, fnD_mk (k := 1) F sc__law_shuffled ar (fun cdv A outer s H E gd hr => (ds_cons (ds_par (i := 2) (j := 3) rfl sc__law_shuffled.nd rfl rfl (by decide) rfl rfl (da_cons (de_callTy call_list_of callD_listN (by rfl) D.z_list (by decide +kernel) (da_cons (de_var (pv 1)) da_nil)) (da_cons (de_lstN da_nil) da_nil)) (by rfl)) (ds_cons (ds_while PassesOwn.never (dt_cmpR (op_ne2 hr.units) opD_ne (de_var (pv 2)) (de_lst da_nil) (nomark _)) (ds_one (ds_expr (de_bmL PySem.F.slot_list_append PySem.F.type_list_append mt_append mtD_append (de_var (pv 3)) (da_cons (de_bmL PySem.F.slot_list_pop PySem.F.type_list_pop mt_popAt mtD_popAt (de_var (pv 2)) (da_cons (de_call G__law_take gd (hr.mono (by omega)) (by rfl) g__law_take_at F__law_take_.kp b__law_take (da_cons (de_var (pv 0)) (da_cons (de_callB call_len_seq callD_len (by rfl) D.z_len PySem.boot_len (da_cons (de_var (pv 2)) da_nil)) da_nil))) da_nil)) da_nil))))) (ds_one (ds_ret (de_var (pv 3))))))) sem⟩
theorem ok__law_by_detours (D : Defs K mg base T C) {g_Table___init__ : DRs} (C_Table___init__ : CalI P w K mg base T C "Table.__init__" s_Table___init__ 3 ["self", "count", "way", "rule"] g_Table___init__) {g_Table_put : DRs} (C_Table_put : CalM P w K mg base T C "put" "Table.put" s_Table_put 7 ["self", "name", "value"] g_Table_put) {g_Table_take_out : DRs} (C_Table_take_out : CalM P w K mg base T C "take_out" "Table.take_out" s_Table_take_out 8 ["self", "name"] g_Table_take_out) {g_Table___len__ : DRs} (C_Table___len__ : CalM P w K mg base T C "__len__" "Table.__len__" s_Table___len__ 1 ["self"] g_Table___len__) {g__law_drawn_name : DRs} (C__law_drawn_name : Cal P w K mg base T "_law_drawn_name" s__law_drawn_name 3 ["_law_pot"] g__law_drawn_name) {g__law_drawn_value : DRs} (C__law_drawn_value : Cal P w K mg base T "_law_drawn_value" s__law_drawn_value 3 ["_law_pot"] g__law_drawn_value) {g__law_shuffled : DRs} (C__law_shuffled : Cal P w K mg base T "_law_shuffled" s__law_shuffled 2 ["_law_pot", "_law_some"] g__law_shuffled) {g_ : DRs} (ar : ∀ ds st Q, g_ ds st Q → ds.length = 4) (sem : ∀ ds st Q, g_ ds st Q → F__law_by_detours C g_Table___init__ g_Table_put g_Table_take_out g_Table___len__ g__law_drawn_name g__law_drawn_value g__law_shuffled { nx := fun _ st' => Rt st Q .non st', rt := Rt st Q } (startD 8 ds) st) : Cal P w K mg base T "_law_by_detours" s__law_by_detours 9 ["_law_pot", "_law_known", "_law_count", "_law_kind"] g_ := by
  obtain ⟨f, fd, F, b, m⟩ := D.d__law_by_detours
  obtain ⟨f_Table___init__, fd_Table___init__, F_Table___init___, MK, ⟨gg_kb1_way_rule, B_kb1_way_rule⟩, G_Table___init__⟩ := C_Table___init__
  obtain ⟨f_Table_put, fd_Table_put, F_Table_put_, b_Table_put, M_Table_put, G_Table_put⟩ := C_Table_put
  obtain ⟨f_Table_take_out, fd_Table_take_out, F_Table_take_out_, b_Table_take_out, M_Table_take_out, G_Table_take_out⟩ := C_Table_take_out
  obtain ⟨f_Table___len__, fd_Table___len__, F_Table___len___, b_Table___len__, M_Table___len__, G_Table___len__⟩ := C_Table___len__
  obtain ⟨f__law_drawn_name, fd__law_drawn_name, F__law_drawn_name_, b__law_drawn_name, g__law_drawn_name_at, G__law_drawn_name⟩ := C__law_drawn_name
  obtain ⟨f__law_drawn_value, fd__law_drawn_value, F__law_drawn_value_, b__law_drawn_value, g__law_drawn_value_at, G__law_drawn_value⟩ := C__law_drawn_value
  obtain ⟨f__law_shuffled, fd__law_shuffled, F__law_shuffled_, b__law_shuffled, g__law_shuffled_at, G__law_shuffled⟩ := C__law_shuffled
  exact ⟨f, fd, F, b, m, fnD_mk (k := 8) F sc__law_by_detours ar (fun cdv A outer s H E gd hr => (ds_cons (ds_par (i := 4) (j := 5) rfl sc__law_by_detours.nd rfl rfl (by decide) rfl rfl (da_cons (de_mk MK G_Table___init__ gd (hr.mono (by omega)) (by rfl) D.mC B_kb1_way_rule (relG_ix [0, 1, 2, 3] []) (da_cons (de_var (pv 2)) da_nil) (dk_cons (de_ix (de_var (pv 3)) (de_int) (fun _ _ => rfl)) (dk_cons (de_ix (de_var (pv 3)) (de_int) (fun _ _ => rfl)) dk_nil))) (da_cons (de_lstN da_nil) da_nil)) (by rfl)) (ds_cons (ds_for (vs := [6]) PassesOwn.never rfl (di_seq (de_call G__law_shuffled gd (hr.mono (by omega)) (by rfl) g__law_shuffled_at F__law_shuffled_.kp b__law_shuffled (da_cons (de_var (pv 0)) (da_cons (de_callB (cr_sortKS rfl) (callD_sortKS (.inl rfl)) (by rfl) D.z_sorted (by decide +kernel) (da_cons (de_var (pv 1)) da_nil)) da_nil)))) (dg_name (i := 6) sc__law_by_detours.nd rfl (.inl rfl) (by decide)) (ds_cons (ds_set (i := 7) sc__law_by_detours.nd rfl (.inl rfl) (de_addS (de_str) (de_sliceT (de_call G__law_drawn_name gd (hr.mono (by omega)) (by rfl) g__law_drawn_name_at F__law_drawn_name_.kp b__law_drawn_name (da_cons (de_var (pv 0)) da_nil)) do_none (do_some (de_int))))) (ds_cons (ds_if (PW.pt (dw_and (dt_ninK (Nat.lt_of_le_of_lt (Nat.add_le_add_left (by decide) _) hr.units) (de_var (pv 7)) (de_var (pv 1))) (dw_and (dt_cmpR op_notIn_seq (opD_in true) (de_var (pv 7)) (de_var (pv 5)) (by rfl)) (dw_and1 (dt_cmpR (op_ltG (Nat.lt_of_le_of_lt (Nat.le_add_right _ _) hr.units)) opD_ltG (de_add (de_callB (call_lenO M_Table___len__ G_Table___len__.fn gd (hr.mono (by omega)) b_Table___len__) (callD_lenO G_Table___len__.ar) (by rfl) D.z_len PySem.boot_len (da_cons (de_var (pv 4)) da_nil)) (de_int)) (de_var (pv 2)) (nomark _)))))) (ds_cons (ds_expr (de_meth D.cls M_Table_put G_Table_put gd (hr.mono (by omega)) b_Table_put (de_var (pv 4)) (da_cons (de_var (pv 7)) (da_cons (de_str) da_nil)))) (ds_one (ds_expr (de_bmL PySem.F.slot_list_append PySem.F.type_list_append mt_append mtD_append (de_var (pv 5)) (da_cons (de_var (pv 7)) da_nil))))) ds_nil) (ds_cons (ds_if (dt_cmpR (op_eq2 hr.units) opD_eq (de_callB (call_lenO M_Table___len__ G_Table___len__.fn gd (hr.mono (by omega)) b_Table___len__) (callD_lenO G_Table___len__.ar) (by rfl) D.z_len PySem.boot_len (da_cons (de_var (pv 4)) da_nil)) (de_var (pv 2)) (nomark _)) (ds_one (ds_expr (de_meth D.cls M_Table_take_out G_Table_take_out gd (hr.mono (by omega)) b_Table_take_out (de_var (pv 4)) (da_cons (de_bmL PySem.F.slot_list_pop PySem.F.type_list_pop mt_popAt mtD_popAt (de_var (pv 5)) (da_cons (de_int) da_nil)) da_nil)))) ds_nil) (ds_cons (ds_expr (de_meth D.cls M_Table_put G_Table_put gd (hr.mono (by omega)) b_Table_put (de_var (pv 4)) (da_cons (de_var (pv 6)) (da_cons (de_call G__law_drawn_value gd (hr.mono (by omega)) (by rfl) g__law_drawn_value_at F__law_drawn_value_.kp b__law_drawn_value (da_cons (de_var (pv 0)) da_nil)) da_nil)))) (ds_one (ds_expr (de_meth D.cls M_Table_put G_Table_put gd (hr.mono (by omega)) b_Table_put (de_var (pv 4)) (da_cons (de_var (pv 6)) (da_cons (de_getK (Nat.lt_of_le_of_lt (Nat.add_le_add_left (by decide) _) hr.units) (de_var (pv 1)) (de_var (pv 6)) (fun _ _ => rfl)) da_nil)))))))))) (ds_cons (ds_for (vs := [6]) PassesOwn.never rfl (di_seq (de_var (pv 5))) (dg_name (i := 6) sc__law_by_detours.nd rfl (.inl rfl) (by decide)) (ds_one (ds_expr (de_meth D.cls M_Table_take_out G_Table_take_out gd (hr.mono (by omega)) b_Table_take_out (de_var (pv 4)) (da_cons (de_var (pv 6)) da_nil))))) (ds_one (ds_ret (de_var (pv 4)))))))) sem⟩
theorem ok__law_by_growing (D : Defs K mg base T C) {g_Table___init__ : DRs} (C_Table___init__ : CalI P w K mg base T C "Table.__init__" s_Table___init__ 3 ["self", "count", "way", "rule"] g_Table___init__) {g_Table_put : DRs} (C_Table_put : CalM P w K mg base T C "put" "Table.put" s_Table_put 7 ["self", "name", "value"] g_Table_put) {g_Table___len__ : DRs} (C_Table___len__ : CalM P w K mg base T C "__len__" "Table.__len__" s_Table___len__ 1 ["self"] g_Table___len__) {g_Table_slots : DRs} (C_Table_slots : CalM P w K mg base T C "slots" "Table.slots" s_Table_slots 1 ["self"] g_Table_slots) {g_Table_grow : DRs} (C_Table_grow : CalM P w K mg base T C "grow" "Table.grow" s_Table_grow 8 ["self", "count"] g_Table_grow) {g__law_of : DRs} (C__law_of : Cal P w K mg base T "_law_of" s__law_of 2 ["_law_pot", "_law_some"] g__law_of) {g__law_shuffled : DRs} (C__law_shuffled : Cal P w K mg base T "_law_shuffled" s__law_shuffled 2 ["_law_pot", "_law_some"] g__law_shuffled) {g_ : DRs} (ar : ∀ ds st Q, g_ ds st Q → ds.length = 4) (sem : ∀ ds st Q, g_ ds st Q → F__law_by_growing C g_Table___init__ g_Table_put g_Table___len__ g_Table_slots g_Table_grow g__law_of g__law_shuffled { nx := fun _ st' => Rt st Q .non st', rt := Rt st Q } (startD 8 ds) st) : Cal P w K mg base T "_law_by_growing" s__law_by_growing 9 ["_law_pot", "_law_known", "_law_count", "_law_kind"] g_ := by
  obtain ⟨f, fd, F, b, m⟩ := D.d__law_by_growing
  obtain ⟨f_Table___init__, fd_Table___init__, F_Table___init___, MK, ⟨gg_kb1_way_rule, B_kb1_way_rule⟩, G_Table___init__⟩ := C_Table___init__
  obtain ⟨f_Table_put, fd_Table_put, F_Table_put_, b_Table_put, M_Table_put, G_Table_put⟩ := C_Table_put
  obtain ⟨f_Table___len__, fd_Table___len__, F_Table___len___, b_Table___len__, M_Table___len__, G_Table___len__⟩ := C_Table___len__
  obtain ⟨f_Table_slots, fd_Table_slots, F_Table_slots_, b_Table_slots, M_Table_slots, G_Table_slots⟩ := C_Table_slots
  obtain ⟨f_Table_grow, fd_Table_grow, F_Table_grow_, b_Table_grow, M_Table_grow, G_Table_grow⟩ := C_Table_grow
  obtain ⟨f__law_of, fd__law_of, F__law_of_, b__law_of, g__law_of_at, G__law_of⟩ := C__law_of
  obtain ⟨f__law_shuffled, fd__law_shuffled, F__law_shuffled_, b__law_shuffled, g__law_shuffled_at, G__law_shuffled⟩ := C__law_shuffled
  exact ⟨f, fd, F, b, m, fnD_mk (k := 8) F sc__law_by_growing ar (fun cdv A outer s H E gd hr => (ds_cons (ds_set (i := 4) sc__law_by_growing.nd rfl (.inl rfl) (de_if (dt_cmpR (op_eq2 hr.units) opD_eq (de_ix (de_var (pv 3)) (de_int) (fun _ _ => rfl)) (de_str) (nomark _)) (de_lst (da_cons (de_int) (da_cons (de_int) (da_cons (de_int) (da_cons (de_int) (da_cons (de_int) (da_cons (de_int) (da_cons (de_int) da_nil)))))))) (de_lst (da_cons (de_int) (da_cons (de_int) (da_cons (de_int) (da_cons (de_int) (da_cons (de_int) (da_cons (de_int) da_nil))))))))) (ds_cons (ds_par (i := 5) (j := 6) rfl sc__law_by_growing.nd rfl rfl (by decide) rfl rfl (da_cons (de_mk MK G_Table___init__ gd (hr.mono (by omega)) (by rfl) D.mC B_kb1_way_rule (relG_ix [0, 1, 2, 3] []) (da_cons (de_call G__law_of gd (hr.mono (by omega)) (by rfl) g__law_of_at F__law_of_.kp b__law_of (da_cons (de_var (pv 0)) (da_cons (de_var (pv 4)) da_nil))) da_nil) (dk_cons (de_ix (de_var (pv 3)) (de_int) (fun _ _ => rfl)) (dk_cons (de_ix (de_var (pv 3)) (de_int) (fun _ _ => rfl)) dk_nil))) (da_cons (de_call G__law_shuffled gd (hr.mono (by omega)) (by rfl) g__law_shuffled_at F__law_shuffled_.kp b__law_shuffled (da_cons (de_var (pv 0)) (da_cons (de_callB (cr_sortKS rfl) (callD_sortKS (.inl rfl)) (by rfl) D.z_sorted (by decide +kernel) (da_cons (de_var (pv 1)) da_nil)) da_nil))) da_nil)) (by rfl)) (ds_cons (ds_while PassesOwn.never (PW.pt (dw_and (dt_cmpR (op_ne2 hr.units) opD_ne (de_var (pv 6)) (de_lst da_nil) (nomark _)) (dw_and1 (dt_cmpR (op_ltG (Nat.lt_of_le_of_lt (Nat.le_add_right _ _) hr.units)) opD_ltG (de_callB (call_lenO M_Table___len__ G_Table___len__.fn gd (hr.mono (by omega)) b_Table___len__) (callD_lenO G_Table___len__.ar) (by rfl) D.z_len PySem.boot_len (da_cons (de_var (pv 5)) da_nil)) (de_meth0 D.cls M_Table_slots G_Table_slots gd (hr.mono (by omega)) b_Table_slots (de_var (pv 5))) (nomark _))))) (ds_cons (ds_set (i := 7) sc__law_by_growing.nd rfl (.inl rfl) (de_bmL0 PySem.F.slot_list_pop PySem.F.type_list_pop mt_pop mtD_pop (de_var (pv 6)))) (ds_one (ds_expr (de_meth D.cls M_Table_put G_Table_put gd (hr.mono (by omega)) b_Table_put (de_var (pv 5)) (da_cons (de_var (pv 7)) (da_cons (de_getK (Nat.lt_of_le_of_lt (Nat.add_le_add_left (by decide) _) hr.units) (de_var (pv 1)) (de_var (pv 7)) (fun _ _ => rfl)) da_nil))))))) (ds_cons (ds_expr (de_meth D.cls M_Table_grow G_Table_grow gd (hr.mono (by omega)) b_Table_grow (de_var (pv 5)) (da_cons (de_var (pv 2)) da_nil))) (ds_cons (ds_for (vs := [7]) PassesOwn.never rfl (di_seq (de_var (pv 6))) (dg_name (i := 7) sc__law_by_growing.nd rfl (.inl rfl) (by decide)) (ds_one (ds_expr (de_meth D.cls M_Table_put G_Table_put gd (hr.mono (by omega)) b_Table_put (de_var (pv 5)) (da_cons (de_var (pv 7)) (da_cons (de_getK (Nat.lt_of_le_of_lt (Nat.add_le_add_left (by decide) _) hr.units) (de_var (pv 1)) (de_var (pv 7)) (fun _ _ => rfl)) da_nil)))))) (ds_one (ds_ret (de_var (pv 5)))))))))) sem⟩
theorem ok__law_by_joining (D : Defs K mg base T C) {g_Table___init__ : DRs} (C_Table___init__ : CalI P w K mg base T C "Table.__init__" s_Table___init__ 3 ["self", "count", "way", "rule"] g_Table___init__) {g_Table_put : DRs} (C_Table_put : CalM P w K mg base T C "put" "Table.put" s_Table_put 7 ["self", "name", "value"] g_Table_put) {g_Table_add_all : DRs} (C_Table_add_all : CalM P w K mg base T C "add_all" "Table.add_all" s_Table_add_all 8 ["self", "other"] g_Table_add_all) {g_Table_clone : DRs} (C_Table_clone : CalM P w K mg base T C "clone" "Table.clone" s_Table_clone 9 ["self"] g_Table_clone) {g__law_take : DRs} (C__law_take : Cal P w K mg base T "_law_take" s__law_take 1 ["_law_pot", "_law_upto"] g__law_take) {g__law_drawn_value : DRs} (C__law_drawn_value : Cal P w K mg base T "_law_drawn_value" s__law_drawn_value 3 ["_law_pot"] g__law_drawn_value) {g__law_shuffled : DRs} (C__law_shuffled : Cal P w K mg base T "_law_shuffled" s__law_shuffled 2 ["_law_pot", "_law_some"] g__law_shuffled) {g_ : DRs} (ar : ∀ ds st Q, g_ ds st Q → ds.length = 4) (sem : ∀ ds st Q, g_ ds st Q → F__law_by_joining C g_Table___init__ g_Table_put g_Table_add_all g_Table_clone g__law_take g__law_drawn_value g__law_shuffled { nx := fun _ st' => Rt st Q .non st', rt := Rt st Q } (startD 9 ds) st) : Cal P w K mg base T "_law_by_joining" s__law_by_joining 10 ["_law_pot", "_law_known", "_law_count", "_law_kind"] g_ := by
  obtain ⟨f, fd, F, b, m⟩ := D.d__law_by_joining
  obtain ⟨f_Table___init__, fd_Table___init__, F_Table___init___, MK, ⟨gg_kb1_way_rule, B_kb1_way_rule⟩, G_Table___init__⟩ := C_Table___init__
  obtain ⟨f_Table_put, fd_Table_put, F_Table_put_, b_Table_put, M_Table_put, G_Table_put⟩ := C_Table_put
  obtain ⟨f_Table_add_all, fd_Table_add_all, F_Table_add_all_, b_Table_add_all, M_Table_add_all, G_Table_add_all⟩ := C_Table_add_all
  obtain ⟨f_Table_clone, fd_Table_clone, F_Table_clone_, b_Table_clone, M_Table_clone, G_Table_clone⟩ := C_Table_clone
  obtain ⟨f__law_take, fd__law_take, F__law_take_, b__law_take, g__law_take_at, G__law_take⟩ := C__law_take
  obtain ⟨f__law_drawn_value, fd__law_drawn_value, F__law_drawn_value_, b__law_drawn_value, g__law_drawn_value_at, G__law_drawn_value⟩ := C__law_drawn_value
  obtain ⟨f__law_shuffled, fd__law_shuffled, F__law_shuffled_, b__law_shuffled, g__law_shuffled_at, G__law_shuffled⟩ := C__law_shuffled
  exact ⟨f, fd, F, b, m, fnD_mk (k := 9) F sc__law_by_joining ar (fun cdv A outer s H E gd hr => (ds_cons (ds_par (i := 4) (j := 5) rfl sc__law_by_joining.nd rfl rfl (by decide) rfl rfl (da_cons (de_mk MK G_Table___init__ gd (hr.mono (by omega)) (by rfl) D.mC B_kb1_way_rule (relG_ix [0, 1, 2, 3] []) (da_cons (de_var (pv 2)) da_nil) (dk_cons (de_ix (de_var (pv 3)) (de_int) (fun _ _ => rfl)) (dk_cons (de_ix (de_var (pv 3)) (de_int) (fun _ _ => rfl)) dk_nil))) (da_cons (de_mk MK G_Table___init__ gd (hr.mono (by omega)) (by rfl) D.mC B_kb1_way_rule (relG_ix [0, 1, 2, 3] []) (da_cons (de_int) da_nil) (dk_cons (de_str) (dk_cons (de_str) dk_nil))) da_nil)) (by rfl)) (ds_cons (ds_for (vs := [6]) PassesOwn.never rfl (di_seq (de_call G__law_shuffled gd (hr.mono (by omega)) (by rfl) g__law_shuffled_at F__law_shuffled_.kp b__law_shuffled (da_cons (de_var (pv 0)) (da_cons (de_callB (cr_sortKS rfl) (callD_sortKS (.inl rfl)) (by rfl) D.z_sorted (by decide +kernel) (da_cons (de_var (pv 1)) da_nil)) da_nil)))) (dg_name (i := 6) sc__law_by_joining.nd rfl (.inl rfl) (by decide)) (ds_cons (ds_set (i := 7) sc__law_by_joining.nd rfl (.inl rfl) (de_call G__law_take gd (hr.mono (by omega)) (by rfl) g__law_take_at F__law_take_.kp b__law_take (da_cons (de_var (pv 0)) (da_cons (de_int) da_nil)))) (ds_cons (ds_if (dt_cmpR (op_ltG (Nat.lt_of_le_of_lt (Nat.le_add_right _ _) hr.units)) opD_ltG (de_var (pv 7)) (de_int) (nomark _)) (ds_one (ds_expr (de_meth D.cls M_Table_put G_Table_put gd (hr.mono (by omega)) b_Table_put (de_var (pv 4)) (da_cons (de_var (pv 6)) (da_cons (de_if (dt_cmpR (op_eq2 hr.units) opD_eq (de_var (pv 7)) (de_int) (nomark _)) (de_getK (Nat.lt_of_le_of_lt (Nat.add_le_add_left (by decide) _) hr.units) (de_var (pv 1)) (de_var (pv 6)) (fun _ _ => rfl)) (de_call G__law_drawn_value gd (hr.mono (by omega)) (by rfl) g__law_drawn_value_at F__law_drawn_value_.kp b__law_drawn_value (da_cons (de_var (pv 0)) da_nil))) da_nil))))) ds_nil) (ds_one (ds_if (dt_cmpR op_gt (opD_I0 fun _ _ _ _ => .bl _) (de_var (pv 7)) (de_int) (nomark _)) (ds_one (ds_expr (de_meth D.cls M_Table_put G_Table_put gd (hr.mono (by omega)) b_Table_put (de_var (pv 5)) (da_cons (de_var (pv 6)) (da_cons (de_getK (Nat.lt_of_le_of_lt (Nat.add_le_add_left (by decide) _) hr.units) (de_var (pv 1)) (de_var (pv 6)) (fun _ _ => rfl)) da_nil))))) ds_nil))))) (ds_cons (ds_set (i := 8) sc__law_by_joining.nd rfl (.inl rfl) (de_meth0 D.cls M_Table_clone G_Table_clone gd (hr.mono (by omega)) b_Table_clone (de_var (pv 4)))) (ds_cons (ds_expr (de_meth D.cls M_Table_add_all G_Table_add_all gd (hr.mono (by omega)) b_Table_add_all (de_var (pv 8)) (da_cons (de_var (pv 5)) da_nil))) (ds_one (ds_ret (de_var (pv 8))))))))) sem⟩
theorem ok__law_are_alike (D : Defs K mg base T C) {g_Table_value_of : DRs} (C_Table_value_of : CalM P w K mg base T C "value_of" "Table.value_of" s_Table_value_of 3 ["self", "name"] g_Table_value_of) {g_Table_look_up : DRs} (C_Table_look_up : CalM P w K mg base T C "look_up" "Table.look_up" s_Table_look_up 6 ["self", "name"] g_Table_look_up) {g_Table_layout : DRs} (C_Table_layout : CalM P w K mg base T C "layout" "Table.layout" s_Table_layout 1 ["self"] g_Table_layout) {g_Table_distances : DRs} (C_Table_distances : CalM P w K mg base T C "distances" "Table.distances" s_Table_distances 5 ["self"] g_Table_distances) {g_Table___eq__ : DRs} (C_Table___eq__ : CalM P w K mg base T C "__eq__" "Table.__eq__" s_Table___eq__ 1 ["self", "other"] g_Table___eq__) {g__law_drawn_name : DRs} (C__law_drawn_name : Cal P w K mg base T "_law_drawn_name" s__law_drawn_name 3 ["_law_pot"] g__law_drawn_name) {g_ : DRs} (ar : ∀ ds st Q, g_ ds st Q → ds.length = 3) (sem : ∀ ds st Q, g_ ds st Q → F__law_are_alike C g_Table_value_of g_Table_look_up g_Table_layout g_Table_distances g_Table___eq__ g__law_drawn_name { nx := fun _ st' => Rt st Q .non st', rt := Rt st Q } (startD 8 ds) st) : Cal P w K mg base T "_law_are_alike" s__law_are_alike 7 ["_law_pot", "_law_tables", "_law_known"] g_ := by
  obtain ⟨f, fd, F, b, m⟩ := D.d__law_are_alike
  obtain ⟨f_Table_value_of, fd_Table_value_of, F_Table_value_of_, b_Table_value_of, M_Table_value_of, G_Table_value_of⟩ := C_Table_value_of
  obtain ⟨f_Table_look_up, fd_Table_look_up, F_Table_look_up_, b_Table_look_up, M_Table_look_up, G_Table_look_up⟩ := C_Table_look_up
  obtain ⟨f_Table_layout, fd_Table_layout, F_Table_layout_, b_Table_layout, M_Table_layout, G_Table_layout⟩ := C_Table_layout
  obtain ⟨f_Table_distances, fd_Table_distances, F_Table_distances_, b_Table_distances, M_Table_distances, G_Table_distances⟩ := C_Table_distances
  obtain ⟨f_Table___eq__, fd_Table___eq__, F_Table___eq___, b_Table___eq__, M_Table___eq__, G_Table___eq__⟩ := C_Table___eq__
  obtain ⟨f__law_drawn_name, fd__law_drawn_name, F__law_drawn_name_, b__law_drawn_name, g__law_drawn_name_at, G__law_drawn_name⟩ := C__law_drawn_name
  exact ⟨f, fd, F, b, m, fnD_mk (k := 6) F sc__law_are_alike ar (fun cdv A outer s H E gd hr => (ds_cons (ds_set (i := 3) sc__law_are_alike.nd rfl (.inr rfl) (de_ix (de_var (pv 1)) (de_int) (fun _ _ => rfl))) (ds_cons (ds_set (i := 4) sc__law_are_alike.nd rfl (.inl rfl) (de_add (de_slice (.inl rfl) (de_callB (cr_sortKS rfl) (callD_sortKS (.inl rfl)) (by rfl) D.z_sorted (by decide +kernel) (da_cons (de_var (pv 2)) da_nil)) do_none (do_some (de_int))) (de_lcG (own := [("_law_turn", 6)]) finT_ok rfl sc__law_are_alike.nd (di_range1 (by rfl) D.z_range (da_cons (de_int) da_nil)) (blkOk_by (own := [("_law_turn", 6)]) (N := n__law_are_alike) (sc := defScope s__law_are_alike) (by decide +kernel)) (fun _ _ _ _ _ => (dg_name (i := 6) sc__law_are_alike.nd rfl (.inl rfl) (by decide))) (fun _ _ _ _ _ => dts_nil) (fun _ _ _ _ _ => (de_call G__law_drawn_name gd (hr.mono (by omega)) (by rfl) g__law_drawn_name_at F__law_drawn_name_.kp b__law_drawn_name (da_cons (de_var (pv 0)) da_nil)))))) (ds_cons (ds_for (vs := [5]) PassesOwn.never rfl (di_seq (de_slice (.inl rfl) (de_var (pv 1)) (do_some (de_int)) do_none)) (dg_name (i := 5) sc__law_are_alike.nd rfl (.inr rfl) (by decide)) (ds_cons (ds_if (PW.pt (dw_or (dt_cmpR (op_neO D.isC M_Table___eq__ G_Table___eq__.fn gd (hr.mono (by omega)) b_Table___eq__) (opD_eqO G_Table___eq__.ar) (de_var (pv 5)) (de_var (pv 3)) (nomark _)) (dw_or (dt_cmpR (op_ne2 hr.units) opD_ne (de_meth0 D.cls M_Table_layout G_Table_layout gd (hr.mono (by omega)) b_Table_layout (de_var (pv 5))) (de_meth0 D.cls M_Table_layout G_Table_layout gd (hr.mono (by omega)) b_Table_layout (de_var (pv 3))) (nomark _)) (dw_or1 (dt_cmpR (op_ne2 hr.units) opD_ne (de_meth0 D.cls M_Table_distances G_Table_distances gd (hr.mono (by omega)) b_Table_distances (de_var (pv 5))) (de_meth0 D.cls M_Table_distances G_Table_distances gd (hr.mono (by omega)) b_Table_distances (de_var (pv 3))) (nomark _)))))) (ds_one (ds_ret (de_bl))) ds_nil) (ds_cons (ds_if (dt_not (dt_val (de_callB (cr_all rfl) (callD_all _) (by rfl) D.z_all (by decide +kernel) (da_cons (de_lcG (own := [("_law_name", 7)]) finT_ok rfl sc__law_are_alike.nd (di_seq (de_var (pv 4))) (blkOk_by (own := [("_law_name", 7)]) (N := n__law_are_alike) (sc := defScope s__law_are_alike) (by decide +kernel)) (fun _ _ _ _ _ => (dg_name (i := 7) sc__law_are_alike.nd rfl (.inl rfl) (by decide))) (fun _ _ _ _ _ => dts_nil) (fun _ _ _ _ _ => (de_cmp (op_eq2 hr.units) opD_eq (de_meth D.cls M_Table_look_up G_Table_look_up gd (hr.mono (by omega)) b_Table_look_up (de_var (pv 5)) (da_cons (de_var (pv 7)) da_nil)) (de_meth D.cls M_Table_look_up G_Table_look_up gd (hr.mono (by omega)) b_Table_look_up (de_var (pv 3)) (da_cons (de_var (pv 7)) da_nil)) (nomark _)))) da_nil)))) (ds_one (ds_ret (de_bl))) ds_nil) (ds_one (ds_if (dt_not (dt_val (de_callB (cr_all rfl) (callD_all _) (by rfl) D.z_all (by decide +kernel) (da_cons (de_lockK (i := 2) (de_lcG (own := [("_law_name", 7)]) finT_ok rfl sc__law_are_alike.nd (di_keysK (de_var (pv 2))) (blkOk_by (own := [("_law_name", 7)]) (N := n__law_are_alike) (sc := defScope s__law_are_alike) (by decide +kernel)) (fun _ _ _ _ _ => (dg_name (i := 7) sc__law_are_alike.nd rfl (.inl rfl) (by decide))) (fun _ _ _ _ _ => dts_nil) (fun _ _ _ _ _ => (de_cmp (op_eq2 hr.units) opD_eq (de_meth D.cls M_Table_value_of G_Table_value_of gd (hr.mono (by omega)) b_Table_value_of (de_var (pv 5)) (da_cons (de_var (pv 7)) da_nil)) (de_getR (Nat.lt_of_le_of_lt (Nat.add_le_add_left (by decide) _) hr.units) (de_var (pv 2)) (de_var (pv 7)) (fun _ _ => rfl)) (nomark _))))) da_nil)))) (ds_one (ds_ret (de_bl))) ds_nil))))) (ds_one (ds_ret (de_bl))))))) sem⟩
set_option maxHeartbeats 0 in
theorem ok__law_right (D : Defs K mg base T C) {g_Table_put : DRs} (C_Table_put : CalM P w K mg base T C "put" "Table.put" s_Table_put 7 ["self", "name", "value"] g_Table_put) {g_Table_take_out : DRs} (C_Table_take_out : CalM P w K mg base T C "take_out" "Table.take_out" s_Table_take_out 8 ["self", "name"] g_Table_take_out) {g_Table_grow : DRs} (C_Table_grow : CalM P w K mg base T C "grow" "Table.grow" s_Table_grow 8 ["self", "count"] g_Table_grow) {g_Table___eq__ : DRs} (C_Table___eq__ : CalM P w K mg base T C "__eq__" "Table.__eq__" s_Table___eq__ 1 ["self", "other"] g_Table___eq__) {g__law_take : DRs} (C__law_take : Cal P w K mg base T "_law_take" s__law_take 1 ["_law_pot", "_law_upto"] g__law_take) {g__law_of : DRs} (C__law_of : Cal P w K mg base T "_law_of" s__law_of 2 ["_law_pot", "_law_some"] g__law_of) {g__law_drawn_kind : DRs} (C__law_drawn_kind : Cal P w K mg base T "_law_drawn_kind" s__law_drawn_kind 3 ["_law_pot"] g__law_drawn_kind) {g__law_drawn_name : DRs} (C__law_drawn_name : Cal P w K mg base T "_law_drawn_name" s__law_drawn_name 3 ["_law_pot"] g__law_drawn_name) {g__law_drawn_value : DRs} (C__law_drawn_value : Cal P w K mg base T "_law_drawn_value" s__law_drawn_value 3 ["_law_pot"] g__law_drawn_value) {g__law_by_detours : DRs} (C__law_by_detours : Cal P w K mg base T "_law_by_detours" s__law_by_detours 9 ["_law_pot", "_law_known", "_law_count", "_law_kind"] g__law_by_detours) {g__law_by_growing : DRs} (C__law_by_growing : Cal P w K mg base T "_law_by_growing" s__law_by_growing 9 ["_law_pot", "_law_known", "_law_count", "_law_kind"] g__law_by_growing) {g__law_by_joining : DRs} (C__law_by_joining : Cal P w K mg base T "_law_by_joining" s__law_by_joining 10 ["_law_pot", "_law_known", "_law_count", "_law_kind"] g__law_by_joining) {g__law_are_alike : DRs} (C__law_are_alike : Cal P w K mg base T "_law_are_alike" s__law_are_alike 7 ["_law_pot", "_law_tables", "_law_known"] g__law_are_alike) {g_ : DRs} (ar : ∀ ds st Q, g_ ds st Q → ds.length = 1) (sem : ∀ ds st Q, g_ ds st Q → F__law_right_v55 C g_Table_put g_Table_take_out g_Table_grow g_Table___eq__ g__law_take g__law_of g__law_drawn_kind g__law_drawn_name g__law_drawn_value g__law_by_detours g__law_by_growing g__law_by_joining g__law_are_alike { nx := fun _ st' => Rt st Q .non st', rt := Rt st Q } (startD 8 ds) st) : Cal P w K mg base T "_law_right" s__law_right 11 ["_law_pot"] g_ := by
  obtain ⟨f, fd, F, b, m⟩ := D.d__law_right
  obtain ⟨f_Table_put, fd_Table_put, F_Table_put_, b_Table_put, M_Table_put, G_Table_put⟩ := C_Table_put
  obtain ⟨f_Table_take_out, fd_Table_take_out, F_Table_take_out_, b_Table_take_out, M_Table_take_out, G_Table_take_out⟩ := C_Table_take_out
  obtain ⟨f_Table_grow, fd_Table_grow, F_Table_grow_, b_Table_grow, M_Table_grow, G_Table_grow⟩ := C_Table_grow
  obtain ⟨f_Table___eq__, fd_Table___eq__, F_Table___eq___, b_Table___eq__, M_Table___eq__, G_Table___eq__⟩ := C_Table___eq__
  obtain ⟨f__law_take, fd__law_take, F__law_take_, b__law_take, g__law_take_at, G__law_take⟩ := C__law_take
  obtain ⟨f__law_of, fd__law_of, F__law_of_, b__law_of, g__law_of_at, G__law_of⟩ := C__law_of
  obtain ⟨f__law_drawn_kind, fd__law_drawn_kind, F__law_drawn_kind_, b__law_drawn_kind, g__law_drawn_kind_at, G__law_drawn_kind⟩ := C__law_drawn_kind
  obtain ⟨f__law_drawn_name, fd__law_drawn_name, F__law_drawn_name_, b__law_drawn_name, g__law_drawn_name_at, G__law_drawn_name⟩ := C__law_drawn_name
  obtain ⟨f__law_drawn_value, fd__law_drawn_value, F__law_drawn_value_, b__law_drawn_value, g__law_drawn_value_at, G__law_drawn_value⟩ := C__law_drawn_value
  obtain ⟨f__law_by_detours, fd__law_by_detours, F__law_by_detours_, b__law_by_detours, g__law_by_detours_at, G__law_by_detours⟩ := C__law_by_detours
  obtain ⟨f__law_by_growing, fd__law_by_growing, F__law_by_growing_, b__law_by_growing, g__law_by_growing_at, G__law_by_growing⟩ := C__law_by_growing
  obtain ⟨f__law_by_joining, fd__law_by_joining, F__law_by_joining_, b__law_by_joining, g__law_by_joining_at, G__law_by_joining⟩ := C__law_by_joining
  obtain ⟨f__law_are_alike, fd__law_are_alike, F__law_are_alike_, b__law_are_alike, g__law_are_alike_at, G__law_are_alike⟩ := C__law_are_alike
  exact ⟨f, fd, F, b, m, fnD_mk (k := 10) F sc__law_right ar (fun cdv A outer s H E gd hr => (ds_cons (ds_par (i := 1) (j := 2) rfl sc__law_right.nd rfl rfl (by decide) rfl rfl (da_cons (de_call G__law_drawn_kind gd (hr.mono (by omega)) (by rfl) g__law_drawn_kind_at F__law_drawn_kind_.kp b__law_drawn_kind (da_cons (de_var (pv 0)) da_nil)) (da_cons (de_newK) da_nil)) (by rfl)) (ds_cons (ds_set (i := 3) sc__law_right.nd rfl (.inl rfl) (de_call G__law_of gd (hr.mono (by omega)) (by rfl) g__law_of_at F__law_of_.kp b__law_of (da_cons (de_var (pv 0)) (da_cons (de_lst (da_cons (de_int) (da_cons (de_int) (da_cons (de_int) (da_cons (de_int) (da_cons (de_int) da_nil)))))) da_nil)))) (ds_cons (ds_for (vs := [4]) PassesOwn.never rfl (di_range1 (by rfl) D.z_range (da_cons (de_call G__law_take gd (hr.mono (by omega)) (by rfl) g__law_take_at F__law_take_.kp b__law_take (da_cons (de_var (pv 0)) (da_cons (de_int) da_nil))) da_nil)) (dg_name (i := 4) sc__law_right.nd rfl (.inl rfl) (by decide)) (ds_cons (ds_set (i := 5) sc__law_right.nd rfl (.inl rfl) (de_call G__law_drawn_name gd (hr.mono (by omega)) (by rfl) g__law_drawn_name_at F__law_drawn_name_.kp b__law_drawn_name (da_cons (de_var (pv 0)) da_nil))) (ds_one (ds_if (PW.pt (dw_or (dt_cmpR (op_ltG (Nat.lt_of_le_of_lt (Nat.le_add_right _ _) hr.units)) opD_ltG (de_callB call_lenD callD_lenK (by rfl) D.z_len PySem.boot_len (da_cons (de_var (pv 2)) da_nil)) (de_sub (de_var (pv 3)) (de_int)) (nomark _)) (dw_or1 (dt_inK (Nat.lt_of_le_of_lt (Nat.add_le_add_left (by decide) _) hr.units) (de_var (pv 5)) (de_var (pv 2)))))) (ds_one (ds_putK (Nat.lt_of_le_of_lt (Nat.add_le_add_left (by decide) _) hr.units) (de_var (pv 2)) (de_var (pv 5)) (de_call G__law_drawn_value gd (hr.mono (by omega)) (by rfl) g__law_drawn_value_at F__law_drawn_value_.kp b__law_drawn_value (da_cons (de_var (pv 0)) da_nil)))) ds_nil)))) (ds_cons (ds_set (i := 6) sc__law_right.nd rfl (.inl rfl) (de_lstN (da_cons (de_call G__law_by_detours gd (hr.mono (by omega)) (by rfl) g__law_by_detours_at F__law_by_detours_.kp b__law_by_detours (da_cons (de_var (pv 0)) (da_cons (de_var (pv 2)) (da_cons (de_var (pv 3)) (da_cons (de_var (pv 1)) da_nil))))) (da_cons (de_call G__law_by_growing gd (hr.mono (by omega)) (by rfl) g__law_by_growing_at F__law_by_growing_.kp b__law_by_growing (da_cons (de_var (pv 0)) (da_cons (de_var (pv 2)) (da_cons (de_var (pv 3)) (da_cons (de_var (pv 1)) da_nil))))) da_nil)))) (ds_cons (ds_expr (de_bmL PySem.F.slot_list_append PySem.F.type_list_append mt_append mtD_append (de_var (pv 6)) (da_cons (de_call G__law_by_joining gd (hr.mono (by omega)) (by rfl) g__law_by_joining_at F__law_by_joining_.kp b__law_by_joining (da_cons (de_var (pv 0)) (da_cons (de_var (pv 2)) (da_cons (de_var (pv 3)) (da_cons (de_var (pv 1)) da_nil))))) da_nil))) (ds_cons (ds_if (dt_not (dt_val (de_call G__law_are_alike gd (hr.mono (by omega)) (by rfl) g__law_are_alike_at F__law_are_alike_.kp b__law_are_alike (da_cons (de_var (pv 0)) (da_cons (de_var (pv 6)) (da_cons (de_var (pv 2)) da_nil)))))) (ds_one (ds_ret (de_bl))) ds_nil) (ds_cons (ds_set (i := 7) sc__law_right.nd rfl (.inl rfl) (de_ix (de_var (pv 6)) (de_int) (fun _ _ => rfl))) (ds_cons (ds_expr (de_meth D.cls M_Table_put G_Table_put gd (hr.mono (by omega)) b_Table_put (de_var (pv 7)) (da_cons (de_str) (da_cons (de_str) da_nil)))) (ds_cons (ds_if (PW.pt (dw_or (dt_cmpR (op_eqO D.isC M_Table___eq__ G_Table___eq__.fn gd (hr.mono (by omega)) b_Table___eq__) (opD_eqO G_Table___eq__.ar) (de_var (pv 7)) (de_ix (de_var (pv 6)) (de_int) (fun _ _ => rfl)) (nomark _)) (dw_or (dt_cmpR (op_ne2 hr.units) opD_ne (de_meth D.cls M_Table_take_out G_Table_take_out gd (hr.mono (by omega)) b_Table_take_out (de_var (pv 7)) (da_cons (de_str) da_nil)) (de_str) (nomark _)) (dw_or1 (dt_not (dt_val (de_call G__law_are_alike gd (hr.mono (by omega)) (by rfl) g__law_are_alike_at F__law_are_alike_.kp b__law_are_alike (da_cons (de_var (pv 0)) (da_cons (de_var (pv 6)) (da_cons (de_var (pv 2)) da_nil)))))))))) (ds_one (ds_ret (de_bl))) ds_nil) (ds_cons (ds_expr (de_meth D.cls M_Table_grow G_Table_grow gd (hr.mono (by omega)) b_Table_grow (de_var (pv 7)) (da_cons (de_mul (de_int) (de_var (pv 3))) da_nil))) (ds_cons (ds_if (dt_cmpR (op_eqO D.isC M_Table___eq__ G_Table___eq__.fn gd (hr.mono (by omega)) b_Table___eq__) (opD_eqO G_Table___eq__.ar) (de_var (pv 7)) (de_ix (de_var (pv 6)) (de_int) (fun _ _ => rfl)) (nomark _)) (ds_one (ds_ret (de_bl))) ds_nil) (ds_cons (ds_expr (de_meth D.cls M_Table_grow G_Table_grow gd (hr.mono (by omega)) b_Table_grow (de_var (pv 7)) (da_cons (de_var (pv 3)) da_nil))) (ds_one (ds_ret (de_call G__law_are_alike gd (hr.mono (by omega)) (by rfl) g__law_are_alike_at F__law_are_alike_.kp b__law_are_alike (da_cons (de_var (pv 0)) (da_cons (de_var (pv 6)) (da_cons (de_var (pv 2)) da_nil))))))))))))))))))) sem⟩
theorem ok_law (D : Defs K mg base T C) {g__law_pot_of : DRs} (C__law_pot_of : Cal P w K mg base T "_law_pot_of" s__law_pot_of 1 ["_law_script", "_law_k"] g__law_pot_of) {g__law_right : DRs} (C__law_right : Cal P w K mg base T "_law_right" s__law_right 11 ["_law_pot"] g__law_right) {g_ : DRs} (ar : ∀ ds st Q, g_ ds st Q → ds.length = 1) (sem : ∀ ds st Q, g_ ds st Q → F_law_v6 g__law_pot_of g__law_right { nx := fun _ st' => Rt st Q .non st', rt := Rt st Q } (startD 3 ds) st) : Cal P w K mg base T "law" s_law 12 ["_law_script"] g_ := by
  obtain ⟨f, fd, F, b, m⟩ := D.d_law
  obtain ⟨f__law_pot_of, fd__law_pot_of, F__law_pot_of_, b__law_pot_of, g__law_pot_of_at, G__law_pot_of⟩ := C__law_pot_of
  obtain ⟨f__law_right, fd__law_right, F__law_right_, b__law_right, g__law_right_at, G__law_right⟩ := C__law_right
  exact ⟨f, fd, F, b, m, fnD_mk (k := 11) F sc_law ar (fun cdv A outer s H E gd hr => (ds_cons (ds_for (vs := [1]) PassesOwn.never rfl (di_range1 (by rfl) D.z_range (da_cons (de_callB (call_max2 rfl) callD_2I (by rfl) D.z_max (by decide +kernel) (da_cons (de_int) (da_cons (de_callB (call_min2 rfl) callD_2I (by rfl) D.z_min (by decide +kernel) (da_cons (de_int) (da_cons (de_callB call_len_seq callD_len (by rfl) D.z_len PySem.boot_len (da_cons (de_var (pv 0)) da_nil)) da_nil))) da_nil))) da_nil)) (dg_name (i := 1) sc_law.nd rfl (.inl rfl) (by decide)) (ds_cons (ds_set (i := 2) sc_law.nd rfl (.inl rfl) (de_call G__law_pot_of gd (hr.mono (by omega)) (by rfl) g__law_pot_of_at F__law_pot_of_.kp b__law_pot_of (da_cons (de_var (pv 0)) (da_cons (de_var (pv 1)) da_nil)))) (ds_one (ds_if (PW.pt (dw_or (dt_not (dt_val (de_call G__law_right gd (hr.mono (by omega)) (by rfl) g__law_right_at F__law_right_.kp b__law_right (da_cons (de_var (pv 2)) da_nil)))) (dw_or1 (dt_not (dt_val (de_call G__law_right gd (hr.mono (by omega)) (by rfl) g__law_right_at F__law_right_.kp b__law_right (da_cons (de_var (pv 2)) da_nil))))))) (ds_one (ds_ret (de_bl))) ds_nil)))) (ds_one (ds_ret (de_bl))))) sem⟩
end
section
variable {P : Program} {w : World} {K : Frag} {mg : Str → Option Value} {base : Heap} {T : List (Addr × Str)}
set_option maxHeartbeats 0 in
theorem law_ok {C : Addr} (D : Defs K mg base T C) : Cal P w K mg base T "law" s_law 12 ["_law_script"] g_law := by
  have C__law_pot_of := ok__law_pot_of (P := P) (w := w) D ar_pot sem_potA
  have C_is_word := ok_is_word (P := P) (w := w) D ar_word sem_word
  have C_require_name := ok_require_name (P := P) (w := w) D C_is_word ar_reqN sem_reqN
  have C_linear := ok_linear (P := P) (w := w) D ar_line sem_linear
  have C_is_power_of_two := ok_is_power_of_two (P := P) (w := w) D ar_pow2 sem_pow2
  have C_triangular := ok_triangular (P := P) (w := w) D C_is_power_of_two ar_tri sem_tri
  have C_home_of := ok_home_of (P := P) (w := w) D ar_home sem_home
  have C_Table_order_of := ok_Table_order_of (P := P) (w := w) D C_linear C_triangular C_home_of ar_order sem_order
  have C_Table_distance := ok_Table_distance (P := P) (w := w) D C_Table_order_of ar_dist sem_dist
  have C_Table_beats := ok_Table_beats (P := P) (w := w) D C_Table_distance ar_beats sem_beats
  have C_Table_settle := ok_Table_settle (P := P) (w := w) D C_Table_order_of C_Table_distance C_Table_beats ar_settle sem_settle
  have C_Table_put := ok_Table_put (P := P) (w := w) D C_is_word C_require_name C_Table_settle ar_put sem_put
  have C_Table_value_of := ok_Table_value_of (P := P) (w := w) D C_require_name ar_valueOf sem_valueOf
  have C_Table_names := ok_Table_names (P := P) (w := w) D ar_names sem_names
  have C_Table_settle_all := ok_Table_settle_all (P := P) (w := w) D C_Table_names C_Table_settle ar_setAll sem_setAll
  have C_Table_take_out := ok_Table_take_out (P := P) (w := w) D C_Table_value_of C_Table_settle_all ar_takeOut sem_takeOut
  have C_is_integer_within := ok_is_integer_within (P := P) (w := w) D ar_within sem_within
  have C_require_count := ok_require_count (P := P) (w := w) D C_is_integer_within C_is_power_of_two ar_reqC sem_reqC
  have C_Table_grow := ok_Table_grow (P := P) (w := w) D C_require_count C_Table_settle_all ar_grow sem_grow
  have C_Table___eq__ := ok_Table___eq__ (P := P) (w := w) D ar_eqT sem_eqT
  have C__law_take := ok__law_take (P := P) (w := w) D ar_take sem_takeA
  have C__law_of := ok__law_of (P := P) (w := w) D C__law_take ar_ofX sem_ofX
  have C__law_drawn_kind := ok__law_drawn_kind (P := P) (w := w) D C__law_of ar_kindD sem_kindD
  have C__law_drawn_name := ok__law_drawn_name (P := P) (w := w) D C__law_of ar_nameY sem_nameY
  have C__law_drawn_value := ok__law_drawn_value (P := P) (w := w) D C__law_of ar_valueD sem_valueD
  have C_Table___init__ := ok_Table___init__ (P := P) (w := w) D C_require_count ar_init sem_init
  have C_Table___len__ := ok_Table___len__ (P := P) (w := w) D ar_lenT sem_lenT
  have C__law_shuffled := ok__law_shuffled (P := P) (w := w) D C__law_take ar_shufR sem_shufR
  have C__law_by_detours := ok__law_by_detours (P := P) (w := w) D C_Table___init__ C_Table_put C_Table_take_out C_Table___len__ C__law_drawn_name C__law_drawn_value C__law_shuffled ar_byX sem_detours
  have C_Table_slots := ok_Table_slots (P := P) (w := w) D ar_slotsT sem_slotsT
  have C__law_by_growing := ok__law_by_growing (P := P) (w := w) D C_Table___init__ C_Table_put C_Table___len__ C_Table_slots C_Table_grow C__law_of C__law_shuffled ar_byX sem_grown
  have C_Table_add_all := ok_Table_add_all (P := P) (w := w) D C_Table_put C_Table_value_of C_Table_names ar_addAll sem_addAll
  have C_Table_clone := ok_Table_clone (P := P) (w := w) D C_Table___init__ C_Table_add_all ar_clone sem_clone
  have C__law_by_joining := ok__law_by_joining (P := P) (w := w) D C_Table___init__ C_Table_put C_Table_add_all C_Table_clone C__law_take C__law_drawn_value C__law_shuffled ar_byX sem_joined
  have C_Table_look_up := ok_Table_look_up (P := P) (w := w) D C_require_name C_Table_order_of C_Table_beats ar_lookT sem_lookT
  have C_Table_layout := ok_Table_layout (P := P) (w := w) D ar_layoutT sem_layoutT
  have C_Table_distances := ok_Table_distances (P := P) (w := w) D C_Table_names C_Table_distance ar_dists sem_dists
  have C__law_are_alike := ok__law_are_alike (P := P) (w := w) D C_Table_value_of C_Table_look_up C_Table_layout C_Table_distances C_Table___eq__ C__law_drawn_name ar_alike sem_alike
  have C__law_right := ok__law_right (P := P) (w := w) D C_Table_put C_Table_take_out C_Table_grow C_Table___eq__ C__law_take C__law_of C__law_drawn_kind C__law_drawn_name C__law_drawn_value C__law_by_detours C__law_by_growing C__law_by_joining C__law_are_alike ar_right84 sem_right84
  have C_law := ok_law (P := P) (w := w) D C__law_pot_of C__law_right ar_law sem_law84
  exact C_law
end
set_option maxHeartbeats 0 in
theorem all_mk {l : PySem.W.OpenLaw} {w : World} {K : PySem.W.Frag} {h : Heap} {mg : Str → Option Value} {fa : Addr} (X : K.In h) (G : h.Ns mainGlobals mg) (hfa : mg "law" = some (.ref fa))
    {f1 f2 f3 f4 f5 f6 f7 f8 f9 f10 f11 f12 f13 f14 f15 f16 f17 f18 f19 f20 f21 f22 f23 f24 f25 f26 f27 f28 f29 f30 f31 f32 f33 f34 f35 f36 f37 f38 f39 f40 : Addr} {od1 an1 od2 an2 od3 an3 od4 an4 od5 an5 od6 an6 od7 an7 od8 an8 od9 an9 od10 an10 od11 an11 od12 an12 od13 an13 od14 an14 od15 an15 od16 an16 od17 an17 od18 an18 od19 an19 od20 an20 od21 an21 od22 an22 od23 an23 od24 an24 od25 an25 od26 an26 od27 an27 od28 an28 od29 an29 od30 an30 od31 an31 od32 an32 od33 an33 od34 an34 od35 an35 od36 an36 od37 an37 od38 an38 od39 an39 od40 an40 : Option Addr} {sl1 sl2 sl3 sl4 sl5 sl6 sl7 sl8 sl9 sl10 sl11 sl12 sl13 sl14 sl15 sl16 sl17 sl18 sl19 sl20 sl21 sl22 sl23 sl24 sl25 sl26 sl27 sl28 sl29 sl30 sl31 sl32 sl33 sl34 sl35 sl36 sl37 sl38 sl39 sl40 : Array (Option Value)} {oc1 kV1 dc1 pm1 cd1 ct1 oc2 kV2 dc2 pm2 cd2 ct2 oc3 kV3 dc3 pm3 cd3 ct3 oc4 kV4 dc4 pm4 cd4 ct4 oc5 kV5 dc5 pm5 cd5 ct5 oc6 kV6 dc6 pm6 cd6 ct6 oc7 kV7 dc7 pm7 cd7 ct7 oc8 kV8 dc8 pm8 cd8 ct8 oc9 dc9 pm9 cd9 ct9 oc10 kV10 dc10 pm10 cd10 ct10 oc11 kV11 dc11 pm11 cd11 ct11 oc12 kV12 dc12 pm12 cd12 ct12 oc13 kV13 dc13 pm13 cd13 ct13 oc14 kV14 dc14 pm14 cd14 ct14 oc15 kV15 dc15 pm15 cd15 ct15 oc16 kV16 dc16 pm16 cd16 ct16 oc17 kV17 dc17 pm17 cd17 ct17 oc18 kV18 dc18 pm18 cd18 ct18 oc19 kV19 dc19 pm19 cd19 ct19 oc20 kV20 dc20 pm20 cd20 ct20 oc21 kV21 dc21 pm21 cd21 ct21 oc22 kV22 dc22 pm22 cd22 ct22 oc23 kV23 dc23 pm23 cd23 ct23 oc24 kV24 dc24 pm24 cd24 ct24 oc25 kV25 dc25 pm25 cd25 ct25 oc26 kV26 dc26 pm26 cd26 ct26 oc27 kV27 dc27 pm27 cd27 ct27 oc28 kV28 dc28 pm28 cd28 ct28 oc29 kV29 dc29 pm29 cd29 ct29 oc30 kV30 dc30 pm30 cd30 ct30 oc31 kV31 dc31 pm31 cd31 ct31 oc32 kV32 dc32 pm32 cd32 ct32 oc33 kV33 dc33 pm33 cd33 ct33 oc34 kV34 dc34 pm34 cd34 ct34 oc35 kV35 dc35 pm35 cd35 ct35 oc36 kV36 dc36 pm36 cd36 ct36 oc37 kV37 dc37 pm37 cd37 ct37 oc38 kV38 dc38 pm38 cd38 ct38 oc39 kV39 dc39 pm39 cd39 ct39 oc40 kV40 dc40 pm40 cd40 ct40 : Value}
    {C : Addr} (aC : PySem.W.nsIn K mainGlobals "Table" = some (some (.ref C))) (pgC : PySem.W.plainGet K C Str.empty = true) (hdC : PySem.W.hasDictIn K C = true) (poC : PySem.W.plainOver K C = true) (saC : PySem.W.findIn K (.ref C) "__setattr__" = some (some (.builtin "object.__setattr__"))) (mkC : PySem.W.makesIn K C = true) (kcC : PySem.W.keepIn K (.ref C) = true)
    (naC_count : PySem.W.findIn K (.ref C) "count" = some none)
    (naC_way : PySem.W.findIn K (.ref C) "way" = some none)
    (naC_rule : PySem.W.findIn K (.ref C) "rule" = some none)
    (naC_contents : PySem.W.findIn K (.ref C) "contents" = some none)
    (naC_entries : PySem.W.findIn K (.ref C) "entries" = some none)
    (tyC : PySem.W.typeIn K (.ref C) = some (.type "type")) (haC : PySem.W.findIn K (.ref C) "__class__" = some (some (.builtin "object.__class__"))) (obC : PySem.W.subIn K (.ref C) (.type "object") = some true) (neC : PySem.W.findIn K (.ref C) "__ne__" = some (some (.builtin "object.__ne__")))
    (a1 : PySem.W.nsIn K mainGlobals "is_integer_within" = some (some (.ref f1))) (l1 : K.lookup f1 = some ⟨oc1, od1, .func (PySem.W.fnOf "is_integer_within" "is_integer_within" (defArgs s_is_integer_within) (defBody s_is_integer_within) (defScope s_is_integer_within) .none kV1 dc1 pm1 an1 cd1 ct1), sl1⟩) (c1 : PySem.W.codeIn K cd1 "is_integer_within" = true) (k1 : PySem.W.keepIn K (.ref f1) = true)
    (a2 : PySem.W.nsIn K mainGlobals "linear" = some (some (.ref f2))) (l2 : K.lookup f2 = some ⟨oc2, od2, .func (PySem.W.fnOf "linear" "linear" (defArgs s_linear) (defBody s_linear) (defScope s_linear) .none kV2 dc2 pm2 an2 cd2 ct2), sl2⟩) (c2 : PySem.W.codeIn K cd2 "linear" = true) (k2 : PySem.W.keepIn K (.ref f2) = true)
    (a3 : PySem.W.nsIn K mainGlobals "triangular" = some (some (.ref f3))) (l3 : K.lookup f3 = some ⟨oc3, od3, .func (PySem.W.fnOf "triangular" "triangular" (defArgs s_triangular) (defBody s_triangular) (defScope s_triangular) .none kV3 dc3 pm3 an3 cd3 ct3), sl3⟩) (c3 : PySem.W.codeIn K cd3 "triangular" = true) (k3 : PySem.W.keepIn K (.ref f3) = true)
    (a4 : PySem.W.nsIn K mainGlobals "is_power_of_two" = some (some (.ref f4))) (l4 : K.lookup f4 = some ⟨oc4, od4, .func (PySem.W.fnOf "is_power_of_two" "is_power_of_two" (defArgs s_is_power_of_two) (defBody s_is_power_of_two) (defScope s_is_power_of_two) .none kV4 dc4 pm4 an4 cd4 ct4), sl4⟩) (c4 : PySem.W.codeIn K cd4 "is_power_of_two" = true) (k4 : PySem.W.keepIn K (.ref f4) = true)
    (a5 : PySem.W.nsIn K mainGlobals "is_word" = some (some (.ref f5))) (l5 : K.lookup f5 = some ⟨oc5, od5, .func (PySem.W.fnOf "is_word" "is_word" (defArgs s_is_word) (defBody s_is_word) (defScope s_is_word) .none kV5 dc5 pm5 an5 cd5 ct5), sl5⟩) (c5 : PySem.W.codeIn K cd5 "is_word" = true) (k5 : PySem.W.keepIn K (.ref f5) = true)
    (a6 : PySem.W.nsIn K mainGlobals "require_name" = some (some (.ref f6))) (l6 : K.lookup f6 = some ⟨oc6, od6, .func (PySem.W.fnOf "require_name" "require_name" (defArgs s_require_name) (defBody s_require_name) (defScope s_require_name) .none kV6 dc6 pm6 an6 cd6 ct6), sl6⟩) (c6 : PySem.W.codeIn K cd6 "require_name" = true) (k6 : PySem.W.keepIn K (.ref f6) = true)
    (a7 : PySem.W.nsIn K mainGlobals "require_count" = some (some (.ref f7))) (l7 : K.lookup f7 = some ⟨oc7, od7, .func (PySem.W.fnOf "require_count" "require_count" (defArgs s_require_count) (defBody s_require_count) (defScope s_require_count) .none kV7 dc7 pm7 an7 cd7 ct7), sl7⟩) (c7 : PySem.W.codeIn K cd7 "require_count" = true) (k7 : PySem.W.keepIn K (.ref f7) = true)
    (a8 : PySem.W.nsIn K mainGlobals "home_of" = some (some (.ref f8))) (l8 : K.lookup f8 = some ⟨oc8, od8, .func (PySem.W.fnOf "home_of" "home_of" (defArgs s_home_of) (defBody s_home_of) (defScope s_home_of) .none kV8 dc8 pm8 an8 cd8 ct8), sl8⟩) (c8 : PySem.W.codeIn K cd8 "home_of" = true) (k8 : PySem.W.keepIn K (.ref f8) = true)
    {kdI : Addr} (a9 : PySem.W.findIn K (.ref C) "__init__" = some (some (.ref f9))) (i9 : PySem.W.isFn K (.ref f9) = true) (l9 : K.lookup f9 = some ⟨oc9, od9, .func (PySem.W.fnOf "__init__" "Table.__init__" (defArgs s_Table___init__) (defBody s_Table___init__) (defScope s_Table___init__) .none (.ref kdI) dc9 pm9 an9 cd9 ct9), sl9⟩) (c9 : PySem.W.codeIn K cd9 "Table.__init__" = true) (k9 : PySem.W.keepIn K (.ref f9) = true)
    {tk_way : Tok} (kw_way : PySem.W.nsIn K kdI "way" = some (some (.str "linear" tk_way)))
    {tk_rule : Tok} (kw_rule : PySem.W.nsIn K kdI "rule" = some (some (.str "names" tk_rule)))
    (a10 : PySem.W.findIn K (.ref C) "put" = some (some (.ref f10))) (i10 : PySem.W.isFn K (.ref f10) = true) (l10 : K.lookup f10 = some ⟨oc10, od10, .func (PySem.W.fnOf "put" "Table.put" (defArgs s_Table_put) (defBody s_Table_put) (defScope s_Table_put) .none kV10 dc10 pm10 an10 cd10 ct10), sl10⟩) (c10 : PySem.W.codeIn K cd10 "Table.put" = true) (k10 : PySem.W.keepIn K (.ref f10) = true)
    (a11 : PySem.W.findIn K (.ref C) "value_of" = some (some (.ref f11))) (i11 : PySem.W.isFn K (.ref f11) = true) (l11 : K.lookup f11 = some ⟨oc11, od11, .func (PySem.W.fnOf "value_of" "Table.value_of" (defArgs s_Table_value_of) (defBody s_Table_value_of) (defScope s_Table_value_of) .none kV11 dc11 pm11 an11 cd11 ct11), sl11⟩) (c11 : PySem.W.codeIn K cd11 "Table.value_of" = true) (k11 : PySem.W.keepIn K (.ref f11) = true)
    (a12 : PySem.W.findIn K (.ref C) "take_out" = some (some (.ref f12))) (i12 : PySem.W.isFn K (.ref f12) = true) (l12 : K.lookup f12 = some ⟨oc12, od12, .func (PySem.W.fnOf "take_out" "Table.take_out" (defArgs s_Table_take_out) (defBody s_Table_take_out) (defScope s_Table_take_out) .none kV12 dc12 pm12 an12 cd12 ct12), sl12⟩) (c12 : PySem.W.codeIn K cd12 "Table.take_out" = true) (k12 : PySem.W.keepIn K (.ref f12) = true)
    (a13 : PySem.W.findIn K (.ref C) "look_up" = some (some (.ref f13))) (i13 : PySem.W.isFn K (.ref f13) = true) (l13 : K.lookup f13 = some ⟨oc13, od13, .func (PySem.W.fnOf "look_up" "Table.look_up" (defArgs s_Table_look_up) (defBody s_Table_look_up) (defScope s_Table_look_up) .none kV13 dc13 pm13 an13 cd13 ct13), sl13⟩) (c13 : PySem.W.codeIn K cd13 "Table.look_up" = true) (k13 : PySem.W.keepIn K (.ref f13) = true)
    (a14 : PySem.W.findIn K (.ref C) "names" = some (some (.ref f14))) (i14 : PySem.W.isFn K (.ref f14) = true) (l14 : K.lookup f14 = some ⟨oc14, od14, .func (PySem.W.fnOf "names" "Table.names" (defArgs s_Table_names) (defBody s_Table_names) (defScope s_Table_names) .none kV14 dc14 pm14 an14 cd14 ct14), sl14⟩) (c14 : PySem.W.codeIn K cd14 "Table.names" = true) (k14 : PySem.W.keepIn K (.ref f14) = true)
    (a15 : PySem.W.findIn K (.ref C) "layout" = some (some (.ref f15))) (i15 : PySem.W.isFn K (.ref f15) = true) (l15 : K.lookup f15 = some ⟨oc15, od15, .func (PySem.W.fnOf "layout" "Table.layout" (defArgs s_Table_layout) (defBody s_Table_layout) (defScope s_Table_layout) .none kV15 dc15 pm15 an15 cd15 ct15), sl15⟩) (c15 : PySem.W.codeIn K cd15 "Table.layout" = true) (k15 : PySem.W.keepIn K (.ref f15) = true)
    (a16 : PySem.W.findIn K (.ref C) "__len__" = some (some (.ref f16))) (i16 : PySem.W.isFn K (.ref f16) = true) (l16 : K.lookup f16 = some ⟨oc16, od16, .func (PySem.W.fnOf "__len__" "Table.__len__" (defArgs s_Table___len__) (defBody s_Table___len__) (defScope s_Table___len__) .none kV16 dc16 pm16 an16 cd16 ct16), sl16⟩) (c16 : PySem.W.codeIn K cd16 "Table.__len__" = true) (k16 : PySem.W.keepIn K (.ref f16) = true)
    (a17 : PySem.W.findIn K (.ref C) "slots" = some (some (.ref f17))) (i17 : PySem.W.isFn K (.ref f17) = true) (l17 : K.lookup f17 = some ⟨oc17, od17, .func (PySem.W.fnOf "slots" "Table.slots" (defArgs s_Table_slots) (defBody s_Table_slots) (defScope s_Table_slots) .none kV17 dc17 pm17 an17 cd17 ct17), sl17⟩) (c17 : PySem.W.codeIn K cd17 "Table.slots" = true) (k17 : PySem.W.keepIn K (.ref f17) = true)
    (a18 : PySem.W.findIn K (.ref C) "distances" = some (some (.ref f18))) (i18 : PySem.W.isFn K (.ref f18) = true) (l18 : K.lookup f18 = some ⟨oc18, od18, .func (PySem.W.fnOf "distances" "Table.distances" (defArgs s_Table_distances) (defBody s_Table_distances) (defScope s_Table_distances) .none kV18 dc18 pm18 an18 cd18 ct18), sl18⟩) (c18 : PySem.W.codeIn K cd18 "Table.distances" = true) (k18 : PySem.W.keepIn K (.ref f18) = true)
    (a19 : PySem.W.findIn K (.ref C) "grow" = some (some (.ref f19))) (i19 : PySem.W.isFn K (.ref f19) = true) (l19 : K.lookup f19 = some ⟨oc19, od19, .func (PySem.W.fnOf "grow" "Table.grow" (defArgs s_Table_grow) (defBody s_Table_grow) (defScope s_Table_grow) .none kV19 dc19 pm19 an19 cd19 ct19), sl19⟩) (c19 : PySem.W.codeIn K cd19 "Table.grow" = true) (k19 : PySem.W.keepIn K (.ref f19) = true)
    (a20 : PySem.W.findIn K (.ref C) "add_all" = some (some (.ref f20))) (i20 : PySem.W.isFn K (.ref f20) = true) (l20 : K.lookup f20 = some ⟨oc20, od20, .func (PySem.W.fnOf "add_all" "Table.add_all" (defArgs s_Table_add_all) (defBody s_Table_add_all) (defScope s_Table_add_all) .none kV20 dc20 pm20 an20 cd20 ct20), sl20⟩) (c20 : PySem.W.codeIn K cd20 "Table.add_all" = true) (k20 : PySem.W.keepIn K (.ref f20) = true)
    (a21 : PySem.W.findIn K (.ref C) "clone" = some (some (.ref f21))) (i21 : PySem.W.isFn K (.ref f21) = true) (l21 : K.lookup f21 = some ⟨oc21, od21, .func (PySem.W.fnOf "clone" "Table.clone" (defArgs s_Table_clone) (defBody s_Table_clone) (defScope s_Table_clone) .none kV21 dc21 pm21 an21 cd21 ct21), sl21⟩) (c21 : PySem.W.codeIn K cd21 "Table.clone" = true) (k21 : PySem.W.keepIn K (.ref f21) = true)
    (a22 : PySem.W.findIn K (.ref C) "__eq__" = some (some (.ref f22))) (i22 : PySem.W.isFn K (.ref f22) = true) (l22 : K.lookup f22 = some ⟨oc22, od22, .func (PySem.W.fnOf "__eq__" "Table.__eq__" (defArgs s_Table___eq__) (defBody s_Table___eq__) (defScope s_Table___eq__) .none kV22 dc22 pm22 an22 cd22 ct22), sl22⟩) (c22 : PySem.W.codeIn K cd22 "Table.__eq__" = true) (k22 : PySem.W.keepIn K (.ref f22) = true)
    (a23 : PySem.W.findIn K (.ref C) "order_of" = some (some (.ref f23))) (i23 : PySem.W.isFn K (.ref f23) = true) (l23 : K.lookup f23 = some ⟨oc23, od23, .func (PySem.W.fnOf "order_of" "Table.order_of" (defArgs s_Table_order_of) (defBody s_Table_order_of) (defScope s_Table_order_of) .none kV23 dc23 pm23 an23 cd23 ct23), sl23⟩) (c23 : PySem.W.codeIn K cd23 "Table.order_of" = true) (k23 : PySem.W.keepIn K (.ref f23) = true)
    (a24 : PySem.W.findIn K (.ref C) "distance" = some (some (.ref f24))) (i24 : PySem.W.isFn K (.ref f24) = true) (l24 : K.lookup f24 = some ⟨oc24, od24, .func (PySem.W.fnOf "distance" "Table.distance" (defArgs s_Table_distance) (defBody s_Table_distance) (defScope s_Table_distance) .none kV24 dc24 pm24 an24 cd24 ct24), sl24⟩) (c24 : PySem.W.codeIn K cd24 "Table.distance" = true) (k24 : PySem.W.keepIn K (.ref f24) = true)
    (a25 : PySem.W.findIn K (.ref C) "beats" = some (some (.ref f25))) (i25 : PySem.W.isFn K (.ref f25) = true) (l25 : K.lookup f25 = some ⟨oc25, od25, .func (PySem.W.fnOf "beats" "Table.beats" (defArgs s_Table_beats) (defBody s_Table_beats) (defScope s_Table_beats) .none kV25 dc25 pm25 an25 cd25 ct25), sl25⟩) (c25 : PySem.W.codeIn K cd25 "Table.beats" = true) (k25 : PySem.W.keepIn K (.ref f25) = true)
    (a26 : PySem.W.findIn K (.ref C) "settle" = some (some (.ref f26))) (i26 : PySem.W.isFn K (.ref f26) = true) (l26 : K.lookup f26 = some ⟨oc26, od26, .func (PySem.W.fnOf "settle" "Table.settle" (defArgs s_Table_settle) (defBody s_Table_settle) (defScope s_Table_settle) .none kV26 dc26 pm26 an26 cd26 ct26), sl26⟩) (c26 : PySem.W.codeIn K cd26 "Table.settle" = true) (k26 : PySem.W.keepIn K (.ref f26) = true)
    (a27 : PySem.W.findIn K (.ref C) "settle_all" = some (some (.ref f27))) (i27 : PySem.W.isFn K (.ref f27) = true) (l27 : K.lookup f27 = some ⟨oc27, od27, .func (PySem.W.fnOf "settle_all" "Table.settle_all" (defArgs s_Table_settle_all) (defBody s_Table_settle_all) (defScope s_Table_settle_all) .none kV27 dc27 pm27 an27 cd27 ct27), sl27⟩) (c27 : PySem.W.codeIn K cd27 "Table.settle_all" = true) (k27 : PySem.W.keepIn K (.ref f27) = true)
    (a28 : PySem.W.nsIn K mainGlobals "_law_pot_of" = some (some (.ref f28))) (l28 : K.lookup f28 = some ⟨oc28, od28, .func (PySem.W.fnOf "_law_pot_of" "_law_pot_of" (defArgs s__law_pot_of) (defBody s__law_pot_of) (defScope s__law_pot_of) .none kV28 dc28 pm28 an28 cd28 ct28), sl28⟩) (c28 : PySem.W.codeIn K cd28 "_law_pot_of" = true) (k28 : PySem.W.keepIn K (.ref f28) = true)
    (a29 : PySem.W.nsIn K mainGlobals "_law_take" = some (some (.ref f29))) (l29 : K.lookup f29 = some ⟨oc29, od29, .func (PySem.W.fnOf "_law_take" "_law_take" (defArgs s__law_take) (defBody s__law_take) (defScope s__law_take) .none kV29 dc29 pm29 an29 cd29 ct29), sl29⟩) (c29 : PySem.W.codeIn K cd29 "_law_take" = true) (k29 : PySem.W.keepIn K (.ref f29) = true)
    (a30 : PySem.W.nsIn K mainGlobals "_law_of" = some (some (.ref f30))) (l30 : K.lookup f30 = some ⟨oc30, od30, .func (PySem.W.fnOf "_law_of" "_law_of" (defArgs s__law_of) (defBody s__law_of) (defScope s__law_of) .none kV30 dc30 pm30 an30 cd30 ct30), sl30⟩) (c30 : PySem.W.codeIn K cd30 "_law_of" = true) (k30 : PySem.W.keepIn K (.ref f30) = true)
    (a31 : PySem.W.nsIn K mainGlobals "_law_drawn_kind" = some (some (.ref f31))) (l31 : K.lookup f31 = some ⟨oc31, od31, .func (PySem.W.fnOf "_law_drawn_kind" "_law_drawn_kind" (defArgs s__law_drawn_kind) (defBody s__law_drawn_kind) (defScope s__law_drawn_kind) .none kV31 dc31 pm31 an31 cd31 ct31), sl31⟩) (c31 : PySem.W.codeIn K cd31 "_law_drawn_kind" = true) (k31 : PySem.W.keepIn K (.ref f31) = true)
    (a32 : PySem.W.nsIn K mainGlobals "_law_drawn_name" = some (some (.ref f32))) (l32 : K.lookup f32 = some ⟨oc32, od32, .func (PySem.W.fnOf "_law_drawn_name" "_law_drawn_name" (defArgs s__law_drawn_name) (defBody s__law_drawn_name) (defScope s__law_drawn_name) .none kV32 dc32 pm32 an32 cd32 ct32), sl32⟩) (c32 : PySem.W.codeIn K cd32 "_law_drawn_name" = true) (k32 : PySem.W.keepIn K (.ref f32) = true)
    (a33 : PySem.W.nsIn K mainGlobals "_law_drawn_value" = some (some (.ref f33))) (l33 : K.lookup f33 = some ⟨oc33, od33, .func (PySem.W.fnOf "_law_drawn_value" "_law_drawn_value" (defArgs s__law_drawn_value) (defBody s__law_drawn_value) (defScope s__law_drawn_value) .none kV33 dc33 pm33 an33 cd33 ct33), sl33⟩) (c33 : PySem.W.codeIn K cd33 "_law_drawn_value" = true) (k33 : PySem.W.keepIn K (.ref f33) = true)
    (a34 : PySem.W.nsIn K mainGlobals "_law_shuffled" = some (some (.ref f34))) (l34 : K.lookup f34 = some ⟨oc34, od34, .func (PySem.W.fnOf "_law_shuffled" "_law_shuffled" (defArgs s__law_shuffled) (defBody s__law_shuffled) (defScope s__law_shuffled) .none kV34 dc34 pm34 an34 cd34 ct34), sl34⟩) (c34 : PySem.W.codeIn K cd34 "_law_shuffled" = true) (k34 : PySem.W.keepIn K (.ref f34) = true)
    (a35 : PySem.W.nsIn K mainGlobals "_law_by_detours" = some (some (.ref f35))) (l35 : K.lookup f35 = some ⟨oc35, od35, .func (PySem.W.fnOf "_law_by_detours" "_law_by_detours" (defArgs s__law_by_detours) (defBody s__law_by_detours) (defScope s__law_by_detours) .none kV35 dc35 pm35 an35 cd35 ct35), sl35⟩) (c35 : PySem.W.codeIn K cd35 "_law_by_detours" = true) (k35 : PySem.W.keepIn K (.ref f35) = true)
    (a36 : PySem.W.nsIn K mainGlobals "_law_by_growing" = some (some (.ref f36))) (l36 : K.lookup f36 = some ⟨oc36, od36, .func (PySem.W.fnOf "_law_by_growing" "_law_by_growing" (defArgs s__law_by_growing) (defBody s__law_by_growing) (defScope s__law_by_growing) .none kV36 dc36 pm36 an36 cd36 ct36), sl36⟩) (c36 : PySem.W.codeIn K cd36 "_law_by_growing" = true) (k36 : PySem.W.keepIn K (.ref f36) = true)
    (a37 : PySem.W.nsIn K mainGlobals "_law_by_joining" = some (some (.ref f37))) (l37 : K.lookup f37 = some ⟨oc37, od37, .func (PySem.W.fnOf "_law_by_joining" "_law_by_joining" (defArgs s__law_by_joining) (defBody s__law_by_joining) (defScope s__law_by_joining) .none kV37 dc37 pm37 an37 cd37 ct37), sl37⟩) (c37 : PySem.W.codeIn K cd37 "_law_by_joining" = true) (k37 : PySem.W.keepIn K (.ref f37) = true)
    (a38 : PySem.W.nsIn K mainGlobals "_law_are_alike" = some (some (.ref f38))) (l38 : K.lookup f38 = some ⟨oc38, od38, .func (PySem.W.fnOf "_law_are_alike" "_law_are_alike" (defArgs s__law_are_alike) (defBody s__law_are_alike) (defScope s__law_are_alike) .none kV38 dc38 pm38 an38 cd38 ct38), sl38⟩) (c38 : PySem.W.codeIn K cd38 "_law_are_alike" = true) (k38 : PySem.W.keepIn K (.ref f38) = true)
    (a39 : PySem.W.nsIn K mainGlobals "_law_right" = some (some (.ref f39))) (l39 : K.lookup f39 = some ⟨oc39, od39, .func (PySem.W.fnOf "_law_right" "_law_right" (defArgs s__law_right) (defBody s__law_right) (defScope s__law_right) .none kV39 dc39 pm39 an39 cd39 ct39), sl39⟩) (c39 : PySem.W.codeIn K cd39 "_law_right" = true) (k39 : PySem.W.keepIn K (.ref f39) = true)
    (a40 : PySem.W.nsIn K mainGlobals "law" = some (some (.ref f40))) (l40 : K.lookup f40 = some ⟨oc40, od40, .func (PySem.W.fnOf "law" "law" (defArgs s_law) (defBody s_law) (defScope s_law) .none kV40 dc40 pm40 an40 cd40 ct40), sl40⟩) (c40 : PySem.W.codeIn K cd40 "law" = true) (k40 : PySem.W.keepIn K (.ref f40) = true)
    {tm_LETTERS : Tok} (y_LETTERS : PySem.W.nsIn K mainGlobals "LETTERS" = some (some (.str "abcdefghijklmnopqrstuvwxyz" tm_LETTERS)))
    {tm_MOST_LETTERS : Tok} (y_MOST_LETTERS : PySem.W.nsIn K mainGlobals "MOST_LETTERS" = some (some (.int (8) tm_MOST_LETTERS)))
    {tm_MOST_SLOTS : Tok} (y_MOST_SLOTS : PySem.W.nsIn K mainGlobals "MOST_SLOTS" = some (some (.int (64) tm_MOST_SLOTS)))
    {tm_NO_NAME : Tok} (y_NO_NAME : PySem.W.nsIn K mainGlobals "NO_NAME" = some (some (.str "" tm_NO_NAME)))
    {tm_NO_SLOT : Tok} (y_NO_SLOT : PySem.W.nsIn K mainGlobals "NO_SLOT" = some (some (.int (-1) tm_NO_SLOT)))
    (z_abs : PySem.W.nsIn K mainGlobals "abs" = some none)
    (z_all : PySem.W.nsIn K mainGlobals "all" = some none)
    (z_bool : PySem.W.nsIn K mainGlobals "bool" = some none)
    (z_enumerate : PySem.W.nsIn K mainGlobals "enumerate" = some none)
    (z_int : PySem.W.nsIn K mainGlobals "int" = some none)
    (z_isinstance : PySem.W.nsIn K mainGlobals "isinstance" = some none)
    (z_len : PySem.W.nsIn K mainGlobals "len" = some none)
    (z_list : PySem.W.nsIn K mainGlobals "list" = some none)
    (z_max : PySem.W.nsIn K mainGlobals "max" = some none)
    (z_min : PySem.W.nsIn K mainGlobals "min" = some none)
    (z_range : PySem.W.nsIn K mainGlobals "range" = some none)
    (z_set : PySem.W.nsIn K mainGlobals "set" = some none)
    (z_sorted : PySem.W.nsIn K mainGlobals "sorted" = some none)
    (z_str : PySem.W.nsIn K mainGlobals "str" = some none)
    (z_tuple : PySem.W.nsIn K mainGlobals "tuple" = some none)
    :
    ∃ fd : FuncData, (∀ (s : Shared) (v : Value), BindsTo s fd ⟨[v], []⟩ [("_law_script", v)]) ∧
      ∀ base : Heap, K.In base → base.Ns mainGlobals mg → FnG l.prog w K mg base 12 fa fd ["_law_script"] (spD [] K 1 g_law) := by
  have e := hfa.symm.trans (PySem.W.mg_of X G a40)
  cases e
  have F1 := fun_mk (st := s_is_integer_within) l1 c1 k1
  have b1 := F1.binds (ps := ["value", "low", "high"]) fun _ _ _ _ _ _ us hl => match us, hl with | [_, _, _], _ => rfl
  have F2 := fun_mk (st := s_linear) l2 c2 k2
  have b2 := F2.binds (ps := ["count", "home"]) fun _ _ _ _ _ _ us hl => match us, hl with | [_, _], _ => rfl
  have F3 := fun_mk (st := s_triangular) l3 c3 k3
  have b3 := F3.binds (ps := ["count", "home"]) fun _ _ _ _ _ _ us hl => match us, hl with | [_, _], _ => rfl
  have F4 := fun_mk (st := s_is_power_of_two) l4 c4 k4
  have b4 := F4.binds (ps := ["number"]) fun _ _ _ _ _ _ us hl => match us, hl with | [_], _ => rfl
  have F5 := fun_mk (st := s_is_word) l5 c5 k5
  have b5 := F5.binds (ps := ["value", "least"]) fun _ _ _ _ _ _ us hl => match us, hl with | [_, _], _ => rfl
  have F6 := fun_mk (st := s_require_name) l6 c6 k6
  have b6 := F6.binds (ps := ["value"]) fun _ _ _ _ _ _ us hl => match us, hl with | [_], _ => rfl
  have F7 := fun_mk (st := s_require_count) l7 c7 k7
  have b7 := F7.binds (ps := ["value", "way"]) fun _ _ _ _ _ _ us hl => match us, hl with | [_, _], _ => rfl
  have F8 := fun_mk (st := s_home_of) l8 c8 k8
  have b8 := F8.binds (ps := ["name", "count"]) fun _ _ _ _ _ _ us hl => match us, hl with | [_, _], _ => rfl
  have F9 := fun_mk (st := s_Table___init__) l9 c9 k9
  have FD : FunD K "__init__" "Table.__init__" (defArgs s_Table___init__) (defBody s_Table___init__) (defScope s_Table___init__) [] [("way", V.str "linear"), ("rule", V.str "names")] f9 _ := ⟨⟨oc9, od9, .none, .ref kdI, dc9, pm9, an9, cd9, ct9, sl9, rfl, l9, c9, .inl ⟨rfl, rfl⟩, .inr ⟨kdI, rfl, fun q hq => by
      simp only [List.mem_cons, List.not_mem_nil, or_false] at hq
      rcases hq with rfl | rfl
      · exact ⟨_, kw_way, ⟨_, rfl⟩⟩
      · exact ⟨_, kw_rule, ⟨_, rfl⟩⟩⟩⟩, k9⟩
  have kk_kb1_way_rule : KB_kb1_way_rule K _ := kb_ix FD 2 ["way", "rule"] [] [0, 1, 2, 3] (by simp) (by intro q hq; first | (simp at hq; done) | (simp at hq ⊢; first | exact hq | (rcases hq with rfl | rfl <;> simp) | (subst hq; simp))) fun D doc pm an cdv ct us mv ws e1 e2 e3 => match us, mv, ws, e1, e2, e3 with | [u0, u1], [], [w0, w1], _, _, _ => rfl
  have F10 := fun_mk (st := s_Table_put) l10 c10 k10
  have b10 := F10.binds (ps := ["self", "name", "value"]) fun _ _ _ _ _ _ us hl => match us, hl with | [_, _, _], _ => rfl
  have F11 := fun_mk (st := s_Table_value_of) l11 c11 k11
  have b11 := F11.binds (ps := ["self", "name"]) fun _ _ _ _ _ _ us hl => match us, hl with | [_, _], _ => rfl
  have F12 := fun_mk (st := s_Table_take_out) l12 c12 k12
  have b12 := F12.binds (ps := ["self", "name"]) fun _ _ _ _ _ _ us hl => match us, hl with | [_, _], _ => rfl
  have F13 := fun_mk (st := s_Table_look_up) l13 c13 k13
  have b13 := F13.binds (ps := ["self", "name"]) fun _ _ _ _ _ _ us hl => match us, hl with | [_, _], _ => rfl
  have F14 := fun_mk (st := s_Table_names) l14 c14 k14
  have b14 := F14.binds (ps := ["self"]) fun _ _ _ _ _ _ us hl => match us, hl with | [_], _ => rfl
  have F15 := fun_mk (st := s_Table_layout) l15 c15 k15
  have b15 := F15.binds (ps := ["self"]) fun _ _ _ _ _ _ us hl => match us, hl with | [_], _ => rfl
  have F16 := fun_mk (st := s_Table___len__) l16 c16 k16
  have b16 := F16.binds (ps := ["self"]) fun _ _ _ _ _ _ us hl => match us, hl with | [_], _ => rfl
  have F17 := fun_mk (st := s_Table_slots) l17 c17 k17
  have b17 := F17.binds (ps := ["self"]) fun _ _ _ _ _ _ us hl => match us, hl with | [_], _ => rfl
  have F18 := fun_mk (st := s_Table_distances) l18 c18 k18
  have b18 := F18.binds (ps := ["self"]) fun _ _ _ _ _ _ us hl => match us, hl with | [_], _ => rfl
  have F19 := fun_mk (st := s_Table_grow) l19 c19 k19
  have b19 := F19.binds (ps := ["self", "count"]) fun _ _ _ _ _ _ us hl => match us, hl with | [_, _], _ => rfl
  have F20 := fun_mk (st := s_Table_add_all) l20 c20 k20
  have b20 := F20.binds (ps := ["self", "other"]) fun _ _ _ _ _ _ us hl => match us, hl with | [_, _], _ => rfl
  have F21 := fun_mk (st := s_Table_clone) l21 c21 k21
  have b21 := F21.binds (ps := ["self"]) fun _ _ _ _ _ _ us hl => match us, hl with | [_], _ => rfl
  have F22 := fun_mk (st := s_Table___eq__) l22 c22 k22
  have b22 := F22.binds (ps := ["self", "other"]) fun _ _ _ _ _ _ us hl => match us, hl with | [_, _], _ => rfl
  have F23 := fun_mk (st := s_Table_order_of) l23 c23 k23
  have b23 := F23.binds (ps := ["self", "name"]) fun _ _ _ _ _ _ us hl => match us, hl with | [_, _], _ => rfl
  have F24 := fun_mk (st := s_Table_distance) l24 c24 k24
  have b24 := F24.binds (ps := ["self", "name", "slot"]) fun _ _ _ _ _ _ us hl => match us, hl with | [_, _, _], _ => rfl
  have F25 := fun_mk (st := s_Table_beats) l25 c25 k25
  have b25 := F25.binds (ps := ["self", "one", "other", "slot"]) fun _ _ _ _ _ _ us hl => match us, hl with | [_, _, _, _], _ => rfl
  have F26 := fun_mk (st := s_Table_settle) l26 c26 k26
  have b26 := F26.binds (ps := ["self", "name"]) fun _ _ _ _ _ _ us hl => match us, hl with | [_, _], _ => rfl
  have F27 := fun_mk (st := s_Table_settle_all) l27 c27 k27
  have b27 := F27.binds (ps := ["self"]) fun _ _ _ _ _ _ us hl => match us, hl with | [_], _ => rfl
  have F28 := fun_mk (st := s__law_pot_of) l28 c28 k28
  have b28 := F28.binds (ps := ["_law_script", "_law_k"]) fun _ _ _ _ _ _ us hl => match us, hl with | [_, _], _ => rfl
  have F29 := fun_mk (st := s__law_take) l29 c29 k29
  have b29 := F29.binds (ps := ["_law_pot", "_law_upto"]) fun _ _ _ _ _ _ us hl => match us, hl with | [_, _], _ => rfl
  have F30 := fun_mk (st := s__law_of) l30 c30 k30
  have b30 := F30.binds (ps := ["_law_pot", "_law_some"]) fun _ _ _ _ _ _ us hl => match us, hl with | [_, _], _ => rfl
  have F31 := fun_mk (st := s__law_drawn_kind) l31 c31 k31
  have b31 := F31.binds (ps := ["_law_pot"]) fun _ _ _ _ _ _ us hl => match us, hl with | [_], _ => rfl
  have F32 := fun_mk (st := s__law_drawn_name) l32 c32 k32
  have b32 := F32.binds (ps := ["_law_pot"]) fun _ _ _ _ _ _ us hl => match us, hl with | [_], _ => rfl
  have F33 := fun_mk (st := s__law_drawn_value) l33 c33 k33
  have b33 := F33.binds (ps := ["_law_pot"]) fun _ _ _ _ _ _ us hl => match us, hl with | [_], _ => rfl
  have F34 := fun_mk (st := s__law_shuffled) l34 c34 k34
  have b34 := F34.binds (ps := ["_law_pot", "_law_some"]) fun _ _ _ _ _ _ us hl => match us, hl with | [_, _], _ => rfl
  have F35 := fun_mk (st := s__law_by_detours) l35 c35 k35
  have b35 := F35.binds (ps := ["_law_pot", "_law_known", "_law_count", "_law_kind"]) fun _ _ _ _ _ _ us hl => match us, hl with | [_, _, _, _], _ => rfl
  have F36 := fun_mk (st := s__law_by_growing) l36 c36 k36
  have b36 := F36.binds (ps := ["_law_pot", "_law_known", "_law_count", "_law_kind"]) fun _ _ _ _ _ _ us hl => match us, hl with | [_, _, _, _], _ => rfl
  have F37 := fun_mk (st := s__law_by_joining) l37 c37 k37
  have b37 := F37.binds (ps := ["_law_pot", "_law_known", "_law_count", "_law_kind"]) fun _ _ _ _ _ _ us hl => match us, hl with | [_, _, _, _], _ => rfl
  have F38 := fun_mk (st := s__law_are_alike) l38 c38 k38
  have b38 := F38.binds (ps := ["_law_pot", "_law_tables", "_law_known"]) fun _ _ _ _ _ _ us hl => match us, hl with | [_, _, _], _ => rfl
  have F39 := fun_mk (st := s__law_right) l39 c39 k39
  have b39 := F39.binds (ps := ["_law_pot"]) fun _ _ _ _ _ _ us hl => match us, hl with | [_], _ => rfl
  have F40 := fun_mk (st := s_law) l40 c40 k40
  have b40 := F40.binds (ps := ["_law_script"]) fun _ _ _ _ _ _ us hl => match us, hl with | [_], _ => rfl
  refine ⟨_, fun s v => F40.bindsK fun _ _ _ _ _ _ => rfl, fun base _ _ => ?_⟩
  have D : Defs K mg base [] C := ⟨PySem.W.mg_of X G aC,
    ⟨pgC, hdC, poC, saC⟩,
    naC_count,
    naC_way,
    naC_rule,
    naC_contents,
    naC_entries,
    isC_mk ⟨pgC, hdC, poC, saC⟩ tyC haC obC neC,
    ⟨_, _, F1, b1, PySem.W.mg_of X G a1⟩,
    ⟨_, _, F2, b2, PySem.W.mg_of X G a2⟩,
    ⟨_, _, F3, b3, PySem.W.mg_of X G a3⟩,
    ⟨_, _, F4, b4, PySem.W.mg_of X G a4⟩,
    ⟨_, _, F5, b5, PySem.W.mg_of X G a5⟩,
    ⟨_, _, F6, b6, PySem.W.mg_of X G a6⟩,
    ⟨_, _, F7, b7, PySem.W.mg_of X G a7⟩,
    ⟨_, _, F8, b8, PySem.W.mg_of X G a8⟩,
    ⟨_, _, F9, ⟨mkC, a9, i9, kcC⟩, kk_kb1_way_rule⟩,
    ⟨_, _, F10, b10, ⟨a10, i10, k10⟩⟩,
    ⟨_, _, F11, b11, ⟨a11, i11, k11⟩⟩,
    ⟨_, _, F12, b12, ⟨a12, i12, k12⟩⟩,
    ⟨_, _, F13, b13, ⟨a13, i13, k13⟩⟩,
    ⟨_, _, F14, b14, ⟨a14, i14, k14⟩⟩,
    ⟨_, _, F15, b15, ⟨a15, i15, k15⟩⟩,
    ⟨_, _, F16, b16, ⟨a16, i16, k16⟩⟩,
    ⟨_, _, F17, b17, ⟨a17, i17, k17⟩⟩,
    ⟨_, _, F18, b18, ⟨a18, i18, k18⟩⟩,
    ⟨_, _, F19, b19, ⟨a19, i19, k19⟩⟩,
    ⟨_, _, F20, b20, ⟨a20, i20, k20⟩⟩,
    ⟨_, _, F21, b21, ⟨a21, i21, k21⟩⟩,
    ⟨_, _, F22, b22, ⟨a22, i22, k22⟩⟩,
    ⟨_, _, F23, b23, ⟨a23, i23, k23⟩⟩,
    ⟨_, _, F24, b24, ⟨a24, i24, k24⟩⟩,
    ⟨_, _, F25, b25, ⟨a25, i25, k25⟩⟩,
    ⟨_, _, F26, b26, ⟨a26, i26, k26⟩⟩,
    ⟨_, _, F27, b27, ⟨a27, i27, k27⟩⟩,
    ⟨_, _, F28, b28, PySem.W.mg_of X G a28⟩,
    ⟨_, _, F29, b29, PySem.W.mg_of X G a29⟩,
    ⟨_, _, F30, b30, PySem.W.mg_of X G a30⟩,
    ⟨_, _, F31, b31, PySem.W.mg_of X G a31⟩,
    ⟨_, _, F32, b32, PySem.W.mg_of X G a32⟩,
    ⟨_, _, F33, b33, PySem.W.mg_of X G a33⟩,
    ⟨_, _, F34, b34, PySem.W.mg_of X G a34⟩,
    ⟨_, _, F35, b35, PySem.W.mg_of X G a35⟩,
    ⟨_, _, F36, b36, PySem.W.mg_of X G a36⟩,
    ⟨_, _, F37, b37, PySem.W.mg_of X G a37⟩,
    ⟨_, _, F38, b38, PySem.W.mg_of X G a38⟩,
    ⟨_, _, F39, b39, PySem.W.mg_of X G a39⟩,
    ⟨_, _, F40, b40, PySem.W.mg_of X G a40⟩,
    ⟨_, PySem.W.mg_of X G y_LETTERS, _, rfl⟩,
    ⟨_, PySem.W.mg_of X G y_MOST_LETTERS, _, rfl⟩,
    ⟨_, PySem.W.mg_of X G y_MOST_SLOTS, _, rfl⟩,
    ⟨_, PySem.W.mg_of X G y_NO_NAME, _, rfl⟩,
    ⟨_, PySem.W.mg_of X G y_NO_SLOT, _, rfl⟩,
    PySem.W.mg_none_of X G z_abs,
    PySem.W.mg_none_of X G z_all,
    PySem.W.mg_none_of X G z_bool,
    PySem.W.mg_none_of X G z_enumerate,
    PySem.W.mg_none_of X G z_int,
    PySem.W.mg_none_of X G z_isinstance,
    PySem.W.mg_none_of X G z_len,
    PySem.W.mg_none_of X G z_list,
    PySem.W.mg_none_of X G z_max,
    PySem.W.mg_none_of X G z_min,
    PySem.W.mg_none_of X G z_range,
    PySem.W.mg_none_of X G z_set,
    PySem.W.mg_none_of X G z_sorted,
    PySem.W.mg_none_of X G z_str,
    PySem.W.mg_none_of X G z_tuple⟩
  obtain ⟨f, fd, F, b, m, C⟩ := law_ok (P := l.prog) (w := w) D
  have e2 := m.symm.trans (PySem.W.mg_of X G a40)
  cases e2
  have e3 := F.one F40
  subst e3
  exact C.fn

end DL.K84
open PySem PySem.W PyProof.Rows
set_option maxHeartbeats 0 in
theorem PySem.Challenge.cw_samelayout_k84_whole_tables_by_unlike_hi_holds : PySem.Challenge.rw_samelayout_k84_whole_tables_by_unlike_hi.Holds := by
  w_on; o_law; k_head; (case hw => w_witness2)
  k_fill
  refine SL.walkG (l := PySem.Challenge.rw_samelayout_k84_whole_tables_by_unlike_hi) (n := 63) (k := 12) (x := "_law_script") (sp := fun K => DL.spD [] K 1 DL.g_law) rfl (by decide) rfl ⟨rfl, by decide, by decide⟩ (fun w h Y => by first | exact PySem.W.km_in_of Y | exact PySem.W.kIn_of Y) ?F (fun K H a ns hl only hS => DL.law_start (cs := []) (fun p hp => by cases hp) (fun p hp => by cases hp) hS fun x hx => ⟨ns, x, rfl, hx, hl, fun _ => rfl⟩)
  case F =>
    intro w mg fa h KX G hmg
    refine' DL.K84.all_mk KX G hmg ?aC ?pgC ?hdC ?poC ?saC ?mkC ?kcC ?naC_count ?naC_way ?naC_rule ?naC_contents ?naC_entries ?tyC ?haC ?obC ?neC ?a1 ?l1 ?c1 ?k1 ?a2 ?l2 ?c2 ?k2 ?a3 ?l3 ?c3 ?k3 ?a4 ?l4 ?c4 ?k4 ?a5 ?l5 ?c5 ?k5 ?a6 ?l6 ?c6 ?k6 ?a7 ?l7 ?c7 ?k7 ?a8 ?l8 ?c8 ?k8 ?a9 ?i9 ?l9 ?c9 ?k9 ?kw_way ?kw_rule ?a10 ?i10 ?l10 ?c10 ?k10 ?a11 ?i11 ?l11 ?c11 ?k11 ?a12 ?i12 ?l12 ?c12 ?k12 ?a13 ?i13 ?l13 ?c13 ?k13 ?a14 ?i14 ?l14 ?c14 ?k14 ?a15 ?i15 ?l15 ?c15 ?k15 ?a16 ?i16 ?l16 ?c16 ?k16 ?a17 ?i17 ?l17 ?c17 ?k17 ?a18 ?i18 ?l18 ?c18 ?k18 ?a19 ?i19 ?l19 ?c19 ?k19 ?a20 ?i20 ?l20 ?c20 ?k20 ?a21 ?i21 ?l21 ?c21 ?k21 ?a22 ?i22 ?l22 ?c22 ?k22 ?a23 ?i23 ?l23 ?c23 ?k23 ?a24 ?i24 ?l24 ?c24 ?k24 ?a25 ?i25 ?l25 ?c25 ?k25 ?a26 ?i26 ?l26 ?c26 ?k26 ?a27 ?i27 ?l27 ?c27 ?k27 ?a28 ?l28 ?c28 ?k28 ?a29 ?l29 ?c29 ?k29 ?a30 ?l30 ?c30 ?k30 ?a31 ?l31 ?c31 ?k31 ?a32 ?l32 ?c32 ?k32 ?a33 ?l33 ?c33 ?k33 ?a34 ?l34 ?c34 ?k34 ?a35 ?l35 ?c35 ?k35 ?a36 ?l36 ?c36 ?k36 ?a37 ?l37 ?c37 ?k37 ?a38 ?l38 ?c38 ?k38 ?a39 ?l39 ?c39 ?k39 ?a40 ?l40 ?c40 ?k40 ?y_LETTERS ?y_MOST_LETTERS ?y_MOST_SLOTS ?y_NO_NAME ?y_NO_SLOT ?z_abs ?z_all ?z_bool ?z_enumerate ?z_int ?z_isinstance ?z_len ?z_list ?z_max ?z_min ?z_range ?z_set ?z_sorted ?z_str ?z_tuple
    (case aC => k_is); (case pgC => k_is); (case hdC => k_is); (case poC => k_is); (case saC => k_is); (case mkC => k_is); (case kcC => k_is)
    (case naC_count => k_is)
    (case naC_way => k_is)
    (case naC_rule => k_is)
    (case naC_contents => k_is)
    (case naC_entries => k_is)
    (case tyC => k_is); (case haC => k_is); (case obC => k_is); (case neC => k_is)
    (case a1 => k_is); (case l1 => k_is); (case c1 => k_is); (case k1 => k_is)
    (case a2 => k_is); (case l2 => k_is); (case c2 => k_is); (case k2 => k_is)
    (case a3 => k_is); (case l3 => k_is); (case c3 => k_is); (case k3 => k_is)
    (case a4 => k_is); (case l4 => k_is); (case c4 => k_is); (case k4 => k_is)
    (case a5 => k_is); (case l5 => k_is); (case c5 => k_is); (case k5 => k_is)
    (case a6 => k_is); (case l6 => k_is); (case c6 => k_is); (case k6 => k_is)
    (case a7 => k_is); (case l7 => k_is); (case c7 => k_is); (case k7 => k_is)
    (case a8 => k_is); (case l8 => k_is); (case c8 => k_is); (case k8 => k_is)
    (case a9 => k_is); (case i9 => k_is); (case l9 => k_is); (case c9 => k_is); (case k9 => k_is); (case kw_way => k_is); (case kw_rule => k_is)
    (case a10 => k_is); (case i10 => k_is); (case l10 => k_is); (case c10 => k_is); (case k10 => k_is)
    (case a11 => k_is); (case i11 => k_is); (case l11 => k_is); (case c11 => k_is); (case k11 => k_is)
    (case a12 => k_is); (case i12 => k_is); (case l12 => k_is); (case c12 => k_is); (case k12 => k_is)
    (case a13 => k_is); (case i13 => k_is); (case l13 => k_is); (case c13 => k_is); (case k13 => k_is)
    (case a14 => k_is); (case i14 => k_is); (case l14 => k_is); (case c14 => k_is); (case k14 => k_is)
    (case a15 => k_is); (case i15 => k_is); (case l15 => k_is); (case c15 => k_is); (case k15 => k_is)
    (case a16 => k_is); (case i16 => k_is); (case l16 => k_is); (case c16 => k_is); (case k16 => k_is)
    (case a17 => k_is); (case i17 => k_is); (case l17 => k_is); (case c17 => k_is); (case k17 => k_is)
    (case a18 => k_is); (case i18 => k_is); (case l18 => k_is); (case c18 => k_is); (case k18 => k_is)
    (case a19 => k_is); (case i19 => k_is); (case l19 => k_is); (case c19 => k_is); (case k19 => k_is)
    (case a20 => k_is); (case i20 => k_is); (case l20 => k_is); (case c20 => k_is); (case k20 => k_is)
    (case a21 => k_is); (case i21 => k_is); (case l21 => k_is); (case c21 => k_is); (case k21 => k_is)
    (case a22 => k_is); (case i22 => k_is); (case l22 => k_is); (case c22 => k_is); (case k22 => k_is)
    (case a23 => k_is); (case i23 => k_is); (case l23 => k_is); (case c23 => k_is); (case k23 => k_is)
    (case a24 => k_is); (case i24 => k_is); (case l24 => k_is); (case c24 => k_is); (case k24 => k_is)
    (case a25 => k_is); (case i25 => k_is); (case l25 => k_is); (case c25 => k_is); (case k25 => k_is)
    (case a26 => k_is); (case i26 => k_is); (case l26 => k_is); (case c26 => k_is); (case k26 => k_is)
    (case a27 => k_is); (case i27 => k_is); (case l27 => k_is); (case c27 => k_is); (case k27 => k_is)
    (case a28 => k_is); (case l28 => k_is); (case c28 => k_is); (case k28 => k_is)
    (case a29 => k_is); (case l29 => k_is); (case c29 => k_is); (case k29 => k_is)
    (case a30 => k_is); (case l30 => k_is); (case c30 => k_is); (case k30 => k_is)
    (case a31 => k_is); (case l31 => k_is); (case c31 => k_is); (case k31 => k_is)
    (case a32 => k_is); (case l32 => k_is); (case c32 => k_is); (case k32 => k_is)
    (case a33 => k_is); (case l33 => k_is); (case c33 => k_is); (case k33 => k_is)
    (case a34 => k_is); (case l34 => k_is); (case c34 => k_is); (case k34 => k_is)
    (case a35 => k_is); (case l35 => k_is); (case c35 => k_is); (case k35 => k_is)
    (case a36 => k_is); (case l36 => k_is); (case c36 => k_is); (case k36 => k_is)
    (case a37 => k_is); (case l37 => k_is); (case c37 => k_is); (case k37 => k_is)
    (case a38 => k_is); (case l38 => k_is); (case c38 => k_is); (case k38 => k_is)
    (case a39 => k_is); (case l39 => k_is); (case c39 => k_is); (case k39 => k_is)
    (case a40 => k_is); (case l40 => k_is); (case c40 => k_is); (case k40 => k_is)
    (case y_LETTERS => k_is)
    (case y_MOST_LETTERS => k_is)
    (case y_MOST_SLOTS => k_is)
    (case y_NO_NAME => k_is)
    (case y_NO_SLOT => k_is)
    (case z_abs => k_is)
    (case z_all => k_is)
    (case z_bool => k_is)
    (case z_enumerate => k_is)
    (case z_int => k_is)
    (case z_isinstance => k_is)
    (case z_len => k_is)
    (case z_list => k_is)
    (case z_max => k_is)
    (case z_min => k_is)
    (case z_range => k_is)
    (case z_set => k_is)
    (case z_sorted => k_is)
    (case z_str => k_is)
    (case z_tuple => k_is)


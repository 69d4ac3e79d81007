import PyProof.Rows.All
import Wide.All
import OpenK.AllK
import Wide.FinOn
import HandS.ForMost
import HandS.ForExc
import HandS.HeadHook2
import HandS.Lambda
import HandS.Style
import HandS.More
import HandS.Deep
import HandS.TupAny
import HandS.NoneIn
import HandS.Wide
import HandS.SortInts
import HandS.Zip
import HandS.Conv
import HandS.Gcd
import HandS.TupSets
import KE.GoesMore
import KE.SortData
import HandS.IsInst
import HandS.EndTab
import HandS.HeadWalk
import HandS.Head0
import HandS.Head1
import HandS.Head2
import HandS.Head3
import HandS.Dict
import HandS.DictComp
import HandS.ExcField
import HandS.ExcIs
import KE.KExcIs
import HandS.TupMul
import HandS.Call
import HandS.ExcInit
import KE.KExcSuper
import KE.KSuper
import KE.DataMinMax
import PyProof.Rows.CallKwBuiltin
import KE.SortKeyHeap
import HandS.ExcValue
import HandS.WideBits
import HandS.TupLe
import KE.GoesZip
import KE.GoesComp
import KE.KeyNested
import PyProof.DictTruth
import KE.KDictKeyed
import PySem.Challenge.RW_surefinds_k22_whole_coherent_bars
set_option Elab.async false
set_option linter.all false
set_option maxRecDepth 100000
set_option maxHeartbeats 4000000
set_option autoImplicit false
/-! DL, part a: data behind values, the state of a body, what an expression comes to. -/
namespace DL
open PySem PySem.Spec L2
open PyProof.Rows hiding St

/-- plain data; the generator of draws; a built-in class; a def of the module -/
inductive D where
  | non | bl (b : Bool) | int (i : Int) | str (x : Str) | lst (xs : List D) | tup (xs : List D) | well | ty (n : String) | fn (x : Str) | rng (lo hi : Int) | hol (a : Addr) | scr (ns : List Int) | con (xs : List D)
  | ob (c : Str) (fs : List Str) (xs : List D) | dci (ks : List Int) (xs : List D) | dct (ks : List (List Int)) (xs : List D)
abbrev Wl := List Int
/-- the generator's address; the code tables that may grow, each with the name that its codes bear -/
structure Bs where
  a : Option Addr
  T : List (Addr × Str)
/-- a lambda handed in: the generator, its address, what was frozen and what stood then -/
structure Lm where
  aw : Bs
  la : Addr
  F1 : Hp
  H1 : Hp
/-- the frozen part of the heap; the code tables that may grow, each with the name that its codes bear; the lambda handed in -/
structure Kt where
  K : PySem.W.Frag
  T : List (Addr × Str)
  L : Option Lm
instance : Coe Kt PySem.W.Frag := ⟨Kt.K⟩

mutual
inductive Dv (K : PySem.W.Frag) (aw : Bs) (F : Hp) : V → D → Prop
  | non : Dv K aw F .non .non
  | bl (b : Bool) : Dv K aw F (.bl b) (.bl b)
  | int (i : Int) : Dv K aw F (.int i) (.int i)
  | str (x : Str) : Dv K aw F (.str x) (.str x)
  | well {a : Addr} : aw.a = some a → Dv K aw F (.ref a) .well
  | ty (n : String) : Dv K aw F (.ty n) (.ty n)
  | fn (x : Str) : Dv K aw F (.ref (He.ga K x)) (.fn x)
  | rng {a : Addr} {lo hi : Int} : F a = some (.rng lo hi) → Dv K aw F (.ref a) (.rng lo hi)
  | hol (a : Addr) : Dv K aw F (.ref a) (.hol a)
  | scr {a : Addr} {ns : List Int} : SqL K F a (ns.map V.int) → Dv K aw F (.ref a) (.scr ns)
  | lst {a : Addr} {vs : List V} {ds : List D} : F a = some (.lst vs) → DvAll K aw F vs ds → Dv K aw F (.ref a) (.lst ds)
  | tup {a : Addr} {vs : List V} {ds : List D} : F a = some (.tup vs) → DvAll K aw F vs ds → Dv K aw F (.ref a) (.tup ds)
  | con {a : Addr} {vs : List V} {ds : List D} : SqT K F a vs → DvAll K aw F vs ds → Dv K aw F (.ref a) (.con ds)
  | ob {a dx : Addr} {c : Str} {fs : List Str} {vs : List V} {ds : List D} : F a = some (.ins (He.ga K c) dx (fs.zip vs)) → fs.length = vs.length → DvAll K aw F vs ds → Dv K aw F (.ref a) (.ob c fs ds)
  | dci {a : Addr} {ks : List Int} {vs : List V} {ds : List D} : F a = some (.dK ((ks.map Sum.inl).zip vs)) → ks.length = vs.length → DvAll K aw F vs ds → Dv K aw F (.ref a) (.dci ks ds)
  | dct {a : Addr} {ks : List (List Int)} {vs : List V} {ds : List D} : F a = some (.dT ((ks.map fun k => k.map Sum.inl).zip vs)) → ks.length = vs.length → DvAll K aw F vs ds → Dv K aw F (.ref a) (.dct ks ds)
inductive DvAll (K : PySem.W.Frag) (aw : Bs) (F : Hp) : List V → List D → Prop
  | nil : DvAll K aw F [] []
  | cons {v : V} {vs : List V} {d : D} {ds : List D} : Dv K aw F v d → DvAll K aw F vs ds → DvAll K aw F (v :: vs) (d :: ds)
end

theorem rd_same {F F' : Hp} (s : Same F F') {a : Addr} {u : HO} (r : Rd F a u) : Rd F' a u := by
  rcases r with r | ⟨o, r⟩
  · exact .inl (s _ _ r)
  · exact .inr ⟨o, s _ _ r⟩
theorem sqL_same {Kf : PySem.W.Frag} {F F' : Hp} (s : Same F F') {a : Addr} {vs : List V} (h : SqL Kf F a vs) : SqL Kf F' a vs := by
  rcases h with r | r
  · exact .inl (rd_same s r)
  · exact .inr r
theorem sqT_same {Kf : PySem.W.Frag} {F F' : Hp} (s : Same F F') {a : Addr} {vs : List V} (h : SqT Kf F a vs) : SqT Kf F' a vs := by
  rcases h with r | r
  · exact .inl (rd_same s r)
  · exact .inr r

section
variable {K : Kt} {Kf : PySem.W.Frag} {aw : Bs} {F F' H H' : Hp}
mutual
theorem Dv.mono (s : Same F F') : ∀ {v : V} {d : D}, Dv Kf aw F v d → Dv Kf aw F' v d
  | _, _, .non => .non
  | _, _, .bl b => .bl b
  | _, _, .int i => .int i
  | _, _, .str x => .str x
  | _, _, .well h => .well h
  | _, _, .ty n => .ty n
  | _, _, .fn x => .fn x
  | _, _, .rng h => .rng (s _ _ h)
  | _, _, .hol a => .hol a
  | _, _, .scr h => .scr (sqL_same s h)
  | _, _, .lst h a => .lst (s _ _ h) (DvAll.mono s a)
  | _, _, .tup h a => .tup (s _ _ h) (DvAll.mono s a)
  | _, _, .con h a => .con (sqT_same s h) (DvAll.mono s a)
  | _, _, .ob h l a => .ob (s _ _ h) l (DvAll.mono s a)
  | _, _, .dci h l a => .dci (s _ _ h) l (DvAll.mono s a)
  | _, _, .dct h l a => .dct (s _ _ h) l (DvAll.mono s a)
theorem DvAll.mono (s : Same F F') : ∀ {vs : List V} {ds : List D}, DvAll Kf aw F vs ds → DvAll Kf aw F' vs ds
  | _, _, .nil => .nil
  | _, _, .cons a b => .cons (Dv.mono s a) (DvAll.mono s b)
end
theorem DvAll.length : ∀ {vs : List V} {ds : List D}, DvAll Kf aw F vs ds → vs.length = ds.length
  | _, _, .nil => rfl
  | _, _, .cons _ b => congrArg (· + 1) (DvAll.length b)
theorem DvAll.get : ∀ {vs : List V} {ds : List D} {i : Nat} {d : D}, DvAll Kf aw F vs ds → ds[i]? = some d → ∃ v, vs[i]? = some v ∧ Dv Kf aw F v d
  | _, _, i, _, .nil, h => by simp at h
  | _, _, 0, _, .cons a _, h => by
    simp at h
    subst h
    exact ⟨_, rfl, a⟩
  | _, _, i + 1, _, .cons _ b, h => by
    obtain ⟨v, e, r⟩ := DvAll.get (i := i) b (by simpa using h)
    exact ⟨v, by simpa using e, r⟩
theorem DvAll.set {v : V} {d : D} (r : Dv Kf aw F v d) : ∀ {vs : List V} {ds : List D} (n : Nat), DvAll Kf aw F vs ds → DvAll Kf aw F (vs.set n v) (ds.set n d)
  | _, _, _, .nil => .nil
  | _, _, 0, .cons _ b => .cons r b
  | _, _, n + 1, .cons a b => .cons a (DvAll.set r n b)
theorem DvAll.one {v : V} {d : D} (h : Dv Kf aw F v d) : DvAll Kf aw F [v] [d] := .cons h .nil
end

/-! ### the state -/
/-- where a body stands: the generator's address, what was frozen at the entry, the heap there -/
structure Fx where
  aw : Bs
  F0 : Hp
  H0 : Hp
/-- what may not be frozen later: the generator, and what is no tuple -/
def Kp (aw : Bs) (H : Hp) (b : Addr) : Prop := (some b = aw.a ∧ H b ≠ none) ∨ ∃ u, H b = some u ∧ (∀ vs, u ≠ .tup vs) ∧ ∀ ps, u ≠ .tbl ps
theorem Kp.of {aw : Bs} {H : Hp} {b : Addr} {u : HO} (h : H b = some u) (h1 : ∀ vs, u ≠ .tup vs := by intro _ z; cases z) (h2 : ∀ ps, u ≠ .tbl ps := by intro _ z; cases z) : Kp aw H b := .inr ⟨u, h, h1, h2⟩
theorem Kp.ne {aw : Bs} {H : Hp} {b : Addr} (h : Kp aw H b) : H b ≠ none := by
  rcases h with ⟨_, h⟩ | ⟨u, h, _⟩
  · exact h
  · rw [h]; exact fun z => nomatch z
/-- from F, H to F', H': frozen things stay, the heap's own stay but the generator, nothing that stood unfrozen is frozen -/
structure Go (aw : Bs) (F H F' H' : Hp) (w : Wl) : Prop where
  ff : Same F F'
  hh : ∀ (b : Addr) (o : HO), some b ≠ aw.a → (∀ ps, o ≠ .tbl ps) → H b = some o → H' b = some o
  ne : ∀ b, H b ≠ none → H' b ≠ none
  tb : LamX.Tabs aw.T H → LamX.Tabs aw.T H'
  sub : Same F' H'
  nt : ∀ (b : Addr) (ps : Array Value), F' b ≠ some (.tbl ps)
  fr : ∀ b, Kp aw H b → F b = none → F' b = none
  wl : ∀ a, aw.a = some a → H' a = some (.lst (w.map V.int))
section
variable {aw : Bs} {p : Addr} {F H F1 H1 F2 H2 : Hp} {w w1 w2 : Wl} {o : HO}
theorem Go.kp (g : Go aw F H F1 H1 w) {b : Addr} (h : Kp aw H b) : Kp aw H1 b := by
  by_cases e : some b = aw.a
  · exact .inl ⟨e, g.ne b h.ne⟩
  · rcases h with ⟨e2, _⟩ | ⟨u, h, h1, h2⟩
    · exact absurd e2 e
    · exact .inr ⟨u, g.hh b u e h2 h, h1, h2⟩
theorem Go.trans (a : Go aw F H F1 H1 w1) (b : Go aw F1 H1 F2 H2 w2) : Go aw F H F2 H2 w2 :=
  ⟨a.ff.trans b.ff, fun c o n k h => b.hh c o n k (a.hh c o n k h), fun c h => b.ne c (a.ne c h), fun h => b.tb (a.tb h), b.sub, b.nt, fun c n h => b.fr c (a.kp n) (a.fr c n h), b.wl⟩
theorem Go.free (g : Go aw F H F1 H1 w) (hp : H1 p = none) : F1 p = none := by
  cases q : F1 p with
  | none => rfl
  | some u =>
    rw [g.sub p u q] at hp
    cases hp
theorem same_upd2 {F : Hp} {p : Addr} {o : HO} (h : F p = none) : Same F (upd F p o) := fun b u e => by
  rw [upd_ne (ne_of_none e h)]
  exact e
theorem ne_upd {H : Hp} {p b : Addr} {o : HO} (n : H b ≠ none) : upd H p o b ≠ none := by
  by_cases e : b = p
  · rw [e, upd_same]
    exact fun z => nomatch z
  · rw [upd_ne e]
    exact n
/-- a new object, frozen -/
theorem Go.new (g : Go aw F H F H w) (hp : H p = none) (o : HO) (ho : ∀ ps, o ≠ .tbl ps := by intro _ z; cases z) : Go aw F H (upd F p o) (upd H p o) w := by
  have fp := g.free hp
  have na : ∀ a, aw.a = some a → a ≠ p := fun a ea e => by
    rw [← e, g.wl a ea] at hp
    cases hp
  refine ⟨same_upd2 fp, fun b u _ _ e => same_upd2 hp b u e, fun b n => ne_upd n, fun t => t.ext fun b u e => same_upd2 hp b u e, fun b u e => ?_, fun b ps e => ?_, fun b n h => ?_, fun a ea => ?_⟩
  · by_cases eb : b = p
    · rw [eb, upd_same] at e
      rw [eb, upd_same]
      exact e
    · rw [upd_ne eb] at e
      rw [upd_ne eb]
      exact g.sub b u e
  · by_cases eb : b = p
    · rw [eb, upd_same] at e
      exact ho ps (Option.some.inj e)
    · rw [upd_ne eb] at e
      exact g.nt b ps e
  · have nb : b ≠ p := fun e => n.ne (by rw [e]; exact hp)
    rw [upd_ne nb]
    exact h
  · rw [upd_ne (na a ea)]
    exact g.wl a ea
/-- what stands new and unfrozen is frozen -/
theorem Go.frozen (g : Go aw F H F1 H1 w) (n : H p = none) (q : H1 p = some o) (hf : F1 p = none) (ho : ∀ ps, o ≠ .tbl ps := by intro _ z; cases z) : Go aw F H (upd F1 p o) H1 w := by
  refine ⟨g.ff.trans (same_upd2 hf), g.hh, g.ne, g.tb, fun b u e => ?_, fun b ps e => ?_, fun b nb h => ?_, g.wl⟩
  · by_cases eb : b = p
    · rw [eb, upd_same] at e
      cases e
      rw [eb]
      exact q
    · rw [upd_ne eb] at e
      exact g.sub b u e
  · by_cases eb : b = p
    · rw [eb, upd_same] at e
      exact ho ps (Option.some.inj e)
    · rw [upd_ne eb] at e
      exact g.nt b ps e
  · have ne : b ≠ p := fun e => nb.ne (by rw [e]; exact n)
    rw [upd_ne ne]
    exact g.fr b nb h
end

/-- a slot: nothing known, data, a list of the body's own, the lambda that was handed in -/
inductive Sl where
  | non
  | dat (d : D)
  | own (ds : List D)
  | hol
  | dic (kvs : List (List Int × D))
/-- a dict's pairs, the keys tuples of ints -/
inductive KVs (K : PySem.W.Frag) (aw : Bs) (F : Hp) : List (List Key × V) → List (List Int × D) → Prop
  | nil : KVs K aw F [] []
  | cons {k : List Int} {v : V} {d : D} {us : List (List Key × V)} {kvs : List (List Int × D)} : Dv K aw F v d → KVs K aw F us kvs → KVs K aw F ((k.map Sum.inl, v) :: us) ((k, d) :: kvs)
theorem KVs.mono {K : PySem.W.Frag} {aw : Bs} {F F' : Hp} (s : Same F F') {us : List (List Key × V)} {kvs : List (List Int × D)} (h : KVs K aw F us kvs) : KVs K aw F' us kvs := by
  induction h with
  | nil => exact .nil
  | cons r _ ih => exact .cons (r.mono s) ih
/-- the body's own dicts -/
def DicOk (K : PySem.W.Frag) (aw : Bs) (H0 : Hp) (en : List Sl) (σ : St) (F H : Hp) : Prop := ∀ (i : Nat) (kvs : List (List Int × D)), en[i]? = some (.dic kvs) →
  (∃ a us, σ[i]? = some (some (.ref a)) ∧ H a = some (.dT us) ∧ H0 a = none ∧ F a = none ∧ KVs K aw F us kvs) ∧ ∀ (j : Nat) (lvs : List (List Int × D)), en[j]? = some (.dic lvs) → σ[j]? = σ[i]? → j = i
structure Ok (K : Kt) (f : Fx) (en : List Sl) (w : Wl) (σ : St) (F H : Hp) : Prop where
  go : Go f.aw f.F0 f.H0 F H w
  base : ∀ a, f.aw.a = some a → f.H0 a ≠ none ∧ f.F0 a = none
  len : σ.length = en.length
  dat : ∀ (i : Nat) (d : D), en[i]? = some (.dat d) → ∃ v, σ[i]? = some (some v) ∧ Dv K f.aw F v d
  own : ∀ (i : Nat) (ds : List D), en[i]? = some (.own ds) → ∃ a vs, σ[i]? = some (some (.ref a)) ∧ H a = some (.lst vs) ∧ f.H0 a = none ∧ F a = none ∧ DvAll K f.aw F vs ds
  tT : f.aw.T = K.T
  tabs : LamX.Tabs f.aw.T H
  hol : ∀ (i : Nat), en[i]? = some .hol → ∃ l, K.L = some l ∧ σ[i]? = some (some (.ref l.la)) ∧ f.aw = l.aw ∧ f.H0 = l.H1 ∧ Go l.aw l.F1 l.H1 F H w
  inj : ∀ (i j : Nat) (ds es : List D) (a : Addr), en[i]? = some (.own ds) → en[j]? = some (.own es) → σ[i]? = some (some (.ref a)) → σ[j]? = some (some (.ref a)) → i = j
  dic : DicOk K f.aw f.H0 en σ F H
section
variable {K : Kt} {Kf : PySem.W.Frag} {f : Fx} {en : List Sl} {w w' : Wl} {σ : St} {F H F' H' : Hp}
end

/-! ### what an expression comes to -/
inductive Res where
  | ok (d : D) (w : Wl)
  | ex (c fn : Str) (a : D) (w : Wl)
  | bad
abbrev EG := List Sl → Wl → Res
/-- an exception of the module's class c with one attribute -/
def Xr (K : PySem.W.Frag) (aw : Bs) (F : Hp) (c fn : Str) (a : D) (cls : Value) (dx : Option Addr) : Prop :=
  ∃ d v, cls = .ref (He.ga K c) ∧ dx = some d ∧ F d = some (.xd [(fn, v)]) ∧ Dv K aw F v a
/-- how much is known of a value: a new unfrozen list; frozen data; data that is readable just now -/
inductive Sg where
  | fr | st | wk
  deriving DecidableEq
def Dq (K : PySem.W.Frag) (aw : Bs) (F H : Hp) (v : V) (d : D) : Prop :=
  Dv K aw F v d ∨ ∃ ds a vs, d = .lst ds ∧ v = .ref a ∧ some a ≠ aw.a ∧ H a = some (.lst vs) ∧ DvAll K aw F vs ds
def Rl (s : Sg) (K : PySem.W.Frag) (aw : Bs) (H F' H' : Hp) (v : V) (d : D) : Prop := match s with
  | .wk => Dq K aw F' H' v d
  | .st => Dv K aw F' v d
  | .fr => ∃ ds a vs, d = .lst ds ∧ v = .ref a ∧ H a = none ∧ H' a = some (.lst vs) ∧ F' a = none ∧ DvAll K aw F' vs ds
def Wn (s : Sg) (K : PySem.W.Frag) (aw : Bs) (F H : Hp) (Q : VK) (E : XK) : Res → Prop
  | .ok d w => ∀ v F' H', Go aw F H F' H' w → Rl s K aw H F' H' v d → Q v H'
  | .ex c fn a w => ∀ cls dx F' H', Go aw F H F' H' w → Xr K aw F' c fn a cls dx → E cls dx H'
  | .bad => False
def ES (K : Kt) (W : WX) (s : Sg) (t : TE) (g : EG) : Prop :=
  ∀ (f : Fx) (en : List Sl) (w : Wl) (σ : St) (F H : Hp) (Q : VK), Ok K f en w σ F H → Wn s K f.aw F H Q (WE W σ) (g en w) → t σ H Q
structure DE (K : Kt) (X : Cx) (W : WX) (s : Sg) (e : Expr) (t : TE) (g : EG) : Prop where
  hK : X.K = K
  pe : PE X e t
  es : ES K W s t g
section
variable {K : Kt} {Kf : PySem.W.Frag} {W : WX} {aw : Bs} {F H F1 H1 F' H' : Hp} {Q R : VK} {E : XK} {w w1 : Wl} {s : Sg} {r : Res} {t ta tb : TE} {g ga gb : EG} {f : Fx} {en : List Sl} {σ : St} {v : V} {d : D} {ds : List D} {vs : List V}
theorem Dq.go (q : Dq Kf aw F H v d) (g : Go aw F H F' H' w) : Dq Kf aw F' H' v d := by
  rcases q with q | ⟨ds, a, vs, e1, e2, n, h, r⟩
  · exact .inl (q.mono g.ff)
  · exact .inr ⟨ds, a, vs, e1, e2, n, g.hh a _ n (fun _ z => nomatch z) h, r.mono g.ff⟩
theorem Wn.go (h : Wn .st Kf aw F H Q E r) (g : Go aw F H F1 H1 w1) : Wn .st Kf aw F1 H1 Q E r := by
  cases r with
  | ok d w => exact fun v F' H' g' r' => h v F' H' (g.trans g') r'
  | ex c fn a w => exact fun cls dx F' H' g' x => h cls dx F' H' (g.trans g') x
  | bad => exact h
theorem Wn.goF (h : Wn .fr Kf aw F H Q E r) (g : Go aw F H F1 H1 w1) : Wn .fr Kf aw F1 H1 Q E r := by
  cases r with
  | ok d w =>
    rintro v F' H' g' ⟨ds, a, vs, e1, e2, n, q, hf, r'⟩
    refine h v F' H' (g.trans g') ⟨ds, a, vs, e1, e2, ?_, q, hf, r'⟩
    cases z : H a with
    | none => rfl
    | some u => exact absurd n (g.ne a (by rw [z]; exact fun y => nomatch y))
  | ex c fn a w => exact fun cls dx F' H' g' x => h cls dx F' H' (g.trans g') x
  | bad => exact h
theorem Wn.goW (h : Wn .wk Kf aw F H Q E r) (g : Go aw F H F1 H1 w1) : Wn .wk Kf aw F1 H1 Q E r := by
  cases r with
  | ok d w => exact fun v F' H' g' r' => h v F' H' (g.trans g') r'
  | ex c fn a w => exact fun cls dx F' H' g' x => h cls dx F' H' (g.trans g') x
  | bad => exact h
theorem Wn.any (h : Wn s Kf aw F H Q E r) (g : Go aw F H F1 H1 w1) : Wn s Kf aw F1 H1 Q E r := by
  cases s with
  | fr => exact h.goF g
  | st => exact h.go g
  | wk => exact h.goW g
/-- a new list is frozen where that is wanted -/
theorem ES.toSt (h : ES K W s t g) (hs : s ≠ .wk) : ES K W .st t g := by
  cases s with
  | wk => exact absurd rfl hs
  | st => exact h
  | fr =>
    intro f en w σ F H Q o hw
    refine h f en w σ F H Q o ?_
    cases q : g en w with
    | bad =>
      rw [q] at hw
      exact hw
    | ex c fn a w1 =>
      rw [q] at hw
      exact hw
    | ok d w1 =>
      rw [q] at hw
      rintro v F' H' g' ⟨ds, a, vs, rfl, rfl, n, q', hf, r'⟩
      exact hw _ (upd F' a (.lst vs)) H' (g'.frozen n q' hf) (.lst upd_same (r'.mono (same_upd2 hf)))
theorem ES.toWk (h : ES K W s t g) : ES K W .wk t g := by
  cases s with
  | wk => exact h
  | st =>
    intro f en w σ F H Q o hw
    refine h f en w σ F H Q o ?_
    cases q : g en w with
    | bad => rw [q] at hw; exact hw
    | ex c fn a w1 => rw [q] at hw; exact hw
    | ok d w1 =>
      rw [q] at hw
      exact fun v F' H' g' r' => hw v F' H' g' (.inl r')
  | fr =>
    have h2 := h.toSt (fun z => nomatch z)
    intro f en w σ F H Q o hw
    refine h2 f en w σ F H Q o ?_
    cases q : g en w with
    | bad => rw [q] at hw; exact hw
    | ex c fn a w1 => rw [q] at hw; exact hw
    | ok d w1 =>
      rw [q] at hw
      exact fun v F' H' g' r' => hw v F' H' g' (.inl r')
/-- the end with a value that is known to be so -/
theorem Wn.val (h : Wn .st Kf aw F H Q E (.ok d w)) (g : Go aw F H F H w) (r : Dv Kf aw F v d) : Q v H := h v F H g r
/-- a list or tuple that is read -/
theorem Dq.seq (q : Dq Kf aw F H v (.lst ds)) (s : Same F H) : ∃ a vs, v = .ref a ∧ H a = some (.lst vs) ∧ DvAll Kf aw F vs ds := by
  rcases q with q | ⟨ds', a, vs, e1, e2, n, h, r⟩
  · cases q with
    | lst h r => exact ⟨_, _, rfl, s _ _ h, r⟩
  · cases e1
    exact ⟨a, vs, e2, h, r⟩
theorem Dq.int {i : Int} (q : Dq Kf aw F H v (.int i)) : v = .int i := by
  rcases q with q | ⟨ds', a, vs, e1, e2, n, h, r⟩
  · cases q; rfl
  · cases e1
theorem Dq.bl {b : Bool} (q : Dq Kf aw F H v (.bl b)) : v = .bl b := by
  rcases q with q | ⟨ds', a, vs, e1, e2, n, h, r⟩
  · cases q; rfl
  · cases e1
theorem Dq.str {x : Str} (q : Dq Kf aw F H v (.str x)) : v = .str x := by
  rcases q with q | ⟨ds', a, vs, e1, e2, n, h, r⟩
  · cases q; rfl
  · cases e1
theorem Dq.non (q : Dq Kf aw F H v .non) : v = .non := by
  rcases q with q | ⟨ds', a, vs, e1, e2, n, h, r⟩
  · cases q; rfl
  · cases e1
theorem Dq.well (q : Dq Kf aw F H v .well) : ∃ a, aw.a = some a ∧ v = .ref a := by
  rcases q with q | ⟨ds', a, vs, e1, e2, n, h, r⟩
  · cases q with
    | well h => exact ⟨_, h, rfl⟩
  · cases e1
theorem Dq.rng {lo hi : Int} (q : Dq Kf aw F H v (.rng lo hi)) : ∃ a, v = .ref a ∧ F a = some (.rng lo hi) := by
  rcases q with q | ⟨ds', a, vs, e1, e2, n, h, r⟩
  · cases q with
    | rng h => exact ⟨_, rfl, h⟩
  · cases e1
theorem Dq.scr {ns : List Int} (q : Dq Kf aw F H v (.scr ns)) (s : Same F H) : ∃ a, v = .ref a ∧ SqL Kf H a (ns.map V.int) := by
  rcases q with q | ⟨ds', a, vs, e1, e2, n, h, r⟩
  · cases q with
    | scr h => exact ⟨_, rfl, sqL_same s h⟩
  · cases e1
theorem Dq.hol {a : Addr} (q : Dq Kf aw F H v (.hol a)) : v = .ref a := by
  rcases q with q | ⟨ds', a, vs, e1, e2, n, h, r⟩
  · cases q; rfl
  · cases e1
theorem Dq.ty {n : String} (q : Dq Kf aw F H v (.ty n)) : v = .ty n := by
  rcases q with q | ⟨ds', a, vs, e1, e2, n, h, r⟩
  · cases q; rfl
  · cases e1
end
end DL

/-! DL, part b: expressions. -/
namespace DL
open PySem PySem.Spec L2
open PyProof.Rows hiding St

/-! ### names and constants -/
section
variable {X : Cx} {W : WX} {K : Kt} {Kf : PySem.W.Frag} {pos : Pos}
end

/-! ### operators -/
/-- an operation on values does what o says -/
def OpS (K : PySem.W.Frag) (s : Sg) (r : R2) (o : D → D → Wl → Res) : Prop :=
  ∀ (aw : Bs) (F H : Hp) (Q : VK) (E : XK) (x y : V) (d e : D) (w : Wl), Go aw F H F H w → Dq K aw F H x d → Dq K aw F H y e → Wn s K aw F H Q E (o d e w) → r x y H Q
section
variable {X : Cx} {W : WX} {K : Kt} {Kf : PySem.W.Frag} {s s1 s2 s3 : Sg} {pos : Pos} {a b c : Expr} {ta tb tc : TE} {ga gb gc : EG} {r r' : R2} {o o' : D → D → Wl → Res}
def oOr (o o' : D → D → Wl → Res) : D → D → Wl → Res := fun d e w => match o d e w with
  | .bad => o' d e w
  | z => z
theorem OpS.or (h : OpS Kf s r o) (h' : OpS Kf s r' o') : OpS Kf s (fun x y H Q => r x y H Q ∨ r' x y H Q) (oOr o o') := by
  intro aw F H Q E x y d e w g rx ry hw
  unfold oOr at hw
  cases q : o d e w with
  | bad =>
    rw [q] at hw
    exact .inr (h' aw F H Q E x y d e w g rx ry hw)
  | ok d' w' =>
    rw [q] at hw
    exact .inl (h aw F H Q E x y d e w g rx ry (by rw [q]; exact hw))
  | ex c fn a w' =>
    rw [q] at hw
    exact .inl (h aw F H Q E x y d e w g rx ry (by rw [q]; exact hw))
instance (i j : Int) : Decidable (CMulW i j) := by unfold CMulW; infer_instance
instance (i j : Int) : Decidable (CDivW i j) := by unfold CDivW; infer_instance
instance (i j : Int) : Decidable (CPow i j) := by unfold CPow; infer_instance
/-! a + b: ints, texts, tuples, lists (frozen); a + b of lists, new -/
theorem OpS.toSt (h : OpS Kf .fr r o) : OpS Kf .st r o := by
  intro aw F H Q E x y d e w g rx ry hw
  refine h aw F H Q E x y d e w g rx ry ?_
  cases q : o d e w with
  | bad =>
    rw [q] at hw
    exact hw
  | ex c fn a w1 =>
    rw [q] at hw
    exact hw
  | ok d1 w1 =>
    rw [q] at hw
    rintro v F' H' g' ⟨ds, a, vs, rfl, rfl, n, q', hf, r'⟩
    exact hw _ (upd F' a (.lst vs)) H' (g'.frozen n q' hf) (.lst upd_same (r'.mono (same_upd2 hf)))
/-! a list times an int -/
/-! -a -/
end
end DL

/-! DL, part c: comparisons, truth, tests. -/
namespace DL
open PySem PySem.Spec L2
open PyProof.Rows hiding St

mutual
def D.toP : D → PyData
  | .non => .none
  | .bl b => .bool b
  | .int i => .int i
  | .str x => .str x
  | .lst xs => .list (toPs xs)
  | .tup xs => .tuple (toPs xs)
  | .con xs => .tuple (toPs xs)
  | .well => .none
  | .ty _ => .none
  | .fn _ => .none
  | .rng _ _ => .none
  | .hol _ => .none
  | .scr _ => .none
  | .ob _ _ _ => .none
  | .dci _ _ => .none
  | .dct _ _ => .none
def toPs : List D → List PyData
  | [] => []
  | d :: ds => d.toP :: toPs ds
end
mutual
def D.isP : D → Bool
  | .non => true
  | .bl _ => true
  | .int _ => true
  | .str _ => true
  | .lst xs => arePs xs
  | .tup xs => arePs xs
  | .con xs => arePs xs
  | .well => false
  | .ty _ => false
  | .fn _ => false
  | .rng _ _ => false
  | .hol _ => false
  | .scr _ => false
  | .ob _ _ _ => false
  | .dci _ _ => false
  | .dct _ _ => false
def arePs : List D → Bool
  | [] => true
  | d :: ds => d.isP && arePs ds
end
section
variable {K : Kt} {Kf : PySem.W.Frag} {aw : Bs} {F H : Hp}
end
def D.eqv (d e : D) : Bool := PyData.eqv d.toP e.toP
section
variable {X : Cx} {W : WX} {K : Kt} {Kf : PySem.W.Frag} {s s1 s2 s3 : Sg} {pos : Pos} {a b c : Expr} {ta tb tc : TE} {ga gb gc : EG} {r r' : R2} {o o' : D → D → Wl → Res} {op op' : CmpOp}
/-! a comparison -/
/-! is -/
/-! in -/
/-! a < b < c -/
end

/-! ### tests -/
def WnB (K : PySem.W.Frag) (aw : Bs) (F H : Hp) (Q : Bool → Hp → Prop) (E : XK) : Res → Prop
  | .ok (.bl b) w => ∀ F' H', Go aw F H F' H' w → Q b H'
  | .ok _ _ => False
  | .ex c fn a w => ∀ cls dx F' H', Go aw F H F' H' w → Xr K aw F' c fn a cls dx → E cls dx H'
  | .bad => False
section
variable {X : Cx} {W : WX} {K : Kt} {Kf : PySem.W.Frag} {s s1 s2 s3 : Sg} {pos : Pos} {a b c : Expr} {ta tb tc : TE} {tA tZ : TT} {ga gb gc : EG} {rest : List Expr} {aw : Bs} {F H F1 H1 : Hp} {QB : Bool → Hp → Prop} {E : XK} {r : Res} {w1 : Wl}
theorem WnB.any (h : WnB Kf aw F H QB E r) (g : Go aw F H F1 H1 w1) : WnB Kf aw F1 H1 QB E r := by
  cases r with
  | ok d w => cases d <;> first
    | exact h.elim
    | exact fun F' H' g' => h F' H' (g.trans g')
  | ex c fn a w => exact fun cls dx F' H' g' x => h cls dx F' H' (g.trans g') x
  | bad => exact h
/-! truth of an int, a list, a tuple -/
/-! not, and, or -/
/-! .. as values: all but the last True or False -/
theorem DE.st (h : DE K X W s a ta ga) (hs : s ≠ .wk := by decide) : DE K X W .st a ta ga := by
  obtain ⟨K0, T0, L0⟩ := K
  cases h.hK
  exact ⟨rfl, h.pe, h.es.toSt hs⟩
theorem DE.wk (h : DE K X W s a ta ga) : DE K X W .wk a ta ga := by
  obtain ⟨K0, T0, L0⟩ := K
  cases h.hK
  exact ⟨rfl, h.pe, h.es.toWk⟩
end
end DL

/-! DL, part d: arguments, displays, subscripts, slices, calls of built-ins. -/
namespace DL
open PySem PySem.Spec L2
open PyProof.Rows hiding St

inductive AR where
  | ok (ds : List D) (w : Wl)
  | ex (c fn : Str) (a : D) (w : Wl)
  | bad
abbrev AG := List Sl → Wl → AR
inductive DqAll (K : PySem.W.Frag) (aw : Bs) (F H : Hp) : List V → List D → Prop
  | nil : DqAll K aw F H [] []
  | cons {v : V} {vs : List V} {d : D} {ds : List D} : Dq K aw F H v d → DqAll K aw F H vs ds → DqAll K aw F H (v :: vs) (d :: ds)
def RlA (b : Bool) (K : PySem.W.Frag) (aw : Bs) (F H : Hp) (vs : List V) (ds : List D) : Prop := match b with
  | true => DqAll K aw F H vs ds
  | false => DvAll K aw F vs ds
def WnA (b : Bool) (K : PySem.W.Frag) (aw : Bs) (F H : Hp) (Q : List V → Hp → Prop) (E : XK) : AR → Prop
  | .ok ds w => ∀ vs F' H', Go aw F H F' H' w → RlA b K aw F' H' vs ds → Q vs H'
  | .ex c fn a w => ∀ cls dx F' H', Go aw F H F' H' w → Xr K aw F' c fn a cls dx → E cls dx H'
  | .bad => False
def AR.cons (r : AR) (d : D) : AR := match r with
  | .ok ds w => .ok (d :: ds) w
  | z => z
section
variable {X : Cx} {W : WX} {K : Kt} {Kf : PySem.W.Frag} {s s1 s2 s3 : Sg} {pos : Pos} {a b c e : Expr} {es : List Expr} {ta tb tc te : TE} {ga gb gc ge : EG} {t : TA} {g : AG} {aw : Bs} {F H F1 H1 : Hp} {E : XK} {w1 : Wl} {bb : Bool} {QA : List V → Hp → Prop} {r : AR}
theorem DqAll.go {w : Wl} (go : Go aw F H F1 H1 w) : ∀ {vs : List V} {ds : List D}, DqAll Kf aw F H vs ds → DqAll Kf aw F1 H1 vs ds
  | _, _, .nil => .nil
  | _, _, .cons a b => .cons (a.go go) (DqAll.go go b)
theorem WnA.any (h : WnA bb Kf aw F H QA E r) (go : Go aw F H F1 H1 w1) : WnA bb Kf aw F1 H1 QA E r := by
  cases r with
  | ok ds w => exact fun vs F' H' g' r' => h vs F' H' (go.trans g') r'
  | ex c fn a w => exact fun cls dx F' H' g' x => h cls dx F' H' (go.trans g') x
  | bad => exact h
/-! displays -/
/-! subscripts -/
theorem DvAll.at {vs : List V} {ds : List D} (h : DvAll Kf aw F vs ds) {i : Int} {d : D} (e : atI ds i = some d) : ∃ v, atI vs i = some v ∧ Dv Kf aw F v d := by
  unfold atI at e ⊢
  rw [h.length]
  cases q : ixN ds.length i with
  | none =>
    rw [q] at e
    cases e
  | some j =>
    rw [q] at e
    exact h.get (i := j) e
/-! slices -/
/-! calls of built-ins by values -/
variable {r' : List V → Hp → VK → Prop} {o' : List D → Wl → Res} {x : Str} {p : Pos} {id T : String}
end
end DL

/-! DL, part e: statements, targets, loops, comprehensions. -/
namespace DL
open PySem PySem.Spec L2
open PyProof.Rows hiding St

inductive Out where
  | nx (en : List Sl) (w : Wl)
  | rt (d : D) (w : Wl)
  | rf (ds : List D) (w : Wl)
  | bk (en : List Sl) (w : Wl)
  | ct (en : List Sl) (w : Wl)
  | ex (c fn : Str) (a : D) (en : List Sl) (w : Wl)
  | bad
abbrev SG := List Sl → Wl → Out
def Out.seq (r : Out) (k : SG) : Out := match r with
  | .nx en w => k en w
  | z => z

/-! ### slots that are stored -/
section
variable {K : Kt} {Kf : PySem.W.Frag} {f : Fx} {en : List Sl} {w : Wl} {σ : St} {F H : Hp} {i : Nat} {v : V} {d : D} {ds : List D} {vs : List V} {a : Addr}
end

/-! ### statements -/
section
variable {X : Cx} {W : WX} {K : Kt} {Kf : PySem.W.Frag} {s s1 s2 s3 : Sg} {pos pos' : Pos} {a b c e : Expr} {es : List Expr} {ta tb tc te ti : TE} {ga gb gc ge gi : EG} {t u : TS} {g h : SG} {tA : TT} {st : Stmt} {sts sts2 : List Stmt} {x y : Str}
end
end DL

/-! DL, part f: targets, what is walked, for, while, comprehensions. -/
namespace DL
open PySem PySem.Spec L2
open PyProof.Rows hiding St

/-! ### targets: names, tuples of targets -/
abbrev BG := D → List Sl → Option (List Sl)
abbrev BGs := List D → List Sl → Option (List Sl)
def Agree (vs : List Nat) (σ σ' : St) : Prop := σ'.length = σ.length ∧ ∀ i, i ∉ vs → σ'[i]? = σ[i]?
section
variable {X : Cx} {K : Kt} {Kf : PySem.W.Frag} {pos : Pos} {e : Expr} {es : List Expr} {t t' : TG} {u : TGs} {b : BG} {bs : BGs} {vs vs' : List Nat} {x : Str} {k : Nat}
theorem Agree.refl (σ : St) : Agree vs σ σ := ⟨rfl, fun _ _ => rfl⟩
end

/-! ### what is walked -/
section
variable {X : Cx} {W : WX} {K : Kt} {Kf : PySem.W.Frag} {s : Sg} {bb : Bool} {pos p : Pos} {tg e a b c : Expr} {te : TE} {ge : EG} {t t' : TI} {tA : TA} {gA : AG}
/-! ranges -/
end

/-! ### for -/
/-! ### while, by so many turns at most -/
section
variable {X : Cx} {W : WX} {K : Kt} {Kf : PySem.W.Frag} {pos : Pos} {tg e c : Expr} {ti : TI} {gi : AG} {g : TG} {b : BG} {vs : List Nat} {sts : List Stmt} {tb : TS} {gb : SG} {tA : TT} {gc : EG}
end

/-! ### comprehensions -/
/-- nothing is let out -/
def W0 : WX := fun _ _ _ _ => False
section
variable {X : Cx} {W : WX} {K : Kt} {Kf : PySem.W.Frag} {s : Sg} {pos : Pos} {tg e elt : Expr} {ti : TI} {gi : AG} {g : TG} {b : BG} {vs vs' : List Nat} {tt : TT} {gt ge : EG} {te : TE} {f : Fx} {en : List Sl} {w : Wl} {σ : St} {F H : Hp}
/-! name = [..] -/
/-! targets of an assignment -/
end
end DL

/-! DL, part g: defs and their calls. -/
namespace DL
open PySem PySem.Spec L2
open PyProof.Rows hiding St

/-- room for k calls, and no repr is running -/
structure Rg (k : Nat) (A : Around) : Prop where
  room : Room k A
  gd : A.guards = some []
theorem Rg.mono {j k : Nat} {A : Around} (r : Rg k A) (h : j ≤ k) : Rg j A := ⟨r.room.mono h, r.gd⟩
theorem Rg.u {k : Nat} {A : Around} (r : Rg k A) : A.units + 65 < cLine := by
  have h1 := r.room.un
  omega
/-- a def's promise, where no repr is running -/
structure FG (P : Program) (w : World) (K : PySem.W.Frag) (mg : Str → Option Value) (base : Heap) (k : Nat) (f : Addr) (fd : FuncData) (ps : List Str) (sp : Sp) : Prop where
  len : ∀ vs H Q E, sp vs H Q E → vs.length = ps.length
  run : ∀ (A : Around) (outer : List Env) (s : Shared) (H : Hp) (args : Args) (us : List Value) (vs : List V) (Q : VK) (E : XK),
    Rg k A → Env0 P w K mg base A outer s H → BindsTo s fd args (ps.zip us) → Vals vs us → sp vs H Q E → codeAny (model P w) A (.call (.ref f) args) (CR (L2.CX P w) outer P w H s Q E) s
section
variable {P : Program} {w : World} {K : Kt} {Kf : PySem.W.Frag} {mg : Str → Option Value} {base : Heap} {k : Nat} {f : Addr} {fd : FuncData} {ps N : List Str} {x qual : Str} {params : Arguments} {body : List Stmt} {scope : Scope} {dvs : List V} {kws : List (Str × V)}
theorem FG.mono {j : Nat} {sp : Sp} (F : FG P w Kf mg base j f fd ps sp) (h : j ≤ k) : FG P w Kf mg base k f fd ps sp := ⟨F.len, fun A outer s H args us vs Q E r => F.run A outer s H args us vs Q E (r.mono h)⟩
end

section
variable {P : Program} {w : World} {K : Kt} {mg : Str → Option Value} {base : Heap} {k : Nat} {f : Addr} {fd : FuncData} {ps N : List Str} {x qual : Str} {params : Arguments} {body : List Stmt} {scope : Scope} {dvs : List V} {kws : List (Str × V)}
end
/-! ### calls -/
section
variable {X : Cx} {W : WX} {K : Kt} {Kf : PySem.W.Frag} {k n : Nat} {f : Addr} {fd : FuncData} {ps ks : List Str} {G : List D → Wl → Res} {x : Str} {p pos kpos : Pos} {e : Expr} {es : List Expr} {kws : List Keyword} {t tk : TA} {g gk : AG} {s : Sg} {te : TE} {ge : EG} {nm : Option Str} {pm : List Nat}
end
end DL

/-! DL, part h: built-ins. -/
namespace DL
open PySem PySem.Spec L2
open PyProof.Rows hiding St

section
variable {X : Cx} {W : WX} {K : Kt} {Kf : PySem.W.Frag} {s : Sg} {pos p : Pos} {a b c e : Expr} {es : List Expr} {t : TA} {g : AG}
theorem DqAll.one {aw : Bs} {F H : Hp} {vs : List V} {d : D} (h : DqAll Kf aw F H vs [d]) : ∃ v, vs = [v] ∧ Dq Kf aw F H v d := by
  cases h with
  | cons h1 h2 =>
    cases h2
    exact ⟨_, rfl, h1⟩
theorem DqAll.two {aw : Bs} {F H : Hp} {vs : List V} {d e : D} (h : DqAll Kf aw F H vs [d, e]) : ∃ v u, vs = [v, u] ∧ Dq Kf aw F H v d ∧ Dq Kf aw F H u e := by
  cases h with
  | cons h1 h2 =>
    cases h2 with
    | cons h2 h3 =>
      cases h3
      exact ⟨_, _, rfl, h1, h2⟩
/-! len -/
/-! tuple(x), list(x) -/
/-! sum, all, any, max, min -/
/-! abs, int, str, divmod, type -/
/-! repr -/
end
end DL

/-! DL, part i: a def of data by its name; repr. -/
namespace DL
open PySem PySem.Spec L2
open PyProof.Rows hiding St

section
variable {P : Program} {w : World} {K : Kt} {Kf : PySem.W.Frag} {mg : Str → Option Value} {base : Heap} {k j m n : Nat} {x y : Str} {G : List D → Wl → Res} {params : Arguments} {body : List Stmt} {scope : Scope} {N ps ks : List Str} {pm : List Nat} {fd : FuncData} {f : Addr}
variable {X : Cx} {W : WX} {p pos : Pos} {e : Expr} {es : List Expr} {kws : List Keyword} {t tk' : TA} {g gk : AG}
end

/-! ### repr -/
section
variable {X : Cx} {W : WX} {K : Kt} {Kf : PySem.W.Frag} {s : Sg} {pos p : Pos} {a : Expr} {t : TA} {g : AG}
end
end DL

/-! DL, part k: the generator's own statement, code that is never reached, chains as tests, own comprehensions. -/
namespace DL
open PySem PySem.Spec L2
open PyProof.Rows hiding St

section
variable {X : Cx} {W : WX} {K : Kt} {Kf : PySem.W.Frag} {s s1 s2 s3 : Sg} {pos p : Pos} {a b c e : Expr} {es : List Expr} {t : TA} {g : AG} {ta tb tc : TE} {ga gb gc : EG} {st : Stmt} {sts : List Stmt} {x y : Str}
end
end DL

/-! DL, part m: enumerate of tuples, zip. -/
namespace DL
open PySem PySem.Spec L2
open PyProof.Rows hiding St
open PySem.AutoSeq1 (wpAny_loadPart')
/-! ### enumerate(tuple) -/
end DL

/-! DL, part n: enumerate and zip, over data. -/
namespace DL
open PySem PySem.Spec L2
open PyProof.Rows hiding St
section
variable {X : Cx} {W : WX} {K : Kt} {Kf : PySem.W.Frag} {b bb : Bool} {pos p tpos : Pos} {a e : Expr} {elts : List Expr} {kk : Nat} {tA : TA} {gA : AG} {aw : Bs} {q r : Addr} {F1 H1 F H : Hp} {vs us : List V} {ds es : List D} {w : Wl} {v : V} {d : D}
end
end DL

/-! DL, part o: sorted, ranges as values. -/
namespace DL
open PySem PySem.Spec L2
open PyProof.Rows hiding St
open PySem.W (EachIs AllAlike Sortable dataLe)
/-! ### ranges as values -/
section
variable {X : Cx} {W : WX} {K : Kt} {Kf : PySem.W.Frag} {s : Sg} {bb : Bool} {pos p : Pos} {tg a b e : Expr} {t : TA} {g : AG} {te : TE} {ge : EG}
/-! ### sorted -/
end
end DL

/-! DL, part p: a lambda of one parameter, handed to a def. -/
namespace DL
open PySem PySem.Spec L2
open PyProof.Rows hiding St
/-- the parameter a, captured names, globals -/
structure LamS1 (sc scope : Scope) (a : Str) : Prop where
  kind : scope.kind = .function
  co : scope.isCoroutine = false
  gen : scope.isGenerator = false
  par : scope.names.lookup a = some .local
  one : ∀ y ∈ scope.names, y.2 = .local → y.1 = a
  nocell : ∀ y ∈ scope.names, y.2 ≠ .cell
  free : ∀ y ∈ scope.names, y.2 = .free → sc.names.lookup y.1 = some .cell ∨ sc.names.lookup y.1 = some .free
section
variable {X : Cx} {pins : List (Addr × Obj)} {σ : L2.St} {H HZ : Hp} {s s1 : Shared} {a : Str} {scope : Scope} {f c' : Addr}
theorem LamS1.has (L : LamS1 X.env.scope scope a) (ok : X.Ok) : ∀ y ∈ scope.names, y.2 = .free → ∃ c, X.env.cells.lookup y.1 = some c := fun y hy e =>
  (L.free y hy e).elim (fun k => ok.has _ (.inl k)) (fun k => ok.has _ (.inr k))
/-- what the making of a lambda does to the heap -/
structure Grow (T : List (Addr × Str)) (H H1 : Hp) : Prop where
  hh : LamX.ExtN H H1
  ne : ∀ b, H b ≠ none → H1 b ≠ none
  tb : LamX.Tabs T H1
end
end DL

/-! DL, part q: a def that gets a lambda as its last argument. -/
namespace DL
open PySem PySem.Spec L2
open PyProof.Rows hiding St
section
variable {X : Cx} {W : WX} {K : Kt} {Kf : PySem.W.Frag} {k j k2 : Nat} {x a : Str} {G : (D → Wl → Res) → List D → Wl → Res} {s1 s2 s3 : Sg} {e1 e2 body : Expr} {t1 t2 tb : TE} {g1 g2 gb : EG} {params : Arguments} {scope : Scope} {c P : Addr} {jj : Nat} {p lpos pos : Pos}
theorem Go.grow {aw : Bs} {F H H1 : Hp} {w : Wl} (g : Go aw F H F H w) (h : Grow aw.T H H1) : Go aw F H F H1 w :=
  ⟨Same.refl _, fun b o _ n e => h.hh b o e n, h.ne, fun _ => h.tb, fun b o e => h.hh b o (g.sub b o e) fun ps z => g.nt b ps (by rw [e, z]), g.nt, fun _ _ h => h, fun a ea => h.hh _ _ (g.wl a ea) fun _ z => nomatch z⟩
end
end DL

/-! DL, part r: a new generator, handed to a def. -/
namespace DL
open PySem PySem.Spec L2
open PyProof.Rows hiding St
section
variable {X : Cx} {W : WX} {K : Kt} {k j j2 n : Nat} {f : Addr} {fd : FuncData} {ps : List Str} {GR GW : List D → Wl → Res} {x y : Str} {p p2 pos pos2 : Pos} {e : Expr} {es : List Expr} {t : TA} {g : AG} {sp : Sp}
/-- behind the run with the new generator at a -/
theorem Go.well {aw : Bs} {a : Addr} {F H F1 H1 F2 H2 : Hp} {w w2 : Wl} (g : Go aw F H F1 H1 w) (n : H a = none) (hw : ∀ q, aw.a = some q → H q ≠ none) (g2 : Go ⟨some a, aw.T⟩ F1 H1 F2 H2 w2) : Go aw F H F2 H2 w := by
  refine ⟨g.ff.trans g2.ff, fun b o nb k h => ?_, fun b h => g2.ne b (g.ne b h), fun h => g2.tb (g.tb h), g2.sub, g2.nt, fun b nb h => g2.fr b (by
    by_cases e : some b = aw.a
    · exact .of (g.wl b e.symm)
    · rcases nb with ⟨e2, _⟩ | ⟨u, h, h1, h2⟩
      · exact absurd e2 e
      · exact .of (g.hh b u e h2 h) h1 h2) (g.fr b nb h), fun q hq => ?_⟩
  · exact g2.hh b o (fun z => by cases z; rw [n] at h; cases h) k (g.hh b o nb k h)
  · exact g2.hh q _ (fun z => by cases z; exact hw _ hq n) (fun _ z => nomatch z) (g.wl q hq)
end
end DL

/-! DL, part s: list(range), gcd, isinstance. -/
namespace DL
open PySem PySem.Spec L2
open PyProof.Rows hiding St
section
variable {X : Cx} {W : WX} {K : Kt} {Kf : PySem.W.Frag} {s s1 s2 : Sg} {pos pos2 p p2 : Pos} {a b e : Expr} {es : List Expr} {ta tb : TE} {ga gb : EG} {t : TA} {g : AG}
end
end DL

/-! DL, part t: a def that gets a def as its last argument. -/
namespace DL
open PySem PySem.Spec L2
open PyProof.Rows hiding St
section
variable {X : Cx} {W : WX} {K : Kt} {k j k2 : Nat} {x y : Str} {G : (D → Wl → Res) → List D → Wl → Res} {Gf : List D → Wl → Res} {e1 e2 e3 : Expr} {tA : TA} {gA : AG} {p pos : Pos}
end
end DL

/-! DL, part u: the end of a law, its def's promise asked where the caller stands. -/
namespace DL
open PySem PySem.Spec L2
open PyProof.Rows hiding St
section
variable {h h' : Heap} {a : Addr} {so : Obj} {ns : List Int} {off : Bool} {tabs : List Addr} {b : Addr} {o : Obj} {vs : List Value}
end
end DL

/-! DL, part v: the head's facts without the code tables; from a law's def to its row. -/
namespace DL
open PySem PySem.Spec L2
open PyProof.Rows hiding St
/-! ### the Hook -/
def isTab (o : Option Obj) : Bool := match o with
  | some ⟨.none, _, .fields _, _⟩ => true
  | _ => false
/-- no table of codes is in K -/
def NoTab (K : PySem.W.Frag) : Prop := ∀ a o, K.lookup a = some o → isTab (some o) = false
/-- the code of the module's def x, its table -/
def codeAt (K : PySem.W.Frag) (x : Str) : Option (Addr × Addr) := match K.lookup (He.ga K x) with
  | some ⟨_, _, .func fd, _⟩ => (match fd.code with
    | .ref c => (match K.lookup c with
      | some ⟨_, _, .fields vs, _⟩ => (match (vs[11]? : Option Value) with
        | some (.ref P) => some (c, P)
        | _ => none)
      | _ => none)
    | _ => none)
  | _ => none
def tabAt (K : PySem.W.Frag) (x : Str) : Option Addr := (codeAt K x).map (·.2)
/-- the tables of these defs stand apart -/
def apart (K : PySem.W.Frag) (xs : List Str) : Bool := (xs.map (tabAt K)).all (·.isSome) && decide (xs.map (tabAt K)).Nodup
theorem lookup_filter {p : Addr → Bool} {K : PySem.W.Frag} {a : Addr} {o : Obj} : ∀ l : List (Addr × Obj), (l.lookup a = some o) → (a, o) ∈ l
  | [], h => by cases h
  | (b, u) :: l, h => by
    rw [List.lookup_cons] at h
    split at h
    · rename_i e
      cases h
      have : a = b := by simpa using e
      rw [this]
      exact List.mem_cons_self
    · exact List.mem_cons_of_mem _ (lookup_filter (p := p) (K := K) l h)
end DL

/-! DL, part w: the code tables of the defs that make lambdas; the law's promise at the beginning. -/
namespace DL
open PySem PySem.Spec L2
open PyProof.Rows hiding St
section
variable {K : PySem.W.Frag} {h : Heap} {mg : Str → Option Value} {q : Program} {xs : List Str} {x : Str} {base : Heap}
end
end DL

/-! DL, part x: what the laws have in common: the generator of draws, its beginning, the law itself. -/
namespace DL
open PySem PySem.Spec L2
open PyProof.Rows hiding St
/-- the generator, good for k draws more -/
def Wk (k : Nat) (w : Wl) : Prop := ∃ a b c : Int, w = [a, b, c] ∧ 0 ≤ a ∧ 0 ≤ b ∧ b < 2147483549 ∧ 0 ≤ c ∧ c + k < 10 ^ 9
/-! ### the law -/
end DL

/-! DL, part y: what printed functions answer on data that stand for lists, pairs and so on. -/
namespace DL
open PySem PySem.Spec L2
open PyProof.Rows hiding St

section
variable {α β : Type} {b : BG} {gt ge : EG} {gi : AG} {S en : List Sl} {w : Wl} {vs : List Nat}
end

/-! ### equality of data -/
/-- what stands for unlike things is unlike -/
def Eqs {α : Type} [DecidableEq α] (enc : α → D) : Prop := ∀ x y, (enc x).eqv (enc y) = decide (x = y)
def Shp (k : Nat) (d : D) : Prop := d.isP = true ∧ d.toP.canLay0 = true ∧ d.toP.depth ≤ k
theorem Shp.mono {k m : Nat} {d : D} (h : Shp k d) (hk : k ≤ m) : Shp m d := ⟨h.1, h.2.1, Nat.le_trans h.2.2 hk⟩
section
variable {α β γ : Type} [DecidableEq α] [DecidableEq β] [DecidableEq γ] {enc : α → D} {en2 : β → D} {en3 : γ → D}
theorem eqvAll_map (h : Eqs enc) : ∀ xs ys : List α, PyData.eqvAll (toPs (xs.map enc)) (toPs (ys.map enc)) = decide (xs = ys)
  | [], [] => rfl
  | [], _ :: _ => rfl
  | _ :: _, [] => rfl
  | x :: xs, y :: ys => by
    show ((enc x).eqv (enc y) && PyData.eqvAll (toPs (xs.map enc)) (toPs (ys.map enc))) = _
    rw [h x y, eqvAll_map h xs ys]
    by_cases e : x = y <;> by_cases e2 : xs = ys <;> simp [e, e2]
theorem Eqs.tup (h : Eqs enc) : Eqs fun xs : List α => D.tup (xs.map enc) := fun xs ys => eqvAll_map h xs ys
theorem Eqs.lst (h : Eqs enc) : Eqs fun xs : List α => D.lst (xs.map enc) := fun xs ys => eqvAll_map h xs ys
end
/-! ### sets: ascending tuples of indexes -/
abbrev IS := List Int
/-! ### the text of data -/
def Low (x : Str) : Prop := ∀ c ∈ x.cps.toList, c < 128
end DL

/-! DL, part z: statements of printed functions, loops, draws. -/
namespace DL
open PySem PySem.Spec L2
open PyProof.Rows hiding St
section
variable {α β : Type} {b : BG} {gt ge g : EG} {gi : AG} {S en en1 en2 : List Sl} {w w1 w2 : Wl} {vs : List Nat} {body h k : SG} {d : D} {i : Nat}
theorem Wk.mono {k m : Nat} {w : Wl} (h : Wk k w) (hm : m ≤ k) : Wk m w := by
  obtain ⟨a, b, c, e, h1, h2, h3, h4, h5⟩ := h
  exact ⟨a, b, c, e, h1, h2, h3, h4, by omega⟩
end
/-! ### set families -/
/-- all sets of k indexes from lo on, ascending -/
def setsFrom (lo : Int) : Nat → List IS
  | 0 => []
  | k + 1 => [lo] :: ((setsFrom (lo + 1) k).map (lo :: ·) ++ setsFrom (lo + 1) k)
def ssets (n : Nat) : List IS := setsFrom 0 n
def isSet (n : Int) (s : IS) : Prop := s ≠ [] ∧ s.Pairwise (· < ·) ∧ ∀ i ∈ s, 0 ≤ i ∧ i < n
theorem mem_setsFrom : ∀ (k : Nat) (lo : Int) (s : IS), s ∈ setsFrom lo k ↔ s ≠ [] ∧ s.Pairwise (· < ·) ∧ ∀ i ∈ s, lo ≤ i ∧ i < lo + k
  | 0, lo, s => by
    simp only [setsFrom, List.not_mem_nil, false_iff]
    rintro ⟨h1, _, h2⟩
    cases s with
    | nil => exact h1 rfl
    | cons a r =>
      have := h2 a List.mem_cons_self
      omega
  | k + 1, lo, s => by
    rw [setsFrom, List.mem_cons, List.mem_append, List.mem_map]
    constructor
    · rintro (rfl | ⟨t, ht, rfl⟩ | h)
      · exact ⟨by simp, by simp, fun i hi => by simp at hi; omega⟩
      · obtain ⟨h1, h2, h3⟩ := (mem_setsFrom k (lo + 1) t).mp ht
        refine ⟨by simp, List.pairwise_cons.mpr ⟨fun a ha => by have := h3 a ha; omega, h2⟩, fun i hi => ?_⟩
        rcases List.mem_cons.mp hi with rfl | hi
        · omega
        · have := h3 i hi
          omega
      · obtain ⟨h1, h2, h3⟩ := (mem_setsFrom k (lo + 1) s).mp h
        exact ⟨h1, h2, fun i hi => by have := h3 i hi; omega⟩
    · rintro ⟨h1, h2, h3⟩
      cases s with
      | nil => exact absurd rfl h1
      | cons a r =>
        obtain ⟨p1, p2⟩ := List.pairwise_cons.mp h2
        have ha := h3 a List.mem_cons_self
        by_cases e : a = lo
        · subst e
          cases r with
          | nil => exact .inl rfl
          | cons c r =>
            refine .inr (.inl ⟨c :: r, (mem_setsFrom k (a + 1) _).mpr ⟨by simp, p2, fun i hi => ?_⟩, rfl⟩)
            have := p1 i hi
            have := h3 i (List.mem_cons_of_mem _ hi)
            omega
        · refine .inr (.inr ((mem_setsFrom k (lo + 1) _).mpr ⟨h1, h2, fun i hi => ?_⟩))
          have := h3 i hi
          rcases List.mem_cons.mp hi with rfl | hi
          · omega
          · have := p1 i hi
            omega
theorem mem_ssets {n : Nat} {s : IS} : s ∈ ssets n ↔ isSet n s := by
  unfold ssets isSet
  rw [mem_setsFrom]
  simp
end DL

/-! DL, part zb: data that can be shown. -/
namespace DL
open PySem PySem.Spec L2
open PyProof.Rows hiding St
/-- nested k deep at most, with a text of b signs at most: it can be shown -/
structure Shw (k b : Nat) (d : D) : Prop where
  shp : Shp k d
  show_ : d.toP.showable = true
  len : d.toP.shown.length ≤ b
  low : Low d.toP.shown
theorem Shw.mono {k b k' b' : Nat} {d : D} (h : Shw k b d) (hk : k ≤ k') (hb : b ≤ b') : Shw k' b' d := ⟨h.shp.mono hk, h.show_, Nat.le_trans h.len hb, h.low⟩
end DL

/-! DL, part zc: a, b, c = x, y, [] with new lists that are the body's own. -/
namespace DL
open PySem PySem.Spec L2
open PyProof.Rows hiding St
section
variable {X : Cx} {W : WX} {K : Kt} {Kf : PySem.W.Frag} {s : Sg} {pos : Pos} {e : Expr} {es : List Expr} {te : TE} {ge : EG} {t : TA} {g : AG} {aw : Bs} {F H F1 H1 F' H' : Hp} {w w1 : Wl} {bs : List Bool} {vs : List V} {ds : List D}
end
section
variable {X : Cx} {W : WX} {K : Kt} {Kf : PySem.W.Frag} {f : Fx} {en : List Sl} {w w1 : Wl} {σ : St} {F H H0 : Hp} {v : V} {d : D} {b : Bool} {bs : List Bool} {vs : List V} {ds : List D}
end
end DL

/-! DL, part zd: the head's facts where names come from math. -/
namespace DL
open PySem PySem.Spec L2
open PyProof.Rows hiding St
def impOk (K : PySem.W.Frag) (p : Str × String) : Bool := He.eqO (PySem.W.nsIn K mainGlobals p.1) (some (some (.builtin p.2)))
/-- a module's constant tuple of ints -/
def intsAre : List Value → List Int → Bool
  | [], [] => true
  | .int j _ :: r, i :: is => decide (j = i) && intsAre r is
  | _, _ => false
def conData (o : Obj) (is : List Int) : Bool := match o.data with
  | .seq its _ => decide (its.size ≤ sizeLine) && intsAre its.toList is
  | _ => false
def conOk (K : PySem.W.Frag) (p : Str × List Int) : Bool := He.eqO (PySem.W.nsIn K mainGlobals p.1) (some (some (.ref (He.ga K p.1)))) && match K.lookup (He.ga K p.1) with
  | some o => decide (o.cls = .type "tuple") && conData o p.2
  | none => false
section
variable {X : Cx} {W : WX} {K : Kt} {pos : Pos}
end
end DL

/-! DL, part ze: a body's own dict, its keys tuples of ints. -/
namespace DL
open PySem PySem.Spec L2
open PyProof.Rows hiding St
abbrev Kvs := List (List Int × D)
def getK (kvs : Kvs) (k : List Int) : Option D := (kvs.find? fun kv => decide (kv.1 = k)).map (·.2)
theorem inl_inj {a b : List Int} (h : a.map (Sum.inl : Int → Key) = b.map Sum.inl) : a = b := (List.map_inj_right fun _ _ e => Sum.inl.inj e).mp h
section
variable {Kf : PySem.W.Frag} {aw : Bs} {F H : Hp} {us : List (List Key × V)} {kvs : Kvs} {k : List Int} {v : V} {d : D}
theorem getK_pos {p : List Int × D} {r : Kvs} (e : p.1 = k) : getK (p :: r) k = some p.2 := by simp [getK, List.find?_cons, e]
theorem getK_neg {p : List Int × D} {r : Kvs} (e : ¬ p.1 = k) : getK (p :: r) k = getK r k := by simp [getK, List.find?_cons, e]
theorem KVs.val (h : KVs Kf aw F us kvs) (k : List Int) : (getK kvs k = none ∧ valV us (k.map Sum.inl) = none) ∨ ∃ d v, getK kvs k = some d ∧ valV us (k.map Sum.inl) = some v ∧ Dv Kf aw F v d := by
  induction h with
  | nil => exact .inl ⟨rfl, rfl⟩
  | @cons k' v d us kvs r _ ih =>
    by_cases e : k' = k
    · subst e
      exact .inr ⟨d, v, getK_pos rfl, valV_pos rfl, r⟩
    · have e' : ¬ k'.map (Sum.inl : Int → Key) = k.map Sum.inl := fun z => e (inl_inj z)
      rw [getK_neg (p := (k', d)) e, valV_neg (p := (k'.map Sum.inl, v)) e']
      exact ih
theorem KVs.any (h : KVs Kf aw F us kvs) (k : List Int) : (us.any fun kv => decide (kv.1 = k.map Sum.inl)) = kvs.any fun kv => decide (kv.1 = k) := by
  induction h with
  | nil => rfl
  | @cons k' v d us kvs r _ ih =>
    rw [List.any_cons, List.any_cons, ih]
    congr 1
    by_cases e : k' = k
    · subst e; simp
    · have e' : ¬ k'.map (Sum.inl : Int → Key) = k.map Sum.inl := fun z => e (inl_inj z)
      rw [decide_eq_false e, decide_eq_false e']
theorem KVs.length (h : KVs Kf aw F us kvs) : us.length = kvs.length := by
  induction h with
  | nil => rfl
  | cons _ _ ih => exact congrArg (· + 1) ih
end
/-! ### the state -/
section
variable {K : Kt} {Kf : PySem.W.Frag} {f : Fx} {en : List Sl} {w w1 : Wl} {σ : St} {F H : Hp} {a p : Addr} {us us' : List (List Key × V)} {kvs lvs : Kvs} {i : Nat}
end
/-! ### rules -/
section
variable {X : Cx} {W : WX} {K : Kt} {s s1 s2 : Sg} {pos pos' apos cpos p2 : Pos} {x : Str} {e g' : Expr} {te tg : TE} {ge gg : EG} {i : Nat}
end
end DL

/-! DL, part zf: x = {k: v for .. in .. if ..}, the keys tuples of ints. -/
namespace DL
open PySem PySem.Spec L2
open PyProof.Rows hiding St
/-! ### the hand layer's side -/
section
variable {X : Cx} {pins : List (Addr × Obj)} {σ : L2.St} {H : Hp} {s : Shared}
end
end DL

/-! DL, part zg: the data side of a dict's comprehension; k in x, k not in x. -/
namespace DL
open PySem PySem.Spec L2
open PyProof.Rows hiding St
section
variable {K : Kt} {W : WX} {f : Fx} {en : List Sl} {w : Wl} {σ : L2.St} {F H : Hp} {p : Addr} {us us' : List (List Key × V)}
variable {ti : TI} {gi : AG} {g : TG} {b : BG} {vs vs' : List Nat} {tt : TT} {gt gk gv : EG} {tk tv : TE} {s1 s2 : Sg}
end
section
variable {X : Cx} {W : WX} {K : Kt} {s1 s2 : Sg} {pos : Pos} {x : Str} {tg e : Expr} {ti : TI} {gi : AG} {g : TG} {b : BG} {vs' : List Nat}
end
end DL

/-! DL, part zh: try: .. except C as e: ... -/
namespace DL
open PySem PySem.Spec L2
open PyProof.Rows hiding St
section
variable {X : Cx} {W : WX} {K : Kt} {pos pos' np : Pos} {x n : Str} {C : Value} {i : Nat} {body suite : List Stmt} {b₀ : Stmt} {tb : WX → TS} {ts : Addr → Value → Option Addr → TS} {gb : SG} {gs : Bool → Str → Str → D → SG} {fe : Str → Bool}
theorem Go.from {aw : Bs} {F0 H0 F H F' H' : Hp} {w w' : Wl} (g : Go aw F0 H0 F H w) (g' : Go aw F H F' H' w') : Go aw F0 H0 F' H' w' := g.trans g'
end
end DL

/-! DL, part zi: in an except suite: isinstance(e, C), e.field. -/
namespace DL
open PySem PySem.Spec L2
open PyProof.Rows hiding St
section
variable {X : Cx} {W : WX} {K : Kt} {pos p p2 p3 : Pos} {n x fld : Str} {i : Nat} {l : Lm} {oe : Obj} {cls : Value} {dx : Option Addr} {pn : List (Addr × Obj)} {c fn : Str} {d : D} {b : Bool} {P : Prop}
end
end DL

/-! DL, part zj: count and index of a bool in a list of bools. -/
namespace DL
open PySem PySem.Spec L2
open PyProof.Rows hiding St
section
variable {X : Cx} {W : WX} {K : Kt} {pos ap : Pos} {a b : Expr} {ta tb : TE} {ga gb : EG} {s1 s2 : Sg} {r : V → List V → Hp → VK → Prop} {o : List D → D → Wl → Res}
end
end DL

/-! DL, part zk: t[::-1] of a tuple. -/
namespace DL
open PySem PySem.Spec L2 PySem.W HT
open PyProof.Rows hiding St
section
variable {prog : Program} {w : World} {A : Around} {E : Value → Shared → Prop} {s : Shared}
end
section
variable {X : Cx} {W : WX} {K : Kt} {pos : Pos} {a : Expr} {ta : TE} {ga : EG} {s1 : Sg}
end
end DL

set_option exponentiation.threshold 30000
/-! DL, part zl: lcm, t * k, own lists by comprehension. -/
namespace DL
open PySem PySem.Spec L2
open PyProof.Rows hiding St
section
variable {X : Cx} {W : WX} {K : Kt} {pos p : Pos} {a b : Expr} {es : List Expr} {t : TA} {g : AG} {ta tb : TE} {ga gb : EG} {s1 s2 : Sg}
end
/-! t * 1 -/
section
variable {X : Cx} {W : WX} {K : Kt} {pos p : Pos} {a b : Expr} {ta tb : TE} {ga gb : EG} {s1 s2 : Sg}
end
end DL

/-! DL, part zm: own lists by comprehension; x.pop(i) of an own list. -/
namespace DL
open PySem PySem.Spec L2
open PyProof.Rows hiding St
section
variable {X : Cx} {W : WX} {K : Kt} {pos pos' : Pos} {tg e elt : Expr} {s : Sg} {ti : TI} {gi : AG} {g : TG} {b : BG} {vs' : List Nat} {te : TE} {ge : EG} {x : Str}
end
end DL

/-! DL, part zn: sorted of tuples the first of which is empty. -/
namespace DL
open PySem PySem.Spec PySem.Calls PySem.SeqAt PySem.W
open PyProof.Rows hiding St
section
variable {prog : Program} {w : World} {A : Around} {s : Shared}
end
section
variable {M : Model} {A : Around} {E : Value → Shared → Prop} {s : Shared}
end
section
variable {prog : Program} {w : World} {A : Around} {s : Shared}
end
section
variable {β : Type} {enc : β → PyData} {R : Value → β → Prop} {bs : List β} {b₀ : β} {vs : List Value} {prog : Program} {w : World} {A : Around} {E : Value → Shared → Prop} {s : Shared}
end
end DL
namespace DL
open PySem PySem.Spec L2
open PyProof.Rows hiding St
section
variable {X : Cx} {W : WX} {K : Kt} {Kf : PySem.W.Frag} {pos p : Pos} {a : Expr} {t : TA} {g : AG}
end
end DL

/-! DL, part zo: xs += ys of an own list. -/
namespace DL
open PySem PySem.Spec L2
open PyProof.Rows hiding St
section
variable {X : Cx} {W : WX} {K : Kt} {s : Sg} {elt : Expr} {te : TE} {ge : EG} {pos : Pos}
end
end DL

/-! DL, part zp: index of an int in a list of ints. -/
namespace DL
open PySem PySem.Spec L2
open PyProof.Rows hiding St
section
variable {X : Cx} {W : WX} {K : Kt} {pos ap : Pos} {a b : Expr} {ta tb : TE} {ga gb : EG} {s1 s2 : Sg} {r : V → List V → Hp → VK → Prop} {o : List D → D → Wl → Res}
end
end DL

/-! DL, part zq: an own list is frozen before a statement. -/
namespace DL
open PySem PySem.Spec L2
open PyProof.Rows hiding St
section
variable {K : Kt} {X : Cx} {W : WX} {f : Fx} {en : List Sl} {w : Wl} {σ : St} {F H : Hp} {i : Nat} {ds : List D} {st : Stmt} {t : TS} {g : SG}
end
end DL

/-! DL, part zr: the head's facts over a told list of addresses. -/
namespace DL
open PySem PySem.Spec L2
open PyProof.Rows hiding St
def noT (g : Addr → Option Obj) (l : List Addr) : List Addr := l.filter fun a => !isTab (g a)
theorem noTab_l (g : Addr → Option Obj) (l : List Addr) : NoTab (He.frG g (noT g l)) := fun a o e => by
  have g1 := He.frG_at (noT g l) e
  have m := lookup_filter (p := fun _ => true) (K := []) _ e
  unfold He.frG at m
  obtain ⟨b, hb, eb⟩ := List.mem_filterMap.mp m
  unfold noT at hb
  have hb2 := (List.mem_filter.mp hb).2
  cases q : g b with
  | none => rw [q] at eb; cases eb
  | some u =>
    rw [q] at eb hb2
    cases eb
    simpa using hb2
def hookL (l : List Addr) (fa : List He.Fa) (fn : List He.DefD) (xs : List Str) (ims : List (Str × String)) (cs : List (Str × List Int)) : PySem.W.Hook where
  α := He.AlD × Bool
  obs := fun s => (He.obsD fa fn (He.frG s.heap.get? (noT s.heap.get? l)), apart (He.frG s.heap.get? (noT s.heap.get? l)) xs && ims.all (impOk (He.frG s.heap.get? (noT s.heap.get? l))) && cs.all (conOk (He.frG s.heap.get? (noT s.heap.get? l))))
  val := fun _ => (He.valD fn, true)
  says := fun _ h => ∃ K : PySem.W.Frag, K.In h ∧ He.SaysD fa fn K ∧ NoTab K ∧ (apart K xs && ims.all (impOk K) && cs.all (conOk K)) = true
  of := fun _ _ e => ⟨_, He.frG_in, congrArg Prod.fst e, noTab_l _ _, congrArg Prod.snd e⟩
  keeps := fun _ _ _ ⟨K, hK, c⟩ k => ⟨K, PySem.W.Frag.In.keeps hK k, c⟩
def obsL (l : List Addr) (fa : List He.Fa) (fn : List He.DefD) (xs : List Str) (ims : List (Str × String)) (cs : List (Str × List Int)) (g : Addr → Option Obj) : He.AlD × Bool := (He.obsD fa fn (He.frG g (noT g l)), apart (He.frG g (noT g l)) xs && ims.all (impOk (He.frG g (noT g l))) && cs.all (conOk (He.frG g (noT g l))))
end DL

/-! DL, part zs: comprehensions with two sources. -/
namespace DL
open PySem PySem.Spec L2
open PyProof.Rows hiding St
section
variable {X : Cx} {W : WX} {K : Kt} {Kf : PySem.W.Frag} {s : Sg} {pos : Pos} {tg e tg1 e1 elt : Expr} {ti ti1 : TI} {gi gi1 : AG} {g g1 : TG} {b b1 : BG} {vs vs' vs1 vs1' : List Nat} {ge : EG} {te : TE} {f : Fx} {en : List Sl} {w : Wl} {σ : St} {F H : Hp}
end
end DL

/-! DL, part zt: instances that are read: their fields. -/
namespace DL
open PySem PySem.Spec L2
open PyProof.Rows hiding St
section
variable {Kf : PySem.W.Frag} {aw : Bs} {F H : Hp} {K : Kt} {X : Cx} {W : WX} {s : Sg} {e : Expr} {pos : Pos} {te : TE} {ge : EG} {c f : Str}
end
end DL

/-! DL, part zu: methods of instances that are read, called. -/
namespace DL
open PySem PySem.Spec L2
open PyProof.Rows hiding St
section
variable {K : Kt} {X : Cx} {W : WX} {k n : Nat} {f C : Addr} {fd : FuncData} {ps : List Str} {sp : Sp} {m : Str} {e o : Expr} {es : List Expr} {pos apos : Pos} {ta : TE} {t : TA} {pl : Sem Bool}
end
end DL

/-! DL, part zv: an own exception class: its __init__ says super().__init__("..") and keeps one field. -/
namespace DL
open PySem PySem.Spec L2
open PyProof.Rows hiding St
section
open PySem.W
variable {prog : Program} {w : World} {A : Around} {E : Value → Shared → Prop} {h : Heap} {g : Array GenState} {d : Drawn} {t : Nat} {os : OsState}
variable {nm q : Str} {C N : Addr} {bs bm : List Value} {sn : List Str} {sub : List Value} {ab : Bool} {col : Option Bool} {dd : Option Addr} {k0 k1 k2 k3 k5 : Option Value}
end
end DL

/-! DL, part zw: raise C(e), C an own class that keeps one field; repr within a suite; try without a name. -/
namespace DL
open PySem PySem.Spec L2
open PyProof.Rows hiding St
section
variable {K : Kt} {X : Cx} {W : WX} {k : Nat} {c fld : Str} {e : Expr} {p pos pos' : Pos} {t : TA} {ga : AG}
end
section
variable {X : Cx} {W : WX} {K : Kt} {pos : Pos}
end
section
variable {X : Cx} {W : WX} {K : Kt} {pos p : Pos} {a : Expr} {t : TA} {g : AG}
end
section
variable {X : Cx} {W : WX} {K : Kt} {pos pos' np p p2 p3 : Pos} {n x fld : Str} {C : Value} {i : Nat} {body suite : List Stmt} {b₀ : Stmt} {tb : WX → TS} {ts : Addr → Value → Option Addr → TS} {gb : SG} {gs : Bool → Str → Str → D → SG} {fe : Str → Bool} {st : Stmt} {g : SG}
end
section
variable {X : Cx} {W : WX} {K0 : PySem.W.Frag} {T0 : List (Addr × Str)} {pos p p2 p3 : Pos} {n x fld : Str} {i : Nat} {aw : Bs} {la : Addr} {F1 H1 : Hp} {oe : Obj} {cls : Value} {dx : Option Addr} {pn : List (Addr × Obj)} {c fn : Str} {d : D} {b : Bool} {P : Prop}
end
end DL

/-! DL, part zx: the head's facts of own exception classes. -/
namespace DL
open PySem PySem.Spec L2
open PyProof.Rows hiding St
abbrev IniW : Type := Option (Str × Str × Arguments × FuncBody × Scope × Addr × List Str × Addr)
/-- an own class and its __init__, as the text has them -/
structure ExD where
  c : Str
  fld : Str
  gn : Str
  qual : Str
  params : Arguments
  body : List Stmt
  scope : Scope
def ExD.val (d : ExD) : IniW := some ("__init__", d.qual, d.params, .stmts d.body, d.scope, mainGlobals, ["__class__"], builtinsNs)
/-! ### the hook -/
end DL

/-! DL, part zy: t * k, t empty too. -/
namespace DL
open PySem PySem.Spec L2
open PyProof.Rows hiding St
section
variable {X : Cx} {W : WX} {K : Kt} {pos p : Pos} {a b : Expr} {ta tb : TE} {ga gb : EG} {s1 s2 : Sg}
end
end DL

/-! DL, part zza: repr of data that have {} in them. -/
namespace DL
open PySem PySem.Spec L2
open PyProof.Rows hiding St
section
variable {X : Cx} {pins : List (Addr × Obj)} {σ : St} {H F : Hp} {s : Shared} {aw : Bs}
end
section
variable {X : Cx} {W : WX} {K : Kt} {Kf : PySem.W.Frag} {pos p : Pos} {a : Expr} {t : TA} {g : AG}
end
end DL

/-! DL, part zzb: list({k: v for .. in ..}), the keys tuples of ints: the unlike ones, in their order. -/
namespace DL
open PySem PySem.Spec L2
open PyProof.Rows hiding St
section
variable {K : Kt} {W : WX} {f : Fx} {en : List Sl} {w : Wl} {σ : L2.St} {F H : Hp} {p : Addr} {us us' : List (List Key × V)}
variable {ti : TI} {gi : AG} {g : TG} {b : BG} {vs vs' : List Nat} {tt : TT} {gt gk gv : EG} {tk tv : TE} {s1 s2 : Sg}
end
section
variable {X : Cx} {W : WX} {K : Kt} {s1 s2 : Sg} {pos p2 pn : Pos} {tg e ke ve : Expr} {ti : TI} {gi : AG} {g : TG} {b : BG} {vs' : List Nat} {tk tv : TE} {gk gv : EG}
end
end DL

/-! DL, part zzc: max(xs, default=k) of whole numbers. -/
namespace DL
open PySem PySem.Spec L2
open PyProof.Rows hiding St
section
variable {X : Cx} {x : Str} {p pos : Pos} {e : Expr} {es : List Expr} {kws : List Keyword} {t tk : TA} {id : String} {ks : List Str} {r : List V → List V → Hp → VK → Prop}
end
section
variable {X : Cx} {W : WX} {K : Kt} {pos p kp : Pos} {a b : Expr} {ta tb : TE} {ga gb : EG} {s1 s2 : Sg}
end
end DL

/-! DL, part zzd: sorted(xs, key=f) with whole keys, where a call of f need not leave every object as it is: J tells what stands on the way. -/
namespace DL
open PySem PySem.Spec L2 PySem.W PySem.Calls
open PyProof.Rows hiding St
section
variable {prog : Program} {w : World} {A : Around} {E : Value → Shared → Prop} {s : Shared} {a kS : Addr} {vs : List Value} {e1 : Nat} {P : PySem.Fin → Shared → Prop} {kz : List Int} {f : Value} {J : Array Value → Nat → Shared → Prop}
end
section
variable {prog : Program} {w : World} {A : Around} {E : Value → Shared → Prop} {s : Shared} {vs : List Value} {q l : Addr} {Q : Value → Shared → Prop}
end
end DL

/-! DL, part zze: a lambda that a built-in calls. -/
namespace DL
open PySem PySem.Spec L2
open PyProof.Rows hiding St
section
variable {X : Cx} {pins : List (Addr × Obj)} {σ : L2.St} {H : Hp} {s : Shared} {a : Str} {scope : Scope} {f c' : Addr} {pm ctv : Value} {params : Arguments} {body : Expr} {k j : Nat} {tb : TE} {A : Around} {v : V} {u : Value} {Q : VK}
end
end DL

/-! DL, part zzf: sorted(xs, key=lambda a: ..), keys whole numbers. -/
namespace DL
open PySem PySem.Spec L2
open PyProof.Rows hiding St
section
variable {X : Cx} {W : WX} {K : Kt} {k k2 : Nat} {a : Str} {s1 s3 : Sg} {e1 body : Expr} {t1 tb : TE} {g1 gb : EG} {params : Arguments} {scope : Scope} {c P : Addr} {jj : Nat} {p lpos pos kp : Pos}
end
end DL

/-! DL, part zzg: n.bit_length(). -/
namespace DL
open PySem PySem.Spec L2
open PyProof.Rows hiding St
section
variable {X : Cx} {W : WX} {K : Kt} {s : Sg} {pos apos : Pos} {e : Expr} {ta : TE} {ga : EG}
end
end DL

/-! DL, part zzh: x = [.. for .. for ..]. -/
namespace DL
open PySem PySem.Spec L2
open PyProof.Rows hiding St
section
variable {X : Cx} {W : WX} {K : Kt} {s : Sg} {pos spos py : Pos} {x : Str} {tg e tg1 e1 elt : Expr} {ti ti1 : TI} {gi gi1 : AG} {g g1 : TG} {b b1 : BG} {vs' vs1' : List Nat} {te : TE} {ge : EG}
end
end DL

/-! DL, part zzi: i | j; i << j for great i. -/
namespace DL
open PySem PySem.Spec L2
open PyProof.Rows hiding St
section
variable {X : Cx} {W : WX} {K : Kt} {Kf : PySem.W.Frag} {s1 s2 : Sg} {pos : Pos} {a b : Expr} {ta tb : TE} {ga gb : EG}
instance (i j : Int) : Decidable (CShl i j) := inferInstanceAs (Decidable (_ ∧ _))
end
end DL

/-! DL, part zzj: tuple(range(n)). -/
namespace DL
open PySem PySem.Spec L2
open PyProof.Rows hiding St
section
variable {X : Cx} {W : WX} {K : Kt} {s1 : Sg} {pos pos2 p p2 : Pos} {a : Expr} {ta : TE} {ga : EG}
end
end DL

/-! t <= u: tuples of whole numbers. -/
namespace DL
open PySem PySem.Spec L2
open PyProof.Rows hiding St
section
variable {X : Cx} {W : WX} {K : Kt} {Kf : PySem.W.Frag} {s s1 s2 s3 : Sg} {pos : Pos} {a b c : Expr} {ta tb tc : TE} {ga gb gc : EG}
end
end DL

/-! zip of a tuple and a list. -/
namespace DL
open PySem PySem.Spec L2
open PyProof.Rows hiding St
section
variable {prog : Program} {w : World} {A : Around} {E : Value → Shared → Prop} {s : Shared}
end
section
variable {X : Cx} {W : WX} {K : Kt} {Kf : PySem.W.Frag} {b bb : Bool} {pos p tpos : Pos} {a e : Expr} {elts : List Expr} {kk : Nat} {tA : TA} {gA : AG} {aw : Bs} {q r : Addr} {F1 H1 F H : Hp} {vs us : List V} {ds es : List D} {w : Wl}
end
end DL

/-! list({x: True for x in xs}): the unlike ones of some tuples of whole numbers, constants of the module among them. -/
namespace DL
open PySem PySem.Spec L2
open PyProof.Rows hiding St
section
variable {X : Cx}
end
/-! ### over data -/
section
variable {K : Kt} {W : WX} {te : TE} {ge : EG} {s1 : Sg}
end
section
variable {X : Cx} {W : WX} {K : Kt} {pos p2 pn px py pc : Pos} {x : Str} {kc : Nat} {e : Expr} {te : TE} {ge : EG} {scope : Scope}
end
end DL

/-! DL, part zzn: isinstance of a thing that may be a constant tuple of the module. -/
namespace DL
open PySem PySem.Spec L2
open PyProof.Rows hiding St
section
variable {X : Cx} {W : WX} {K : Kt} {Kf : PySem.W.Frag} {pos p : Pos} {a b : Expr} {t : TA} {g : AG}
end
end DL

/-! DL, part zzo: zip of three lists. -/
namespace DL
open PySem PySem.Spec L2
open PyProof.Rows hiding St
section
variable {X : Cx} {W : WX} {K : Kt} {Kf : PySem.W.Frag} {b bb : Bool} {pos p tpos : Pos} {a e e3 : Expr} {elts : List Expr} {kk : Nat} {tA : TA} {gA : AG} {aw : Bs} {q r t : Addr} {F1 H1 F H : Hp} {vs us ts : List V} {ds es zs : List D} {w : Wl}
end
end DL

/-! DL, part zzp: None asked of a dict with tuples as keys: it is not there. -/
namespace DL
open PySem PySem.Spec L2
open PyProof.Rows hiding St
section
variable {P : Program} {w : World} {K : Type} [DecidableEq K] {knd : KeyKind P w K} {A : Around} {E : Value → Shared → Prop} {s : Shared}
end
section
variable {P : Program} {w : World} {K : Type} [DecidableEq K] {knd : KeyKind P w K} {d : Addr}
end
end DL

/-! DL, part zzq: dicts with tuples as keys as data: made by comprehension, asked with get. -/
namespace DL
open PySem PySem.Spec L2
open PyProof.Rows hiding St
section
variable {X : Cx} {W W0 : WX} {K : Kt} {ti : TI} {gi : AG} {g : TG} {b : BG} {vs vs' : List Nat} {tt : TT} {gt gk gv : EG} {tk tv : TE} {s1 s2 : Sg}
end
section
variable {X : Cx} {W : WX} {K : Kt} {s1 s2 : Sg} {pos p2 pn : Pos} {tg e ke ve : Expr} {ti : TI} {gi : AG} {g : TG} {b : BG} {vs' : List Nat} {tk tv : TE} {gk gv : EG}
end
end DL

/-! DL, part zzr: d.get(k, x) and len(d) of such a dict; k a tuple or None. -/
namespace DL
open PySem PySem.Spec L2
open PyProof.Rows hiding St
section
variable {X : Cx} {pins : List (Addr × Obj)} {σ : L2.St} {H : Hp} {s : Shared} {a : Addr} {y d : V} {u r : Value} {o : Option V} {A : Around} {E : Value → Shared → Prop}
end
section
variable {X : Cx} {o e f : Expr} {apos cpos : Pos} {td ty tx : TE}
end
section
variable {K : Kt} {W : WX} {td ty tx : TE} {gd gk gx : EG} {s1 s2 s3 : Sg}
end
section
variable {X : Cx} {W : WX} {K : Kt} {s1 s2 s3 : Sg} {o e f : Expr} {apos cpos : Pos} {td ty tx : TE} {gd gk gx : EG}
end
/-! len(d) -/
section
variable {X : Cx} {W : WX} {K : Kt} {Kf : PySem.W.Frag} {pos p : Pos} {a : Expr} {t : TA} {g : AG}
end
end DL
namespace DL
open PySem PySem.Spec L2
open PyProof.Rows hiding St
/-! d[k] -/
section
variable {K : Kt} {W : WX} {td ty : TE} {gd gk : EG} {s1 s2 : Sg}
end
section
variable {X : Cx} {W : WX} {K : Kt} {s1 s2 : Sg} {pos : Pos} {o i : Expr} {td ty : TE} {gd gk : EG}
end
end DL

/-! DL, part zzs: comprehensions with two sources and a test. -/
namespace DL
open PySem PySem.Spec L2
open PyProof.Rows hiding St
section
variable {X : Cx} {W : WX} {K : Kt} {Kf : PySem.W.Frag} {s : Sg} {pos spos py : Pos} {x : Str} {tg e tg1 e1 elt : Expr} {ti ti1 : TI} {gi gi1 : AG} {g g1 : TG} {b b1 : BG} {vs vs' vs1 vs1' : List Nat} {gt ge : EG} {tt : TT} {c : Expr} {te : TE} {f : Fx} {en : List Sl} {w : Wl} {σ : St} {F H : Hp}
end
section
variable {X : Cx} {W : WX} {K : Kt} {s1 s2 : Sg} {pos p2 pn spos py : Pos} {x : Str} {tg e ke ve : Expr} {ti : TI} {gi : AG} {g : TG} {b : BG} {vs' : List Nat} {tk tv : TE} {gk gv : EG}
end
end DL

namespace PF
open PySem PySem.Spec L2 DL
open PyProof.Rows hiding St
end PF

/-! What the program's functions answer. -/
namespace PF
open PySem PySem.Spec L2 DL
open PyProof.Rows hiding St
section
variable {w : Wl}
instance (n : Int) (s : IS) : Decidable (isSet n s) := inferInstanceAs (Decidable (_ ∧ _ ∧ _))
/-! ties -/
end
end PF

/-! What the program's functions answer: frames. -/
namespace PF
open PySem PySem.Spec L2 DL
open PyProof.Rows hiding St
/-! ### first_wrong -/
/-! ### ties -/
section
variable {w : Wl}
/-! ### all sets -/
theorem ssets_len : ∀ n : Nat, n ≤ 5 → (ssets n).length ≤ 31
  | 0, _ => by decide
  | 1, _ => by decide
  | 2, _ => by decide
  | 3, _ => by decide
  | 4, _ => by decide
  | 5, _ => by decide
  | n + 6, h => by omega
/-! ### frames -/
end
end PF

namespace LW
open PySem PySem.Spec L2 DL PF
open PyProof.Rows hiding St
end LW

/-! What the program's functions answer: fractions, corners, books. -/
namespace PF
open PySem PySem.Spec L2 DL
open PyProof.Rows hiding St
/-! ### fractions -/
abbrev Fr := Int × Int
def leQ (q r : Fr) : Prop := q.1 * r.2 ≤ r.1 * q.2
instance (q r : Fr) : Decidable (leQ q r) := inferInstanceAs (Decidable (_ ≤ _))
section
variable {w w1 w2 : Wl} {en : List Sl} {ga gb : EG}
end
section
variable {w : Wl}
/-! ### limits, corners -/
/-! ### sayings, books -/
/-! ### numbers -/
/-! ### what sayings say -/
end
end PF

/-! What the laws' own helpers answer. -/
namespace LW
open PySem PySem.Spec L2 DL PF
open PyProof.Rows hiding St
/-! ### one of some things -/
/-! ### fractions in lowest terms -/
/-! ### grains, numbers, corners -/
end LW

/-! What the laws' own helpers answer: corners, frames, books. -/
namespace LW
open PySem PySem.Spec L2 DL PF
open PyProof.Rows hiding St
section
variable {w : Wl} {en : List Sl} {ga gb : EG}
end
section
variable {w : Wl}
end
/-! ### corners -/
/-! ### frames -/
def isFrame (n : Nat) (ls : List IS) : Prop := ls ≠ [] ∧ ls.Sublist (ssets n)
theorem isFrame.set {n : Nat} {ls : List IS} (h : isFrame n ls) : ∀ s ∈ ls, isSet n s := fun s hs => mem_ssets.mp (h.2.subset hs)
theorem isFrame.len {n : Nat} {ls : List IS} (h : isFrame n ls) (hn : n ≤ 5) : ls.length ≤ 31 := Nat.le_trans h.2.length_le (ssets_len n hn)
/-! ### books -/
end LW

/-! What the laws' own helpers answer: within, wrong. -/
namespace LW
open PySem PySem.Spec L2 DL PF
open PyProof.Rows hiding St
/-! ### wrong corners -/
end LW

/-! What the program's functions answer: bars. -/
namespace PF
open PySem PySem.Spec L2 DL
open PyProof.Rows hiding St
/-! ### what a dict holds -/
/-! ### bars -/
section
variable {w : Wl}
/-! ### the lots that are left -/
end
end PF

/-! What the laws' own helpers answer: bars. -/
namespace LW
open PySem PySem.Spec L2 DL PF
open PyProof.Rows hiding St
/-! ### drawn bars -/
/-! ### the possible lots, the sure counts -/
/-! ### numbers near bars -/
end LW

namespace K22
open PySem PySem.Spec L2 DL PF LW
open PyProof.Rows hiding St
def topS (i : Nat) : Stmt := PySem.Challenge.pw_surefinds_k22_whole_coherent_bars.main.body.getD i (.Pass ⟨0, 0, 0, 0⟩)
abbrev s__law_take : Stmt := topS 39
abbrev s__law_of : Stmt := topS 40
abbrev s__law_sets : Stmt := topS 46
abbrev s__law_low : Stmt := topS 41
abbrev s__law_number : Stmt := topS 44
abbrev s__law_corner : Stmt := topS 45
abbrev s__law_above : Stmt := topS 48
abbrev s__law_bars : Stmt := topS 49
abbrev s__law_grain : Stmt := topS 43
abbrev s__law_frame : Stmt := topS 47
abbrev s_is_row : Stmt := topS 11
abbrev s_is_ascending : Stmt := topS 18
abbrev s_is_whole : Stmt := topS 10
abbrev s_is_count : Stmt := topS 12
abbrev s_is_index : Stmt := topS 17
abbrev s_is_set : Stmt := topS 19
abbrev s_is_frame : Stmt := topS 23
abbrev s_check_frame : Stmt := topS 24
abbrev s_is_fraction : Stmt := topS 13
abbrev s_is_number : Stmt := topS 14
abbrev s_is_limit : Stmt := topS 15
abbrev s_is_corner : Stmt := topS 16
abbrev s_is_bar : Stmt := topS 20
abbrev s_first_wrong_bar : Stmt := topS 32
abbrev s_check_bars : Stmt := topS 33
abbrev s_ranked : Stmt := topS 28
abbrev s_in_order : Stmt := topS 7
abbrev s_unlike_limits : Stmt := topS 27
abbrev s_is_part : Stmt := topS 25
abbrev s_highest_within : Stmt := topS 36
abbrev s_is_under : Stmt := topS 29
abbrev s_first_split : Stmt := topS 35
abbrev s_is_coherent : Stmt := topS 34
abbrev s__law_at_most : Stmt := topS 42
abbrev s__law_inside : Stmt := topS 53
abbrev s__law_by_corners : Stmt := topS 55
abbrev s__law_bar_cells : Stmt := topS 52
abbrev s__law_within : Stmt := topS 50
abbrev s__law_possible : Stmt := topS 51
abbrev s__law_by_cells : Stmt := topS 54
abbrev s__law_right : Stmt := topS 56
abbrev s__law_well : Stmt := topS 38
abbrev s_law : Stmt := topS 57
variable {P : Program} {w : World} {K : Kt} {mg : Str → Option Value} {base : Heap}
end K22

namespace K22
open PySem PySem.Spec L2 DL PF LW
open PyProof.Rows hiding St
variable {P : Program} {w : World} {K : Kt} {mg : Str → Option Value} {base : Heap}
def dfs : List He.DefD := [⟨("_law_take", none), "_law_take", "_law_take", defArgs s__law_take, defBody s__law_take, defScope s__law_take, [], []⟩, ⟨("_law_of", none), "_law_of", "_law_of", defArgs s__law_of, defBody s__law_of, defScope s__law_of, [], []⟩, ⟨("_law_sets", none), "_law_sets", "_law_sets", defArgs s__law_sets, defBody s__law_sets, defScope s__law_sets, [], []⟩, ⟨("_law_low", none), "_law_low", "_law_low", defArgs s__law_low, defBody s__law_low, defScope s__law_low, [], []⟩, ⟨("_law_number", none), "_law_number", "_law_number", defArgs s__law_number, defBody s__law_number, defScope s__law_number, [], []⟩, ⟨("_law_corner", none), "_law_corner", "_law_corner", defArgs s__law_corner, defBody s__law_corner, defScope s__law_corner, [], []⟩, ⟨("_law_above", none), "_law_above", "_law_above", defArgs s__law_above, defBody s__law_above, defScope s__law_above, [], []⟩, ⟨("_law_bars", none), "_law_bars", "_law_bars", defArgs s__law_bars, defBody s__law_bars, defScope s__law_bars, [], []⟩, ⟨("_law_grain", none), "_law_grain", "_law_grain", defArgs s__law_grain, defBody s__law_grain, defScope s__law_grain, [], []⟩, ⟨("_law_frame", none), "_law_frame", "_law_frame", defArgs s__law_frame, defBody s__law_frame, defScope s__law_frame, [], []⟩, ⟨("is_row", none), "is_row", "is_row", defArgs s_is_row, defBody s_is_row, defScope s_is_row, [], []⟩, ⟨("is_ascending", none), "is_ascending", "is_ascending", defArgs s_is_ascending, defBody s_is_ascending, defScope s_is_ascending, [], []⟩, ⟨("is_whole", none), "is_whole", "is_whole", defArgs s_is_whole, defBody s_is_whole, defScope s_is_whole, [], []⟩, ⟨("is_count", none), "is_count", "is_count", defArgs s_is_count, defBody s_is_count, defScope s_is_count, [], []⟩, ⟨("is_index", none), "is_index", "is_index", defArgs s_is_index, defBody s_is_index, defScope s_is_index, [], []⟩, ⟨("is_set", none), "is_set", "is_set", defArgs s_is_set, defBody s_is_set, defScope s_is_set, [], []⟩, ⟨("is_frame", none), "is_frame", "is_frame", defArgs s_is_frame, defBody s_is_frame, defScope s_is_frame, [], []⟩, ⟨("check_frame", none), "check_frame", "check_frame", defArgs s_check_frame, defBody s_check_frame, defScope s_check_frame, [], []⟩, ⟨("is_fraction", none), "is_fraction", "is_fraction", defArgs s_is_fraction, defBody s_is_fraction, defScope s_is_fraction, [], []⟩, ⟨("is_number", none), "is_number", "is_number", defArgs s_is_number, defBody s_is_number, defScope s_is_number, [], []⟩, ⟨("is_limit", none), "is_limit", "is_limit", defArgs s_is_limit, defBody s_is_limit, defScope s_is_limit, [], []⟩, ⟨("is_corner", none), "is_corner", "is_corner", defArgs s_is_corner, defBody s_is_corner, defScope s_is_corner, [], []⟩, ⟨("is_bar", none), "is_bar", "is_bar", defArgs s_is_bar, defBody s_is_bar, defScope s_is_bar, [], []⟩, ⟨("first_wrong_bar", none), "first_wrong_bar", "first_wrong_bar", defArgs s_first_wrong_bar, defBody s_first_wrong_bar, defScope s_first_wrong_bar, [], []⟩, ⟨("check_bars", none), "check_bars", "check_bars", defArgs s_check_bars, defBody s_check_bars, defScope s_check_bars, [], []⟩, ⟨("ranked", none), "ranked", "ranked", defArgs s_ranked, defBody s_ranked, defScope s_ranked, [], []⟩, ⟨("in_order", none), "in_order", "in_order", defArgs s_in_order, defBody s_in_order, defScope s_in_order, [], []⟩, ⟨("unlike_limits", none), "unlike_limits", "unlike_limits", defArgs s_unlike_limits, defBody s_unlike_limits, defScope s_unlike_limits, [], []⟩, ⟨("is_part", none), "is_part", "is_part", defArgs s_is_part, defBody s_is_part, defScope s_is_part, [], []⟩, ⟨("highest_within", none), "highest_within", "highest_within", defArgs s_highest_within, defBody s_highest_within, defScope s_highest_within, [], []⟩, ⟨("is_under", none), "is_under", "is_under", defArgs s_is_under, defBody s_is_under, defScope s_is_under, [], []⟩, ⟨("first_split", none), "first_split", "first_split", defArgs s_first_split, defBody s_first_split, defScope s_first_split, [], []⟩, ⟨("is_coherent", none), "is_coherent", "is_coherent", defArgs s_is_coherent, defBody s_is_coherent, defScope s_is_coherent, [], []⟩, ⟨("_law_at_most", none), "_law_at_most", "_law_at_most", defArgs s__law_at_most, defBody s__law_at_most, defScope s__law_at_most, [], []⟩, ⟨("_law_inside", none), "_law_inside", "_law_inside", defArgs s__law_inside, defBody s__law_inside, defScope s__law_inside, [], []⟩, ⟨("_law_by_corners", none), "_law_by_corners", "_law_by_corners", defArgs s__law_by_corners, defBody s__law_by_corners, defScope s__law_by_corners, [], []⟩, ⟨("_law_bar_cells", none), "_law_bar_cells", "_law_bar_cells", defArgs s__law_bar_cells, defBody s__law_bar_cells, defScope s__law_bar_cells, [], []⟩, ⟨("_law_within", none), "_law_within", "_law_within", defArgs s__law_within, defBody s__law_within, defScope s__law_within, [], []⟩, ⟨("_law_possible", none), "_law_possible", "_law_possible", defArgs s__law_possible, defBody s__law_possible, defScope s__law_possible, [], []⟩, ⟨("_law_by_cells", none), "_law_by_cells", "_law_by_cells", defArgs s__law_by_cells, defBody s__law_by_cells, defScope s__law_by_cells, [], []⟩, ⟨("_law_right", none), "_law_right", "_law_right", defArgs s__law_right, defBody s__law_right, defScope s__law_right, [], []⟩, ⟨("_law_well", none), "_law_well", "_law_well", defArgs s__law_well, defBody s__law_well, defScope s__law_well, [], []⟩, ⟨("law", none), "law", "law", defArgs s_law, defBody s_law, defScope s_law, [], []⟩]
def fas : List He.Fa := [.glo "_law_take", .glo "_law_of", .glo "_law_sets", .glo "_law_low", .glo "_law_number", .glo "_law_corner", .glo "_law_above", .glo "_law_bars", .glo "_law_grain", .glo "_law_frame", .glo "is_row", .glo "is_ascending", .glo "is_whole", .glo "is_count", .glo "is_index", .glo "is_set", .glo "is_frame", .glo "check_frame", .glo "is_fraction", .glo "is_number", .glo "is_limit", .glo "is_corner", .glo "is_bar", .glo "first_wrong_bar", .glo "check_bars", .glo "ranked", .glo "in_order", .glo "unlike_limits", .glo "is_part", .glo "highest_within", .glo "is_under", .glo "first_split", .glo "is_coherent", .glo "_law_at_most", .glo "_law_inside", .glo "_law_by_corners", .glo "_law_bar_cells", .glo "_law_within", .glo "_law_possible", .glo "_law_by_cells", .glo "_law_right", .glo "_law_well", .glo "law", .free "abs", .free "all", .free "any", .free "divmod", .free "enumerate", .free "int", .free "len", .free "list", .free "max", .free "min", .free "range", .free "repr", .free "sorted", .free "sum", .free "tuple", .free "type", .free "zip", .int "MOST_BARS" 240, .int "MOST_CORNERS" 60, .int "MOST_COUNT" 5]
def lams : List Str := ["in_order"]
abbrev R : PySem.W.OpenRow := PySem.W.OpenLaw.row PySem.Challenge.rw_surefinds_k22_whole_coherent_bars
abbrev vw : Program := PySem.W.view R.prog [0, 7, 57]
def lo : List Str := (["FindError", "InvalidFrame", "InvalidBars", "ONE", "MOST_COUNT", "is_whole", "is_row", "is_count", "is_fraction", "is_number", "is_limit", "is_corner", "is_index", "is_ascending", "is_set", "is_bar", "MOST_CORNERS", "is_frame", "check_frame", "is_part", "unlike_limits", "ranked", "is_under", "MOST_BARS", "first_wrong_bar", "check_bars", "is_coherent", "first_split", "highest_within", "_law_well"] : List Str) ++ (["_law_take", "_law_of", "_law_low", "_law_at_most", "_law_grain", "_law_number", "_law_corner", "_law_sets", "_law_frame", "_law_above", "_law_bars", "_law_within", "_law_possible", "_law_bar_cells", "_law_inside", "_law_by_cells", "_law_by_corners", "_law_right"] : List Str)
def cns : List (Str × List Int) := [("ONE", [1, 1])]
def ims : List (Str × String) := [("gcd", "math.gcd")]
def asl : List Addr := [3, 6, 4, 52, 74, 95, 98, 103, 110, 117, 124, 131, 138, 145, 150, 157, 162, 167, 172, 177, 184, 189, 194, 199, 204, 211, 218, 225, 230, 235, 242, 249, 256, 263, 270, 277, 284, 291, 296, 301, 306, 311, 316, 321, 326, 333, 338, 343, 348, 353, 0, 51, 73, 94, 102, 109, 116, 123, 130, 137, 144, 149, 156, 161, 166, 171, 176, 183, 188, 193, 198, 203, 210, 217, 224, 229, 234, 241, 248, 255, 262, 269, 276, 283, 290, 295, 300, 305, 310, 315, 320, 325, 332, 337, 342, 347, 352, 50, 53, 71, 72, 92, 93, 99, 101, 104, 106, 107, 108, 111, 113, 114, 115, 118, 120, 121, 122, 125, 127, 128, 129, 132, 134, 135, 136, 139, 141, 142, 143, 146, 148, 151, 153, 154, 155, 158, 160, 163, 165, 168, 170, 173, 175, 178, 180, 181, 182, 185, 187, 190, 192, 195, 197, 200, 202, 205, 207, 208, 209, 212, 214, 215, 216, 219, 221, 222, 223, 226, 228, 231, 233, 236, 238, 239, 240, 243, 245, 246, 247, 250, 252, 253, 254, 257, 259, 260, 261, 264, 266, 267, 268, 271, 273, 274, 275, 278, 280, 281, 282, 285, 287, 288, 289, 292, 294, 297, 299, 302, 304, 307, 309, 312, 314, 317, 319, 322, 324, 327, 329, 330, 331, 334, 336, 339, 341, 344, 346, 349, 351, 70, 59, 91, 80]
abbrev hk : PySem.W.Hook := hookL asl fas dfs lams ims cns
def ob (s : PySem.W.SharedT) : He.AlD × Bool := obsL asl fas dfs lams ims cns (HandSHeadRun.getT s)
theorem run (w : World) : HandSHeadRun.RunEqI R vw hk ob 8000 lo w := by
  unfold HandSHeadRun.RunEqI
  kernel_rfl
end K22
set_option Elab.async false
set_option linter.all false
set_option maxRecDepth 100000
set_option maxHeartbeats 4000000
set_option autoImplicit false
/-! DL, part a: data behind values, the state of a body, what an expression comes to. -/
namespace DL
open PySem PySem.Spec L2
open PyProof.Rows hiding St

section
variable {K : Kt} {Kf : PySem.W.Frag} {aw : Bs} {F F' H H' : Hp}
theorem DvAll.getV : ∀ {vs : List V} {ds : List D} {i : Nat} {v : V}, DvAll Kf aw F vs ds → vs[i]? = some v → ∃ d, ds[i]? = some d ∧ Dv Kf aw F v d
  | _, _, i, _, .nil, h => by simp at h
  | _, _, 0, _, .cons a _, h => by
    simp at h
    subst h
    exact ⟨_, rfl, a⟩
  | _, _, i + 1, _, .cons _ b, h => by
    obtain ⟨v, e, r⟩ := DvAll.getV (i := i) b (by simpa using h)
    exact ⟨v, by simpa using e, r⟩
theorem DvAll.app : ∀ {vs : List V} {ds : List D} {us : List V} {es : List D}, DvAll Kf aw F vs ds → DvAll Kf aw F us es → DvAll Kf aw F (vs ++ us) (ds ++ es)
  | _, _, _, _, .nil, h => h
  | _, _, _, _, .cons a b, h => .cons a (DvAll.app b h)
theorem DvAll.take : ∀ {vs : List V} {ds : List D} (n : Nat), DvAll Kf aw F vs ds → DvAll Kf aw F (vs.take n) (ds.take n)
  | _, _, 0, _ => .nil
  | _, _, _ + 1, .nil => .nil
  | _, _, n + 1, .cons a b => .cons a (DvAll.take n b)
theorem DvAll.drop : ∀ {vs : List V} {ds : List D} (n : Nat), DvAll Kf aw F vs ds → DvAll Kf aw F (vs.drop n) (ds.drop n)
  | _, _, 0, h => h
  | _, _, _ + 1, .nil => .nil
  | _, _, n + 1, .cons _ b => DvAll.drop n b
theorem DvAll.snoc {vs : List V} {ds : List D} {v : V} {d : D} (h : DvAll Kf aw F vs ds) (r : Dv Kf aw F v d) : DvAll Kf aw F (vs ++ [v]) (ds ++ [d]) := h.app (.one r)
end

/-! ### the state -/
section
variable {aw : Bs} {p : Addr} {F H F1 H1 F2 H2 : Hp} {w w1 w2 : Wl} {o : HO}
theorem Go.here (g : Go aw F H F1 H1 w) : Go aw F1 H1 F1 H1 w := ⟨Same.refl _, fun _ _ _ _ h => h, fun _ h => h, fun h => h, g.sub, g.nt, fun _ _ h => h, g.wl⟩
/-- a list is written: the tables stay -/
theorem tabs_lst {T : List (Addr × Str)} {H : Hp} {p : Addr} {vs us : List V} (t : LamX.Tabs T H) (hp : H p = some (.lst vs)) : LamX.Tabs T (upd H p (.lst us)) := fun q hq => by
  obtain ⟨ps, h1, h2, h3⟩ := t q hq
  refine ⟨ps, by rw [upd_ne (ne_of h1 hp fun z => nomatch z)]; exact h1, h2, fun pos cv hc => ?_⟩
  obtain ⟨c, e1, e2⟩ := h3 pos cv hc
  exact ⟨c, e1, by rw [upd_ne (ne_of e2 hp (fun z => by unfold LamX.CodeO at z; cases z))]; exact e2⟩
/-- an own list is written, or laid -/
theorem Go.wr {us : List V} (g : Go aw F H F1 H1 w) (n : H p = none) (fp : F1 p = none) (np : some p ≠ aw.a) (hp : H1 p = none ∨ ∃ vs, H1 p = some (.lst vs)) : Go aw F H F1 (upd H1 p (.lst us)) w := by
  refine ⟨g.ff, fun b u nb k q => ?_, fun b nb => ne_upd (g.ne b nb), fun t => ?_, fun b u q => ?_, g.nt, g.fr, fun a ea => ?_⟩
  · rw [upd_ne (fun z => by rw [z, n] at q; cases q)]
    exact g.hh b u nb k q
  · rcases hp with hp | ⟨vs, hp⟩
    · exact (g.tb t).ext fun b u e => by
        rw [upd_ne (ne_of_none e hp)]
        exact e
    · exact tabs_lst (g.tb t) hp
  · rw [upd_ne (fun z => by rw [z, fp] at q; cases q)]
    exact g.sub b u q
  · rw [upd_ne (fun z => np (by rw [ea, z]))]
    exact g.wl a ea
/-- the generator is written -/
theorem Go.tn {q : Addr} (g : Go aw F H F1 H1 w) (ha : aw.a = some q) (fa : F1 q = none) (w' : Wl) : Go aw F H F1 (upd H1 q (.lst (w'.map V.int))) w' := by
  refine ⟨g.ff, fun b u nb k q => ?_, fun b nb => ne_upd (g.ne b nb), fun t => tabs_lst (g.tb t) (g.wl q ha), fun b u z => ?_, g.nt, g.fr, fun a ea => ?_⟩
  · rw [upd_ne (fun z => nb (by rw [ha, z]))]
    exact g.hh b u nb k q
  · rw [upd_ne (fun y => by rw [y, fa] at z; cases z)]
    exact g.sub b u z
  · rw [ha] at ea
    cases ea
    exact upd_same
/-- a new object, not frozen -/
theorem Go.laid (g : Go aw F H F H w) (hp : H p = none) (o : HO) : Go aw F H F (upd H p o) w := by
  have na : ∀ a, aw.a = some a → a ≠ p := fun a ea e => by
    rw [← e, g.wl a ea] at hp
    cases hp
  refine ⟨Same.refl _, fun b u _ _ e => same_upd2 hp b u e, fun b n => ne_upd n, fun t => t.ext fun b u e => same_upd2 hp b u e, fun b u e => same_upd2 hp b u (g.sub b u e), g.nt, fun _ _ h => h, fun a ea => ?_⟩
  rw [upd_ne (na a ea)]
  exact g.wl a ea
end

theorem DicOk.keep {K : PySem.W.Frag} {aw : Bs} {H0 : Hp} {en en' : List Sl} {σ σ' : St} {F H F' H' : Hp} (d : DicOk K aw H0 en σ F H) (he : ∀ (i : Nat) (kvs : List (List Int × D)), en'[i]? = some (.dic kvs) → en[i]? = some (.dic kvs) ∧ σ'[i]? = σ[i]?)
    (hH : ∀ (a : Addr) (us : List (List Key × V)), H a = some (.dT us) → H0 a = none → F a = none → H' a = some (.dT us) ∧ F' a = none) (s : Same F F') : DicOk K aw H0 en' σ' F' H' := fun i kvs h => by
  obtain ⟨e1, e2⟩ := he i kvs h
  obtain ⟨⟨a, us, q1, q2, q3, q4, r⟩, inj⟩ := d i kvs e1
  obtain ⟨h1, h2⟩ := hH a us q2 q3 q4
  refine ⟨⟨a, us, e2.trans q1, h1, q3, h2, r.mono s⟩, fun j lvs hj z => ?_⟩
  obtain ⟨e3, e4⟩ := he j lvs hj
  exact inj j lvs e3 (e4.symm.trans (z.trans e2))
section
variable {K : Kt} {Kf : PySem.W.Frag} {f : Fx} {en : List Sl} {w w' : Wl} {σ : St} {F H F' H' : Hp}
theorem Ok.step (o : Ok K f en w σ F H) (g : Go f.aw F H F' H' w') : Ok K f en w' σ F' H' := by
  refine ⟨o.go.trans g, o.base, o.len, fun i d e => ?_, fun i ds e => ?_, o.tT, g.tb o.tabs, fun i h => ?_, o.inj, o.dic.keep (fun _ _ h => ⟨h, rfl⟩) (fun a us h1 h2 h3 => ⟨g.hh a _ (fun z => (o.base a z.symm).1 h2) (fun _ z => nomatch z) h1, g.fr a (Kp.of h1) h3⟩) g.ff⟩
  · obtain ⟨v, e1, r⟩ := o.dat i d e
    exact ⟨v, e1, r.mono g.ff⟩
  · obtain ⟨a, vs, e1, h1, h2, h3, r⟩ := o.own i ds e
    have na : some a ≠ f.aw.a := fun z => (o.base a z.symm).1 h2
    exact ⟨a, vs, e1, g.hh a _ na (fun _ z => nomatch z) h1, h2, g.fr a (Kp.of h1) h3, r.mono g.ff⟩
  · obtain ⟨l, e1, e2, e3, e4, gl⟩ := o.hol i h
    exact ⟨l, e1, e2, e3, e4, gl.trans (e3 ▸ g)⟩
theorem Ok.awF (o : Ok K f en w σ F H) : ∀ a, f.aw.a = some a → F a = none := fun a e => o.go.fr a (.inl ⟨e.symm, (o.base a e).1⟩) (o.base a e).2
theorem Ok.here (o : Ok K f en w σ F H) : Go f.aw F H F H w := o.go.here
end

/-! ### what an expression comes to -/
def Res.bind (r : Res) (k : D → Wl → Res) : Res := match r with
  | .ok d w => k d w
  | .ex c fn a w => .ex c fn a w
  | .bad => .bad
section
variable {K : Kt} {Kf : PySem.W.Frag} {W : WX} {aw : Bs} {F H F1 H1 F' H' : Hp} {Q R : VK} {E : XK} {w w1 : Wl} {s : Sg} {r : Res} {t ta tb : TE} {g ga gb : EG} {f : Fx} {en : List Sl} {σ : St} {v : V} {d : D} {ds : List D} {vs : List V}
/-- one part, then the rest -/
theorem ES.bindW {s' : Sg} {k : D → Wl → Res} (ha : ES K W s' ta ga) (o : Ok K f en w σ F H) (h : Wn s K f.aw F H Q (WE W σ) ((ga en w).bind k))
    (hk : ∀ d w1 v F1 H1, Go f.aw F H F1 H1 w1 → Ok K f en w1 σ F1 H1 → Dq K f.aw F1 H1 v d → Wn s K f.aw F1 H1 Q (WE W σ) (k d w1) → R v H1) : ta σ H R := by
  refine ha.toWk f en w σ F H R o ?_
  cases q : ga en w with
  | bad => rw [q] at h; exact h
  | ex c fn a w1 => rw [q] at h; exact h
  | ok d w1 =>
    rw [q] at h
    exact fun v F1 H1 g r => hk d w1 v F1 H1 g (o.step g) r (Wn.any h g)
theorem ES.bindS {s' : Sg} {k : D → Wl → Res} (ha : ES K W s' ta ga) (hs : s' ≠ .wk) (o : Ok K f en w σ F H) (h : Wn s K f.aw F H Q (WE W σ) ((ga en w).bind k))
    (hk : ∀ d w1 v F1 H1, Go f.aw F H F1 H1 w1 → Ok K f en w1 σ F1 H1 → Dv K f.aw F1 v d → Wn s K f.aw F1 H1 Q (WE W σ) (k d w1) → R v H1) : ta σ H R := by
  refine ha.toSt hs f en w σ F H R o ?_
  cases q : ga en w with
  | bad => rw [q] at h; exact h
  | ex c fn a w1 => rw [q] at h; exact h
  | ok d w1 =>
    rw [q] at h
    exact fun v F1 H1 g r => hk d w1 v F1 H1 g (o.step g) r (Wn.any h g)
theorem Wn.tupNew (h : Wn .st Kf aw F H Q E (.ok (.tup ds) w)) (g : Go aw F H F H w) (r : DvAll Kf aw F vs ds) : ∀ p, H p = none → Q (.ref p) (upd H p (.tup vs)) := fun p hp =>
  h _ _ _ (g.new hp _) (.tup upd_same (r.mono (same_upd2 (g.free hp))))
theorem Wn.lstNew (h : Wn .fr Kf aw F H Q E (.ok (.lst ds) w)) (g : Go aw F H F H w) (r : DvAll Kf aw F vs ds) : ∀ p, H p = none → Q (.ref p) (upd H p (.lst vs)) := fun p hp =>
  h _ _ _ (g.laid hp _) ⟨ds, p, vs, rfl, rfl, hp, upd_same, g.free hp, r⟩
theorem Dq.tupl (q : Dq Kf aw F H v (.tup ds)) (s : Same F H) : ∃ a vs, v = .ref a ∧ SqT Kf H a vs ∧ DvAll Kf aw F vs ds := by
  rcases q with q | ⟨ds', a, vs, e1, e2, n, h, r⟩
  · cases q with
    | tup h r => exact ⟨_, _, rfl, SqT.of (s _ _ h), r⟩
  · cases e1
theorem Dq.conl (q : Dq Kf aw F H v (.con ds)) (s : Same F H) : ∃ a vs, v = .ref a ∧ SqT Kf H a vs ∧ DvAll Kf aw F vs ds := by
  rcases q with q | ⟨ds', a, vs, e1, e2, n, h, r⟩
  · cases q with
    | con h r => exact ⟨_, _, rfl, sqT_same s h, r⟩
  · cases e1
end
end DL

/-! DL, part b: expressions. -/
namespace DL
open PySem PySem.Spec L2
open PyProof.Rows hiding St

/-! ### names and constants -/
def eVar (i : Nat) : EG := fun en w => match en[i]? with
  | some (.dat d) => .ok d w
  | _ => .bad
def eOwn (i : Nat) : EG := fun en w => match en[i]? with
  | some (.own ds) => .ok (.lst ds) w
  | _ => .bad
def eC (d : D) : EG := fun _ w => .ok d w
section
variable {X : Cx} {W : WX} {K : Kt} {Kf : PySem.W.Frag} {pos : Pos}
theorem de_var (i : Nat) {x : Str} (hN : X.N[i]? = some x := by rfl) (hv : Vis X.env.scope x := by first | exact Or.inl rfl | exact Or.inr (Or.inl rfl) | exact Or.inr (Or.inr rfl))
    (hd : (x == ("__debug__" : Str)) = false := by decide) (hcd : (x == ("__classdict__" : Str)) = false := by decide) (hK : X.K = K.K := by rfl) : DE K X W .st (.Name x pos) (tVar i) (eVar i) := by
  obtain ⟨K0, T0, L0⟩ := K
  cases hK
  refine ⟨rfl, pe_var hN hv hd hcd, fun f en w σ F H Q o h => ?_⟩
  unfold eVar at h
  cases q : en[i]? with
  | none => rw [q] at h; exact h.elim
  | some sl =>
    cases sl with
    | non => rw [q] at h; exact h.elim
    | hol => rw [q] at h; exact h.elim
    | dic _ => rw [q] at h; exact h.elim
    | own ds => rw [q] at h; exact h.elim
    | dat d =>
      rw [q] at h
      obtain ⟨v, e, r⟩ := o.dat i d q
      exact ⟨v, e, Wn.val h o.here r⟩
theorem de_own (i : Nat) {x : Str} (hN : X.N[i]? = some x := by rfl) (hv : Vis X.env.scope x := by first | exact Or.inl rfl | exact Or.inr (Or.inl rfl) | exact Or.inr (Or.inr rfl))
    (hd : (x == ("__debug__" : Str)) = false := by decide) (hcd : (x == ("__classdict__" : Str)) = false := by decide) (hK : X.K = K.K := by rfl) : DE K X W .wk (.Name x pos) (tVar i) (eOwn i) := by
  obtain ⟨K0, T0, L0⟩ := K
  cases hK
  refine ⟨rfl, pe_var hN hv hd hcd, fun f en w σ F H Q o h => ?_⟩
  unfold eOwn at h
  cases q : en[i]? with
  | none => rw [q] at h; exact h.elim
  | some sl =>
    cases sl with
    | non => rw [q] at h; exact h.elim
    | hol => rw [q] at h; exact h.elim
    | dic _ => rw [q] at h; exact h.elim
    | dat ds => rw [q] at h; exact h.elim
    | own ds =>
      rw [q] at h
      obtain ⟨a, vs, e, h1, h2, h3, r⟩ := o.own i ds q
      have na : some a ≠ f.aw.a := fun z => (o.base a z.symm).1 h2
      exact ⟨_, e, h _ F H o.here (.inr ⟨ds, a, vs, rfl, rfl, na, h1, r⟩)⟩
theorem es_c {K : Kt} {v : V} {d : D} (r : ∀ aw F, Dv K aw F v d) : ES K W .st (tC v) (eC d) := fun f en w σ F H Q o h => h v F H o.here (r _ _)
theorem de_int {i : Int} {j} (hK : X.K = K.K := by rfl) : DE K X W .st (.Constant (.int i) j pos) (tC (.int i)) (eC (.int i)) := by
  obtain ⟨K0, T0, L0⟩ := K
  cases hK
  exact ⟨rfl, pe_int, es_c fun _ _ => .int i⟩
theorem de_bl {b : Bool} {j} (hK : X.K = K.K := by rfl) : DE K X W .st (.Constant (.bool b) j pos) (tC (.bl b)) (eC (.bl b)) := by
  obtain ⟨K0, T0, L0⟩ := K
  cases hK
  exact ⟨rfl, pe_bl, es_c fun _ _ => .bl b⟩
theorem de_non {j} (hK : X.K = K.K := by rfl) : DE K X W .st (.Constant .none j pos) (tC .non) (eC .non) := by
  obtain ⟨K0, T0, L0⟩ := K
  cases hK
  exact ⟨rfl, pe_non, es_c fun _ _ => .non⟩
/-- a constant of the module -/
theorem de_gint {x : Str} {i : Int} (hg : Gl X x) (hm : ∃ t, X.mg x = some (.int i t)) (hd : (x == ("__debug__" : Str)) = false := by decide) (hK : X.K = K.K := by rfl) : DE K X W .st (.Name x pos) (tC (.int i)) (eC (.int i)) := by
  obtain ⟨K0, T0, L0⟩ := K
  cases hK
  obtain ⟨t, hm⟩ := hm
  exact ⟨rfl, pe_glob hg hm ⟨t, rfl⟩ hd, es_c fun _ _ => .int i⟩
/-- a built-in class by its name -/
theorem de_ty {x : Str} {n : String} (hg : Gl X x) (hm : X.mg x = none) (hv : bootBuiltins x = some (.type n)) (hn : x ≠ "__name__" := by decide) (hd : (x == ("__debug__" : Str)) = false := by decide) (hK : X.K = K.K := by rfl) : DE K X W .st (.Name x pos) (tC (.ty n)) (eC (.ty n)) := by
  obtain ⟨K0, T0, L0⟩ := K
  cases hK
  exact ⟨rfl, pe_bltn hg hm hv rfl hn hd, es_c fun _ _ => .ty n⟩
end

/-! ### operators -/
def eBin (o : D → D → Wl → Res) (ga gb : EG) : EG := fun en w => (ga en w).bind fun d w1 => (gb en w1).bind fun e w2 => o d e w2
def eUn (o : D → Wl → Res) (ga : EG) : EG := fun en w => (ga en w).bind o
section
variable {X : Cx} {W : WX} {K : Kt} {Kf : PySem.W.Frag} {s s1 s2 s3 : Sg} {pos : Pos} {a b c : Expr} {ta tb tc : TE} {ga gb gc : EG} {r r' : R2} {o o' : D → D → Wl → Res}
theorem es_bin (hs : OpS K s r o) (ha : ES K W s1 ta ga) (hb : ES K W s2 tb gb) : ES K W s (tOp r ta tb) (eBin o ga gb) := fun f en w σ F H Q ok h =>
  ha.bindW ok h fun d w1 v F1 H1 g1 o1 r1 h1 => hb.bindW o1 h1 fun e w2 u F2 H2 g2 o2 r2 h2 => hs f.aw F2 H2 Q _ v u d e w2 o2.here (r1.go g2) r2 h2
theorem de_bin {op : Operator} (ho : OpR X (binaryOp op) r) (hs : OpS K s r o) (ha : DE K X W s1 a ta ga) (hb : DE K X W s2 b tb gb) : DE K X W s (.BinOp a op b pos) (tOp r ta tb) (eBin o ga gb) := by
  obtain ⟨K0, T0, L0⟩ := K
  cases ha.hK
  exact ⟨rfl, pe_op ho ha.pe hb.pe, es_bin hs ha.es hb.es⟩
/-- two ints -/
def oI (C : Int → Int → Bool) (g : Int → Int → D) : D → D → Wl → Res := fun d e w => match d, e with
  | .int i, .int j => if C i j then .ok (g i j) w else .bad
  | _, _ => .bad
theorem ops_I {C : Int → Int → Prop} {Cb : Int → Int → Bool} {gv : Int → Int → V} {g : Int → Int → D} (hC : ∀ i j, Cb i j = true → C i j) (hg : ∀ aw F i j, Dv Kf aw F (gv i j) (g i j)) : OpS Kf .st (rI C gv) (oI Cb g) := by
  intro aw F H Q E x y d e w go rx ry hw
  cases d <;> cases e <;> first
    | exact hw.elim
    | skip
  rename_i i j
  have hx := rx.int
  have hy := ry.int
  subst hx hy
  simp only [oI] at hw
  by_cases hc : Cb i j = true
  · rw [if_pos hc] at hw
    exact ⟨i, j, rfl, rfl, hC i j hc, Wn.val hw go (hg aw F i j)⟩
  · rw [if_neg hc] at hw
    exact hw.elim
theorem ops_I0 {gv : Int → Int → V} {g : Int → Int → D} (hg : ∀ aw F i j, Dv Kf aw F (gv i j) (g i j)) : OpS Kf .st (rI0 gv) (oI (fun _ _ => true) g) := by
  intro aw F H Q E x y d e w go rx ry hw
  cases d <;> cases e <;> first
    | exact hw.elim
    | skip
  rename_i i j
  have hx := rx.int
  have hy := ry.int
  subst hx hy
  exact ⟨i, j, rfl, rfl, Wn.val (show Wn .st Kf aw F H Q E (.ok (g i j) w) from hw) go (hg aw F i j)⟩
def oSub := oI (fun _ _ => true) fun i j => .int (i - j)
def oMul := oI (fun i j => decide (CMulW i j)) fun i j => .int (i * j)
def oFdiv := oI (fun i j => decide (CDivW i j)) fun i j => .int (i / j)
def oMod := oI (fun _ j => decide (0 < j)) fun i j => .int (i % j)
def oPow := oI (fun i j => decide (CPow i j)) fun i j => .int (i ^ j.toNat)
def rSubI : R2 := rI0 fun i j => .int (i - j)
def rMulI : R2 := rI CMulW fun i j => .int (i * j)
def rFdivI : R2 := rI CDivW fun i j => .int (i / j)
def rModI : R2 := rI (fun _ j => 0 < j) fun i j => .int (i % j)
def rPowI : R2 := rI CPow fun i j => .int (i ^ j.toNat)
theorem ops_sub : OpS Kf .st rSubI oSub := ops_I0 fun _ _ i j => .int _
theorem ops_mul : OpS Kf .st rMulI oMul := ops_I (fun i j h => of_decide_eq_true h) fun _ _ i j => .int _
theorem de_sub (ha : DE K X W s1 a ta ga) (hb : DE K X W s2 b tb gb) : DE K X W .st (.BinOp a .Sub b pos) (tOp rSubI ta tb) (eBin oSub ga gb) := by
  obtain ⟨K0, T0, L0⟩ := K
  cases ha.hK
  exact de_bin op_sub ops_sub ha hb
theorem de_mul (ha : DE K X W s1 a ta ga) (hb : DE K X W s2 b tb gb) : DE K X W .st (.BinOp a .Mult b pos) (tOp rMulI ta tb) (eBin oMul ga gb) := by
  obtain ⟨K0, T0, L0⟩ := K
  cases ha.hK
  exact de_bin op_mulW ops_mul ha hb
theorem de_fdiv (ha : DE K X W s1 a ta ga) (hb : DE K X W s2 b tb gb) : DE K X W .st (.BinOp a .FloorDiv b pos) (tOp rFdivI ta tb) (eBin oFdiv ga gb) := by
  obtain ⟨K0, T0, L0⟩ := K
  cases ha.hK
  exact de_bin op_fdivW (ops_I (fun i j h => of_decide_eq_true h) fun _ _ i j => .int _) ha hb
theorem de_mod (ha : DE K X W s1 a ta ga) (hb : DE K X W s2 b tb gb) : DE K X W .st (.BinOp a .Mod b pos) (tOp rModI ta tb) (eBin oMod ga gb) := by
  obtain ⟨K0, T0, L0⟩ := K
  cases ha.hK
  exact de_bin op_mod (ops_I (fun i j h => of_decide_eq_true h) fun _ _ i j => .int _) ha hb
theorem de_pow (ha : DE K X W s1 a ta ga) (hb : DE K X W s2 b tb gb) : DE K X W .st (.BinOp a .Pow b pos) (tOp rPowI ta tb) (eBin oPow ga gb) := by
  obtain ⟨K0, T0, L0⟩ := K
  cases ha.hK
  exact de_bin op_pow (ops_I (fun i j h => of_decide_eq_true h) fun _ _ i j => .int _) ha hb
/-! a + b: ints, texts, tuples, lists (frozen); a + b of lists, new -/
def oAddI := oI (fun _ _ => true) fun i j => .int (i + j)
def rAddI : R2 := rI0 fun i j => .int (i + j)
def rAddS : R2 := fun x y H Q => ∃ i j, x = .str i ∧ y = .str j ∧ i.length + j.length ≤ sizeLine ∧ Q (.str (i ++ j)) H
def oAddS : D → D → Wl → Res := fun d e w => match d, e with
  | .str i, .str j => if i.length + j.length ≤ sizeLine then .ok (.str (i ++ j)) w else .bad
  | _, _ => .bad
theorem ops_addS : OpS Kf .st rAddS oAddS := by
  intro aw F H Q E x y d e w go rx ry hw
  cases d <;> cases e <;> first
    | exact hw.elim
    | skip
  rename_i i j
  have hx := rx.str
  have hy := ry.str
  subst hx hy
  simp only [oAddS] at hw
  by_cases hc : i.length + j.length ≤ sizeLine
  · rw [if_pos hc] at hw
    exact ⟨i, j, rfl, rfl, hc, Wn.val hw go (.str _)⟩
  · rw [if_neg hc] at hw
    exact hw.elim
def oAddT : D → D → Wl → Res := fun d e w => match d, e with
  | .tup xs, .tup ys => if xs.length + ys.length ≤ sizeLine then .ok (.tup (xs ++ ys)) w else .bad
  | _, _ => .bad
theorem ops_addT : OpS Kf .st (rCatA Kf) oAddT := by
  intro aw F H Q E x y d e w go rx ry hw
  cases d <;> cases e <;> first
    | exact hw.elim
    | skip
  rename_i xs ys
  obtain ⟨a, us, rfl, hu, du⟩ := rx.tupl go.sub
  obtain ⟨b, vs, rfl, hv, dv⟩ := ry.tupl go.sub
  simp only [oAddT] at hw
  by_cases hc : xs.length + ys.length ≤ sizeLine
  · rw [if_pos hc] at hw
    refine ⟨a, b, us, vs, rfl, rfl, hu, hv, by rw [du.length, dv.length]; exact hc, fun e => ?_, fun _ e => ?_, fun _ _ => Wn.tupNew hw go (du.app dv)⟩
    · subst e
      cases du
      exact Wn.val hw go (by
        rcases ry with r | ⟨_, _, _, e, _⟩
        · exact r
        · cases e)
    · subst e
      cases dv
      rw [List.append_nil] at hw
      exact Wn.val hw go (by
        rcases rx with r | ⟨_, _, _, e, _⟩
        · exact r
        · cases e)
  · rw [if_neg hc] at hw
    exact hw.elim
def oAddL : D → D → Wl → Res := fun d e w => match d, e with
  | .lst xs, .lst ys => if xs.length + ys.length ≤ sizeLine then .ok (.lst (xs ++ ys)) w else .bad
  | _, _ => .bad
theorem ops_addL : OpS Kf .fr rCat oAddL := by
  intro aw F H Q E x y d e w go rx ry hw
  cases d <;> cases e <;> first
    | exact hw.elim
    | skip
  rename_i xs ys
  obtain ⟨a, us, rfl, hu, du⟩ := rx.seq go.sub
  obtain ⟨b, vs, rfl, hv, dv⟩ := ry.seq go.sub
  simp only [oAddL] at hw
  by_cases hc : xs.length + ys.length ≤ sizeLine
  · rw [if_pos hc] at hw
    exact ⟨a, b, us, vs, rfl, rfl, hu, hv, by rw [du.length, dv.length]; exact hc, Wn.lstNew hw go (du.app dv)⟩
  · rw [if_neg hc] at hw
    exact hw.elim
def rAdd4 (K : PySem.W.Frag) : R2 := fun x y H Q => rAddI x y H Q ∨ (rAddS x y H Q ∨ (rCatA K x y H Q ∨ rCat x y H Q))
def oAdd := oOr oAddI (oOr oAddS (oOr oAddT oAddL))
theorem de_add (ha : DE K X W s1 a ta ga) (hb : DE K X W s2 b tb gb) : DE K X W .st (.BinOp a .Add b pos) (tOp (rAdd4 K) ta tb) (eBin oAdd ga gb) := by
  obtain ⟨K0, T0, L0⟩ := K
  cases ha.hK
  exact de_bin (op_add.or (op_add_str.or (op_catA.or op_cat))) ((ops_I0 fun _ _ i j => .int _).or (ops_addS.or (ops_addT.or ops_addL.toSt))) ha hb
/-! a list times an int -/
def oMulL : D → D → Wl → Res := fun d e w => match d, e with
  | .lst xs, .int k => if -(2 ^ 63) ≤ k ∧ k < 2 ^ 63 ∧ xs.length * k.toNat ≤ sizeLine then .ok (.lst (List.replicate k.toNat xs).flatten) w else .bad
  | _, _ => .bad
theorem DvAll.rep {aw : Bs} {F : Hp} {vs : List V} {ds : List D} (h : DvAll Kf aw F vs ds) : ∀ k : Nat, DvAll Kf aw F (List.replicate k vs).flatten (List.replicate k ds).flatten
  | 0 => .nil
  | k + 1 => by
    rw [List.replicate_succ, List.replicate_succ, List.flatten_cons, List.flatten_cons]
    exact h.app (DvAll.rep h k)
theorem ops_mulL : OpS Kf .fr rRep oMulL := by
  intro aw F H Q E x y d e w go rx ry hw
  cases d <;> cases e <;> first
    | exact hw.elim
    | skip
  rename_i xs k
  obtain ⟨a, us, rfl, hu, du⟩ := rx.seq go.sub
  have hy := ry.int
  subst hy
  simp only [oMulL] at hw
  by_cases hc : -(2 ^ 63) ≤ k ∧ k < 2 ^ 63 ∧ xs.length * k.toNat ≤ sizeLine
  · rw [if_pos hc] at hw
    exact ⟨a, k, us, rfl, rfl, hu, hc.1, hc.2.1, by rw [du.length]; exact hc.2.2, Wn.lstNew hw go (du.rep _)⟩
  · rw [if_neg hc] at hw
    exact hw.elim
theorem de_mulL (ha : DE K X W s1 a ta ga) (hb : DE K X W s2 b tb gb) : DE K X W .fr (.BinOp a .Mult b pos) (tOp rRep ta tb) (eBin oMulL ga gb) := by
  obtain ⟨K0, T0, L0⟩ := K
  cases ha.hK
  exact de_bin op_rep ops_mulL ha hb
/-! -a -/
def oNeg : D → Wl → Res := fun d w => match d with
  | .int i => .ok (.int (-i)) w
  | _ => .bad
theorem de_neg (ha : DE K X W s1 a ta ga) : DE K X W .st (.UnaryOp .USub a pos) (tUn (rU fun i => .int (-i)) ta) (eUn oNeg ga) := by
  obtain ⟨K0, T0, L0⟩ := K
  cases ha.hK
  exact ⟨rfl, pe_un un_neg ha.pe, fun f en w σ F H Q ok h => ha.es.bindW ok h fun d w1 v F1 H1 g1 o1 r1 h1 => by
    cases d <;> first
      | exact h1.elim
      | skip
    have e := r1.int
    subst e
    exact ⟨_, rfl, Wn.val h1 o1.here (.int _)⟩⟩
end
end DL

/-! DL, part c: comparisons, truth, tests. -/
namespace DL
open PySem PySem.Spec L2
open PyProof.Rows hiding St

section
variable {K : Kt} {Kf : PySem.W.Frag} {aw : Bs} {F H : Hp}
mutual
theorem Dv.dp (s : Same F H) : ∀ {v : V} {d : D}, Dv Kf aw F v d → d.isP = true → Dp Kf H v d.toP
  | _, _, .non, _ => .non
  | _, _, .bl b, _ => .bl b
  | _, _, .int i, _ => .int i
  | _, _, .str x, _ => .str x
  | _, _, .lst h a, p => .lst (.inl (.inl (s _ _ h))) (DvAll.dp s a p)
  | _, _, .tup h a, p => .tup (SqT.of (s _ _ h)) (DvAll.dp s a p)
  | _, _, .con h a, p => .tup (sqT_same s h) (DvAll.dp s a p)
  | _, _, .well _, p => absurd (show false = true from p) (by decide)
  | _, _, .ty _, p => absurd (show false = true from p) (by decide)
  | _, _, .fn _, p => absurd (show false = true from p) (by decide)
  | _, _, .rng _, p => absurd (show false = true from p) (by decide)
  | _, _, .hol _, p => absurd (show false = true from p) (by decide)
  | _, _, .scr _, p => absurd (show false = true from p) (by decide)
  | _, _, .ob _ _ _, p => absurd (show false = true from p) (by decide)
  | _, _, .dci _ _ _, p => absurd (show false = true from p) (by decide)
  | _, _, .dct _ _ _, p => absurd (show false = true from p) (by decide)
theorem DvAll.dp (s : Same F H) : ∀ {vs : List V} {ds : List D}, DvAll Kf aw F vs ds → arePs ds = true → DpAll Kf H vs (toPs ds)
  | _, _, .nil, _ => .nil
  | _, _, .cons a b, p => .cons (Dv.dp s a (Bool.and_eq_true_iff.mp p).1) (DvAll.dp s b (Bool.and_eq_true_iff.mp p).2)
end
theorem Dq.dp {v : V} {d : D} (q : Dq Kf aw F H v d) (s : Same F H) (p : d.isP = true) : Dp Kf H v d.toP := by
  rcases q with q | ⟨ds, a, vs, rfl, rfl, n, h, r⟩
  · exact q.dp s p
  · exact .lst (.inl (.inl h)) (r.dp s p)
end
def D.sh (d : D) : Bool := d.isP && SeqAt.shaped d.toP
def oEq : D → D → Wl → Res := fun d e w => if d.sh && e.sh then .ok (.bl (d.eqv e)) w else .bad
def oNe : D → D → Wl → Res := fun d e w => if d.sh && e.sh then .ok (.bl (!d.eqv e)) w else .bad
def oRel (p : Int → Int → Bool) := oI (fun _ _ => true) fun i j => .bl (p i j)
def oLe := oRel fun i j => decide (i ≤ j)
def oGt := oRel fun i j => decide (j < i)
def oGe := oRel fun i j => decide (j ≤ i)
def rLeI : R2 := rI0 fun i j => .bl (decide (i ≤ j))
def rGtI : R2 := rI0 fun i j => .bl (decide (j < i))
def rGeI : R2 := rI0 fun i j => .bl (decide (j ≤ i))
def rLtI : R2 := rI0 fun i j => .bl (decide (i < j))
def allInts : List D → Option (List Int)
  | [] => some []
  | .int i :: r => (allInts r).map (i :: ·)
  | _ :: _ => none
def oLtT : D → D → Wl → Res := fun d e w => match d, e with
  | .tup xs, .tup ys => (match allInts xs, allInts ys with
    | some a, some b => .ok (.bl (HT.lexLt a b)) w
    | _, _ => .bad)
  | _, _ => .bad
def oLt := oOr (oRel fun i j => decide (i < j)) oLtT
section
variable {X : Cx} {W : WX} {K : Kt} {Kf : PySem.W.Frag} {s s1 s2 s3 : Sg} {pos : Pos} {a b c : Expr} {ta tb tc : TE} {ga gb gc : EG} {r r' : R2} {o o' : D → D → Wl → Res} {op op' : CmpOp}
theorem vals_ints {aw : Bs} {F : Hp} : ∀ {vs : List V} {ds : List D} {ns : List Int}, DvAll Kf aw F vs ds → allInts ds = some ns → vs = ns.map V.int
  | _, _, _, .nil, h => by
    cases h
    rfl
  | _, _, ns, .cons (d := .int i) (ds := ds) x y, h => by
    cases x
    cases q : allInts ds with
    | none =>
      simp only [allInts, q, Option.map_none] at h
      cases h
    | some ms =>
      simp only [allInts, q, Option.map_some, Option.some.injEq] at h
      subst h
      rw [vals_ints y q]
      rfl
  | _, _, ns, .cons (d := .non) x y, h => nomatch h
  | _, _, ns, .cons (d := .bl _) x y, h => nomatch h
  | _, _, ns, .cons (d := .str _) x y, h => nomatch h
  | _, _, ns, .cons (d := .lst _) x y, h => nomatch h
  | _, _, ns, .cons (d := .tup _) x y, h => nomatch h
  | _, _, ns, .cons (d := .well) x y, h => nomatch h
  | _, _, ns, .cons (d := .ty _) x y, h => nomatch h
  | _, _, ns, .cons (d := .fn _) x y, h => nomatch h
  | _, _, ns, .cons (d := .rng _ _) x y, h => nomatch h
  | _, _, ns, .cons (d := .hol _) x y, h => nomatch h
  | _, _, ns, .cons (d := .scr _) x y, h => nomatch h
  | _, _, ns, .cons (d := .ob _ _ _) x y, h => nomatch h
  | _, _, ns, .cons (d := .dci _ _) x y, h => nomatch h
  | _, _, ns, .cons (d := .dct _ _) x y, h => nomatch h
theorem ops_eq : OpS Kf .st (rEqD Kf) oEq := by
  intro aw F H Q E x y d e w go rx ry hw
  unfold oEq at hw
  by_cases hc : (d.sh && e.sh) = true
  · rw [if_pos hc] at hw
    obtain ⟨h1, h2⟩ := Bool.and_eq_true_iff.mp hc
    obtain ⟨p1, q1⟩ := Bool.and_eq_true_iff.mp h1
    obtain ⟨p2, q2⟩ := Bool.and_eq_true_iff.mp h2
    exact ⟨d.toP, e.toP, rx.dp go.sub p1, ry.dp go.sub p2, q1, q2, Wn.val hw go (.bl _)⟩
  · rw [if_neg hc] at hw
    exact hw.elim
theorem ops_ne : OpS Kf .st (rNeD Kf) oNe := by
  intro aw F H Q E x y d e w go rx ry hw
  unfold oNe at hw
  by_cases hc : (d.sh && e.sh) = true
  · rw [if_pos hc] at hw
    obtain ⟨h1, h2⟩ := Bool.and_eq_true_iff.mp hc
    obtain ⟨p1, q1⟩ := Bool.and_eq_true_iff.mp h1
    obtain ⟨p2, q2⟩ := Bool.and_eq_true_iff.mp h2
    exact ⟨d.toP, e.toP, rx.dp go.sub p1, ry.dp go.sub p2, q1, q2, Wn.val hw go (.bl _)⟩
  · rw [if_neg hc] at hw
    exact hw.elim
theorem ops_ltT : OpS Kf .st (rLtT Kf) oLtT := by
  intro aw F H Q E x y d e w go rx ry hw
  cases d <;> cases e <;> first
    | exact hw.elim
    | skip
  rename_i xs ys
  simp only [oLtT] at hw
  cases q1 : allInts xs with
  | none =>
    rw [q1] at hw
    exact hw.elim
  | some ns =>
    cases q2 : allInts ys with
    | none =>
      rw [q1, q2] at hw
      exact hw.elim
    | some ms =>
      rw [q1, q2] at hw
      obtain ⟨a, us, rfl, hu, du⟩ := rx.tupl go.sub
      obtain ⟨b, vs, rfl, hv, dv⟩ := ry.tupl go.sub
      rw [vals_ints du q1] at hu
      rw [vals_ints dv q2] at hv
      exact ⟨a, b, ns, ms, rfl, rfl, hu, hv, Wn.val hw go (.bl _)⟩
/-! a comparison -/
theorem de_cmp (ho : OpR X (compareOp op) r) (hs : OpS K s r o) (ha : DE K X W s1 a ta ga) (hb : DE K X W s2 b tb gb) (hm : behindInMarks op b = false) : DE K X W s (.Compare a [op] [b] pos) (tOp r ta tb) (eBin o ga gb) := by
  obtain ⟨K0, T0, L0⟩ := K
  cases ha.hK
  exact ⟨rfl, pe_cmpR ho ha.pe hb.pe hm, es_bin hs ha.es hb.es⟩
theorem de_eq (hu : X.A.units + 65 < cLine) (ha : DE K X W s1 a ta ga) (hb : DE K X W s2 b tb gb) : DE K X W .st (.Compare a [.Eq] [b] pos) (tOp (rEqD K) ta tb) (eBin oEq ga gb) := by
  obtain ⟨K0, T0, L0⟩ := K
  cases ha.hK
  exact de_cmp (op_eqD (Nat.lt_of_succ_lt hu)) ops_eq ha hb (nomark _)
theorem ops_rel {p : Int → Int → Bool} : OpS Kf .st (rI0 fun i j => .bl (p i j)) (oRel p) := ops_I0 fun _ _ i j => .bl _
def rLt2 (K : PySem.W.Frag) : R2 := fun x y H Q => rLtI x y H Q ∨ rLtT K x y H Q
theorem de_lt (hu : X.A.units + 65 < cLine) (ha : DE K X W s1 a ta ga) (hb : DE K X W s2 b tb gb) : DE K X W .st (.Compare a [.Lt] [b] pos) (tOp (rLt2 K) ta tb) (eBin oLt ga gb) := by
  obtain ⟨K0, T0, L0⟩ := K
  cases ha.hK
  exact de_cmp (op_lt.or (op_ltT (by omega))) (ops_rel.or ops_ltT) ha hb (nomark _)
theorem de_le (ha : DE K X W s1 a ta ga) (hb : DE K X W s2 b tb gb) : DE K X W .st (.Compare a [.LtE] [b] pos) (tOp rLeI ta tb) (eBin oLe ga gb) := by
  obtain ⟨K0, T0, L0⟩ := K
  cases ha.hK
  exact de_cmp op_le ops_rel ha hb (nomark _)
theorem de_gt (ha : DE K X W s1 a ta ga) (hb : DE K X W s2 b tb gb) : DE K X W .st (.Compare a [.Gt] [b] pos) (tOp rGtI ta tb) (eBin oGt ga gb) := by
  obtain ⟨K0, T0, L0⟩ := K
  cases ha.hK
  exact de_cmp op_gt ops_rel ha hb (nomark _)
/-! is -/
def D.isN : D → Bool
  | .non => true
  | _ => false
def oIsN : D → D → Wl → Res := fun d e w => match e with
  | .non => .ok (.bl d.isN) w
  | _ => .bad
def oNotN : D → D → Wl → Res := fun d e w => match e with
  | .non => .ok (.bl (!d.isN)) w
  | _ => .bad
theorem dq_isN {aw : Bs} {F H : Hp} {v : V} {d : D} (q : Dq Kf aw F H v d) : decide (v = .non) = d.isN := by
  rcases q with q | ⟨ds, a, vs, rfl, rfl, _, _, _⟩
  · cases q <;> rfl
  · rfl
theorem ops_isN : OpS Kf .st (fun x y H Q => y = .non ∧ Q (.bl (decide (x = .non))) H) oIsN := by
  intro aw F H Q E x y d e w go rx ry hw
  cases e <;> first
    | exact hw.elim
    | skip
  exact ⟨ry.non, by rw [dq_isN rx]; exact Wn.val (show Wn .st Kf aw F H Q E (.ok (.bl d.isN) w) from hw) go (.bl _)⟩
theorem ops_notN : OpS Kf .st (fun x y H Q => y = .non ∧ Q (.bl (!decide (x = .non))) H) oNotN := by
  intro aw F H Q E x y d e w go rx ry hw
  cases e <;> first
    | exact hw.elim
    | skip
  exact ⟨ry.non, by rw [dq_isN rx]; exact Wn.val (show Wn .st Kf aw F H Q E (.ok (.bl (!d.isN)) w) from hw) go (.bl _)⟩
def oIsT : D → D → Wl → Res := fun d e w => match d, e with
  | .ty m, .ty n => .ok (.bl (decide (m = n))) w
  | _, _ => .bad
def oNotT : D → D → Wl → Res := fun d e w => match d, e with
  | .ty m, .ty n => .ok (.bl (!decide (m = n))) w
  | _, _ => .bad
theorem ops_isT : OpS Kf .st (fun x y H Q => ∃ m n, x = .ty m ∧ y = .ty n ∧ Q (.bl (decide (m = n))) H) oIsT := by
  intro aw F H Q E x y d e w go rx ry hw
  cases d <;> cases e <;> first
    | exact hw.elim
    | skip
  rename_i m n
  exact ⟨m, n, rx.ty, ry.ty, Wn.val (show Wn .st Kf aw F H Q E (.ok (.bl (decide (m = n))) w) from hw) go (.bl _)⟩
theorem ops_notT : OpS Kf .st (fun x y H Q => ∃ m n, x = .ty m ∧ y = .ty n ∧ Q (.bl (!decide (m = n))) H) oNotT := by
  intro aw F H Q E x y d e w go rx ry hw
  cases d <;> cases e <;> first
    | exact hw.elim
    | skip
  rename_i m n
  exact ⟨m, n, rx.ty, ry.ty, Wn.val (show Wn .st Kf aw F H Q E (.ok (.bl (!decide (m = n))) w) from hw) go (.bl _)⟩
def oIsB : D → D → Wl → Res := fun d e w => match d, e with
  | .bl m, .bl n => .ok (.bl (decide (m = n))) w
  | _, _ => .bad
def oNotB : D → D → Wl → Res := fun d e w => match d, e with
  | .bl m, .bl n => .ok (.bl (!decide (m = n))) w
  | _, _ => .bad
theorem ops_isB : OpS Kf .st rIsB oIsB := by
  intro aw F H Q E x y d e w go rx ry hw
  cases d <;> cases e <;> first
    | exact hw.elim
    | skip
  rename_i m n
  exact ⟨m, n, rx.bl, ry.bl, Wn.val (show Wn .st Kf aw F H Q E (.ok (.bl (decide (m = n))) w) from hw) go (.bl _)⟩
theorem ops_notB : OpS Kf .st rNotB oNotB := by
  intro aw F H Q E x y d e w go rx ry hw
  cases d <;> cases e <;> first
    | exact hw.elim
    | skip
  rename_i m n
  exact ⟨m, n, rx.bl, ry.bl, Wn.val (show Wn .st Kf aw F H Q E (.ok (.bl (!decide (m = n))) w) from hw) go (.bl _)⟩
def rIs3 : R2 := fun x y H Q => (y = .non ∧ Q (.bl (decide (x = .non))) H) ∨ ((∃ m n, x = .ty m ∧ y = .ty n ∧ Q (.bl (decide (m = n))) H) ∨ rIsB x y H Q)
def rNot3 : R2 := fun x y H Q => (y = .non ∧ Q (.bl (!decide (x = .non))) H) ∨ ((∃ m n, x = .ty m ∧ y = .ty n ∧ Q (.bl (!decide (m = n))) H) ∨ rNotB x y H Q)
def oIs := oOr oIsN (oOr oIsT oIsB)
def oNot := oOr oNotN (oOr oNotT oNotB)
theorem de_is (ha : DE K X W s1 a ta ga) (hb : DE K X W s2 b tb gb) : DE K X W .st (.Compare a [.Is] [b] pos) (tOp rIs3 ta tb) (eBin oIs ga gb) := by
  obtain ⟨K0, T0, L0⟩ := K
  cases ha.hK
  exact de_cmp (op_isN.or (op_isTy.or op_isBl)) (ops_isN.or (ops_isT.or ops_isB)) ha hb (nomark _)
/-! in -/
def rInU (K : PySem.W.Frag) : R2 := fun x y H Q => ∃ d ds, Dp K H x d ∧ Dp K H y (.tuple ds) ∧ SeqAt.shaped d = true ∧ SeqAt.shaped (.tuple ds) = true ∧ Q (.bl (ds.any fun z => PyData.eqv z d)) H
def rNotInU (K : PySem.W.Frag) : R2 := fun x y H Q => ∃ d ds, Dp K H x d ∧ Dp K H y (.tuple ds) ∧ SeqAt.shaped d = true ∧ SeqAt.shaped (.tuple ds) = true ∧ Q (.bl (!ds.any fun z => PyData.eqv z d)) H
theorem op_inU (hu : X.A.units + 65 < cLine) : OpR X (compareOp .In) (rInU X.K) := by
  rintro pins st σ H x y v u Q I rx ry ⟨d, ds, hd, he, sd, se, q⟩
  obtain ⟨_, m1⟩ := hd.reads I d x v rx
  obtain ⟨_, m2⟩ := he.reads I (.tuple ds) y u ry
  exact SeqAt.in_tuple_reads m2 m1 (SeqAt.canLay_of_shaped se) (SeqAt.canLay_of_shaped sd) (room_in_shaped sd hu) ⟨.bl _, H, I, rfl, q⟩
theorem op_notInU (hu : X.A.units + 65 < cLine) : OpR X (compareOp .NotIn) (rNotInU X.K) := by
  rintro pins st σ H x y v u Q I rx ry ⟨d, ds, hd, he, sd, se, q⟩
  obtain ⟨_, m1⟩ := hd.reads I d x v rx
  obtain ⟨_, m2⟩ := he.reads I (.tuple ds) y u ry
  exact SeqAt.notIn_tuple_reads m2 m1 (SeqAt.canLay_of_shaped se) (SeqAt.canLay_of_shaped sd) (room_in_shaped sd hu) ⟨.bl _, H, I, rfl, q⟩
def D.items : D → Option (List D)
  | .lst ds => some ds
  | .tup ds => some ds
  | _ => none
def isIn (d : D) (ds : List D) : Bool := ds.any fun z => z.eqv d
theorem isIn_p (d : D) : ∀ ds : List D, ((toPs ds).any fun z => PyData.eqv z d.toP) = isIn d ds
  | [] => rfl
  | e :: r => by
    show (PyData.eqv e.toP d.toP || (toPs r).any fun z => PyData.eqv z d.toP) = (e.eqv d || isIn d r)
    rw [isIn_p d r]
    rfl
def oIn : D → D → Wl → Res := fun d e w => match e.items with
  | some ds => if d.sh && e.sh then .ok (.bl (isIn d ds)) w else .bad
  | none => .bad
def oNotIn : D → D → Wl → Res := fun d e w => match e.items with
  | some ds => if d.sh && e.sh then .ok (.bl (!isIn d ds)) w else .bad
  | none => .bad
def rIn2 (K : PySem.W.Frag) : R2 := fun x y H Q => rInD K x y H Q ∨ rInU K x y H Q
def rNotIn2 (K : PySem.W.Frag) : R2 := fun x y H Q => rNotInD K x y H Q ∨ rNotInU K x y H Q
theorem ops_in : OpS Kf .st (rIn2 Kf) oIn := by
  intro aw F H Q E x y d e w go rx ry hw
  cases e <;> first
    | exact hw.elim
    | skip
  all_goals
    rename_i ds
    simp only [oIn, D.items] at hw
    split at hw
    · rename_i hc
      obtain ⟨h1, h2⟩ := Bool.and_eq_true_iff.mp hc
      obtain ⟨p1, q1⟩ := Bool.and_eq_true_iff.mp h1
      obtain ⟨p2, q2⟩ := Bool.and_eq_true_iff.mp h2
      first
        | exact .inl ⟨d.toP, toPs ds, rx.dp go.sub p1, ry.dp go.sub p2, q1, q2, by rw [isIn_p]; exact Wn.val hw go (.bl _)⟩
        | exact .inr ⟨d.toP, toPs ds, rx.dp go.sub p1, ry.dp go.sub p2, q1, q2, by rw [isIn_p]; exact Wn.val hw go (.bl _)⟩
    · exact hw.elim
theorem ops_notIn : OpS Kf .st (rNotIn2 Kf) oNotIn := by
  intro aw F H Q E x y d e w go rx ry hw
  cases e <;> first
    | exact hw.elim
    | skip
  all_goals
    rename_i ds
    simp only [oNotIn, D.items] at hw
    split at hw
    · rename_i hc
      obtain ⟨h1, h2⟩ := Bool.and_eq_true_iff.mp hc
      obtain ⟨p1, q1⟩ := Bool.and_eq_true_iff.mp h1
      obtain ⟨p2, q2⟩ := Bool.and_eq_true_iff.mp h2
      first
        | exact .inl ⟨d.toP, toPs ds, rx.dp go.sub p1, ry.dp go.sub p2, q1, q2, by rw [isIn_p]; exact Wn.val hw go (.bl _)⟩
        | exact .inr ⟨d.toP, toPs ds, rx.dp go.sub p1, ry.dp go.sub p2, q1, q2, by rw [isIn_p]; exact Wn.val hw go (.bl _)⟩
    · exact hw.elim
theorem de_in (hu : X.A.units + 65 < cLine) (ha : DE K X W s1 a ta ga) (hb : DE K X W s2 b tb gb) (hm : behindInMarks .In b = false := by rfl) : DE K X W .st (.Compare a [.In] [b] pos) (tOp (rIn2 K) ta tb) (eBin oIn ga gb) := by
  obtain ⟨K0, T0, L0⟩ := K
  cases ha.hK
  exact de_cmp ((op_inD hu).or (op_inU hu)) ops_in ha hb hm
/-! a < b < c -/
def eChain (o o' : D → D → Wl → Res) (ga gb gc : EG) : EG := fun en w => (ga en w).bind fun d w1 => (gb en w1).bind fun e w2 => (o d e w2).bind fun k w3 => match k with
  | .bl true => (gc en w3).bind fun z w4 => o' e z w4
  | .bl false => .ok (.bl false) w3
  | _ => .bad
theorem de_chain (ho : OpR X (compareOp op) r) (ho' : OpR X (compareOp op') r') (hs : OpS K .st r o) (hs' : OpS K .st r' o') (ha : DE K X W s1 a ta ga) (hb : DE K X W s2 b tb gb) (hc : DE K X W s3 c tc gc)
    (hm : lastMarks [op, op'] [b, c] = false := by rfl) : DE K X W .st (.Compare a [op, op'] [b, c] pos) (tChain r r' ta tb tc) (eChain o o' ga gb gc) := by
  obtain ⟨K0, T0, L0⟩ := K
  cases ha.hK
  refine ⟨rfl, pe_chain ho ho' ha.pe hb.pe hc.pe hm, fun f en w σ F H Q ok h => ?_⟩
  refine ha.es.bindW ok h fun d w1 v F1 H1 g1 o1 r1 h1 => hb.es.bindW o1 h1 fun e w2 u F2 H2 g2 o2 r2 h2 => ?_
  refine hs f.aw F2 H2 _ (WE W σ) v u d e w2 o2.here (r1.go g2) r2 ?_
  cases q : o d e w2 with
  | bad =>
    rw [q] at h2
    exact h2
  | ex c fn a w3 =>
    rw [q] at h2
    exact h2
  | ok k w3 =>
    rw [q] at h2
    intro z F3 H3 g3 r3
    cases k <;> first
      | exact h2.elim
      | skip
    rename_i kb
    cases r3
    refine ⟨kb, rfl, ?_⟩
    cases kb with
    | false => exact Wn.val (Wn.any h2 g3) g3.here (.bl _)
    | true => exact hc.es.bindW (o2.step g3) (Wn.any h2 g3) fun z' w4 u' F4 H4 g4 o4 r4 h4 => hs' f.aw F4 H4 Q _ u u' e z' w4 o4.here ((r2.go g3).go g4) r4 h4
theorem de_lele (ha : DE K X W s1 a ta ga) (hb : DE K X W s2 b tb gb) (hc : DE K X W s3 c tc gc) : DE K X W .st (.Compare a [.LtE, .LtE] [b, c] pos) (tChain rLeI rLeI ta tb tc) (eChain oLe oLe ga gb gc) := by
  obtain ⟨K0, T0, L0⟩ := K
  cases ha.hK
  exact de_chain op_le op_le ops_rel ops_rel ha hb hc (nomark _)
theorem de_lelt (ha : DE K X W s1 a ta ga) (hb : DE K X W s2 b tb gb) (hc : DE K X W s3 c tc gc) : DE K X W .st (.Compare a [.LtE, .Lt] [b, c] pos) (tChain rLeI rLtI ta tb tc) (eChain oLe (oRel fun i j => decide (i < j)) ga gb gc) := by
  obtain ⟨K0, T0, L0⟩ := K
  cases ha.hK
  exact de_chain op_le op_lt ops_rel ops_rel ha hb hc (nomark _)
end

/-! ### tests -/
def ET (K : Kt) (W : WX) (t : TT) (g : EG) : Prop :=
  ∀ (f : Fx) (en : List Sl) (w : Wl) (σ : St) (F H : Hp) (Q : Bool → Hp → Prop), Ok K f en w σ F H → WnB K f.aw F H Q (WE W σ) (g en w) → t σ H Q
structure DT (K : Kt) (X : Cx) (W : WX) (e : Expr) (t : TT) (g : EG) : Prop where
  pt : PT X e t
  es : ET K W t g
structure DW (K : Kt) (X : Cx) (W : WX) (e : Expr) (t : TT) (g : EG) : Prop where
  pw : PW X e t
  es : ET K W t g
def bNot (r : Res) : Res := match r with
  | .ok (.bl b) w => .ok (.bl (!b)) w
  | .ok _ _ => .bad
  | z => z
/-- the answer's truth decides -/
def bIf (r : Res) (a b : Wl → Res) : Res := match r with
  | .ok (.bl true) w => a w
  | .ok (.bl false) w => b w
  | .ok _ _ => .bad
  | .ex c fn a w => .ex c fn a w
  | .bad => .bad
def eNot (ga : EG) : EG := fun en w => bNot (ga en w)
def eAnd (ga gb : EG) : EG := fun en w => bIf (ga en w) (gb en) fun w1 => .ok (.bl false) w1
def eOr (ga gb : EG) : EG := fun en w => bIf (ga en w) (fun w1 => .ok (.bl true) w1) (gb en)
def eIf (gc ga gb : EG) : EG := fun en w => bIf (gc en w) (ga en) (gb en)
section
variable {X : Cx} {W : WX} {K : Kt} {Kf : PySem.W.Frag} {s s1 s2 s3 : Sg} {pos : Pos} {a b c : Expr} {ta tb tc : TE} {tA tZ : TT} {ga gb gc : EG} {rest : List Expr} {aw : Bs} {F H F1 H1 : Hp} {QB : Bool → Hp → Prop} {E : XK} {r : Res} {w1 : Wl}
/-- a test, then what its answer chooses; the end is any kind of wish that goes along -/
theorem ET.bind {f : Fx} {en : List Sl} {w : Wl} {σ : St} {R : Bool → Hp → Prop} (ha : ET K W tA ga) (o : Ok K f en w σ F H) {N : Res → Hp → Hp → Prop} {ka kb : Wl → Res}
    (hn : ∀ F1 H1 w1 z, Go f.aw F H F1 H1 w1 → N z F H → N z F1 H1) (hbad : N .bad F H → False) (hex : ∀ c fn a w, N (.ex c fn a w) F H → ∀ cls dx F' H', Go f.aw F H F' H' w → Xr K f.aw F' c fn a cls dx → WE W σ cls dx H')
    (h : N (bIf (ga en w) ka kb) F H)
    (hk : ∀ b w1 F1 H1, Go f.aw F H F1 H1 w1 → Ok K f en w1 σ F1 H1 → N (if b = true then ka w1 else kb w1) F1 H1 → R b H1) : tA σ H R := by
  refine ha f en w σ F H R o ?_
  cases q : ga en w with
  | bad =>
    rw [q] at h
    exact hbad h
  | ex c fn a w1 =>
    rw [q] at h
    exact hex c fn a w1 h
  | ok d w1 =>
    rw [q] at h
    cases d <;> first
      | exact (hbad h).elim
      | skip
    rename_i b
    intro F1 H1 g
    refine hk b w1 F1 H1 g (o.step g) (hn F1 H1 w1 _ g ?_)
    cases b <;> exact h
theorem et_bindB {f : Fx} {en : List Sl} {w : Wl} {σ : St} {R : Bool → Hp → Prop} (ha : ET K W tA ga) (o : Ok K f en w σ F H) {ka kb : Wl → Res} (h : WnB K f.aw F H QB (WE W σ) (bIf (ga en w) ka kb))
    (hk : ∀ b w1 F1 H1, Go f.aw F H F1 H1 w1 → Ok K f en w1 σ F1 H1 → WnB K f.aw F1 H1 QB (WE W σ) (if b = true then ka w1 else kb w1) → R b H1) : tA σ H R :=
  ha.bind o (N := fun z F H => WnB K f.aw F H QB (WE W σ) z) (fun _ _ _ _ g h => WnB.any h g) (fun h => h) (fun c fn a w h => h) h hk
theorem et_bindE {f : Fx} {en : List Sl} {w : Wl} {σ : St} {Q : VK} {R : Bool → Hp → Prop} (ha : ET K W tA ga) (o : Ok K f en w σ F H) {ka kb : Wl → Res} (h : Wn s K f.aw F H Q (WE W σ) (bIf (ga en w) ka kb))
    (hk : ∀ b w1 F1 H1, Go f.aw F H F1 H1 w1 → Ok K f en w1 σ F1 H1 → Wn s K f.aw F1 H1 Q (WE W σ) (if b = true then ka w1 else kb w1) → R b H1) : tA σ H R :=
  ha.bind o (N := fun z F H => Wn s K f.aw F H Q (WE W σ) z) (fun _ _ _ _ g h => Wn.any h g) (fun h => h) (fun c fn a w h => h) h hk
/-- an expression whose value is a bool, as a test -/
theorem es_test (ha : ES K W s1 ta ga) : ET K W (fun σ H Q => ta σ H fun x H' => ∃ k, x = .bl k ∧ Q k H') ga := by
  intro f en w σ F H Q o h
  refine ha.toWk f en w σ F H _ o ?_
  cases q : ga en w with
  | bad =>
    rw [q] at h
    exact h
  | ex c fn a w1 =>
    rw [q] at h
    exact h
  | ok d w1 =>
    rw [q] at h
    cases d <;> first
      | exact h.elim
      | skip
    exact fun v F' H' g r => ⟨_, r.bl, h F' H' g⟩
theorem dt_cmp {op : CmpOp} {r : R2} {o : D → D → Wl → Res} (ho : OpR X (compareOp op) r) (hs : OpS K s r o) (ha : DE K X W s1 a ta ga) (hb : DE K X W s2 b tb gb) (hm : behindInMarks op b = false) : DT K X W (.Compare a [op] [b] pos) (tTest (tOp r ta tb)) (eBin o ga gb) := by
  obtain ⟨K0, T0, L0⟩ := K
  cases ha.hK
  exact ⟨pt_cmpR ho ha.pe hb.pe hm, es_test (es_bin hs ha.es hb.es)⟩
theorem dt_eq (hu : X.A.units + 65 < cLine) (ha : DE K X W s1 a ta ga) (hb : DE K X W s2 b tb gb) : DT K X W (.Compare a [.Eq] [b] pos) (tTest (tOp (rEqD K) ta tb)) (eBin oEq ga gb) := by
  obtain ⟨K0, T0, L0⟩ := K
  cases ha.hK
  exact dt_cmp (op_eqD (Nat.lt_of_succ_lt hu)) ops_eq ha hb (nomark _)
theorem dt_ne (hu : X.A.units + 65 < cLine) (ha : DE K X W s1 a ta ga) (hb : DE K X W s2 b tb gb) : DT K X W (.Compare a [.NotEq] [b] pos) (tTest (tOp (rNeD K) ta tb)) (eBin oNe ga gb) := by
  obtain ⟨K0, T0, L0⟩ := K
  cases ha.hK
  exact dt_cmp (op_neD (Nat.lt_of_succ_lt hu)) ops_ne ha hb (nomark _)
theorem dt_lt (hu : X.A.units + 65 < cLine) (ha : DE K X W s1 a ta ga) (hb : DE K X W s2 b tb gb) : DT K X W (.Compare a [.Lt] [b] pos) (tTest (tOp (rLt2 K) ta tb)) (eBin oLt ga gb) := by
  obtain ⟨K0, T0, L0⟩ := K
  cases ha.hK
  exact dt_cmp (op_lt.or (op_ltT (by omega))) (ops_rel.or ops_ltT) ha hb (nomark _)
theorem dt_gt (ha : DE K X W s1 a ta ga) (hb : DE K X W s2 b tb gb) : DT K X W (.Compare a [.Gt] [b] pos) (tTest (tOp rGtI ta tb)) (eBin oGt ga gb) := by
  obtain ⟨K0, T0, L0⟩ := K
  cases ha.hK
  exact dt_cmp op_gt ops_rel ha hb (nomark _)
theorem dt_ge (ha : DE K X W s1 a ta ga) (hb : DE K X W s2 b tb gb) : DT K X W (.Compare a [.GtE] [b] pos) (tTest (tOp rGeI ta tb)) (eBin oGe ga gb) := by
  obtain ⟨K0, T0, L0⟩ := K
  cases ha.hK
  exact dt_cmp op_ge ops_rel ha hb (nomark _)
theorem dt_is (ha : DE K X W s1 a ta ga) (hb : DE K X W s2 b tb gb) : DT K X W (.Compare a [.Is] [b] pos) (tTest (tOp rIs3 ta tb)) (eBin oIs ga gb) := by
  obtain ⟨K0, T0, L0⟩ := K
  cases ha.hK
  exact dt_cmp (op_isN.or (op_isTy.or op_isBl)) (ops_isN.or (ops_isT.or ops_isB)) ha hb (nomark _)
theorem dt_isnot (ha : DE K X W s1 a ta ga) (hb : DE K X W s2 b tb gb) : DT K X W (.Compare a [.IsNot] [b] pos) (tTest (tOp rNot3 ta tb)) (eBin oNot ga gb) := by
  obtain ⟨K0, T0, L0⟩ := K
  cases ha.hK
  exact dt_cmp (op_notN.or (op_isNotTy.or op_notBl)) (ops_notN.or (ops_notT.or ops_notB)) ha hb (nomark _)
theorem dt_in (hu : X.A.units + 65 < cLine) (ha : DE K X W s1 a ta ga) (hb : DE K X W s2 b tb gb) (hm : behindInMarks .In b = false := by rfl) : DT K X W (.Compare a [.In] [b] pos) (tTest (tOp (rIn2 K) ta tb)) (eBin oIn ga gb) := by
  obtain ⟨K0, T0, L0⟩ := K
  cases ha.hK
  exact dt_cmp ((op_inD hu).or (op_inU hu)) ops_in ha hb hm
theorem dt_notin (hu : X.A.units + 65 < cLine) (ha : DE K X W s1 a ta ga) (hb : DE K X W s2 b tb gb) (hm : behindInMarks .NotIn b = false := by rfl) : DT K X W (.Compare a [.NotIn] [b] pos) (tTest (tOp (rNotIn2 K) ta tb)) (eBin oNotIn ga gb) := by
  obtain ⟨K0, T0, L0⟩ := K
  cases ha.hK
  exact dt_cmp ((op_notInD hu).or (op_notInU hu)) ops_notIn ha hb hm
/-! truth of an int, a list, a tuple -/
def oTru : D → Wl → Res := fun d w => match d with
  | .bl b => .ok (.bl b) w
  | .int i => .ok (.bl (i != 0)) w
  | .non => .ok (.bl false) w
  | .lst ds => .ok (.bl (!ds.isEmpty)) w
  | .tup ds => .ok (.bl (!ds.isEmpty)) w
  | _ => .bad
theorem dvEmpty {vs : List V} {ds : List D} (h : DvAll Kf aw F vs ds) : vs.isEmpty = ds.isEmpty := by cases h <;> rfl
theorem dt_truth (ha : DE K X W s1 a ta ga) (he : ∀ whole, isTrue a X.env whole = (do let v ← whole; standAt a.pos; holding [v] (truthy v)) := by intro _; rfl) : DT K X W a (fun σ H Q => ta σ H fun x H' => ∃ k, TruV K x H' k ∧ Q k H') (eUn oTru ga) := by
  obtain ⟨K0, T0, L0⟩ := K
  cases ha.hK
  refine ⟨pt_truth ha.pe he, fun f en w σ F H Q o h => ?_⟩
  refine ha.es.toWk f en w σ F H _ o ?_
  unfold eUn at h
  cases q : ga en w with
  | bad =>
    rw [q] at h
    exact h
  | ex c fn a w1 =>
    rw [q] at h
    exact h
  | ok d w1 =>
    rw [q] at h
    intro v F' H' g r
    cases d <;> first
      | exact h.elim
      | skip
    · have e := r.non
      subst e
      exact ⟨_, rfl, h F' H' g⟩
    · have e := r.bl
      subst e
      exact ⟨_, rfl, h F' H' g⟩
    · have e := r.int
      subst e
      exact ⟨_, rfl, h F' H' g⟩
    · obtain ⟨p, vs, rfl, hv, dv⟩ := r.seq g.sub
      exact ⟨_, .inl ⟨vs, .inl (.inl hv), rfl⟩, by rw [dvEmpty dv]; exact h F' H' g⟩
    · obtain ⟨p, vs, rfl, hv, dv⟩ := r.tupl g.sub
      exact ⟨_, .inr (.inl ⟨vs, hv, rfl⟩), by rw [dvEmpty dv]; exact h F' H' g⟩
/-! not, and, or -/
theorem dt_not (ha : DT K X W a tA ga) : DT K X W (.UnaryOp .Not a pos) (tNot tA) (eNot ga) := by
  refine ⟨pt_not ha.pt, fun f en w σ F H Q o h => ?_⟩
  refine ha.es f en w σ F H _ o ?_
  unfold eNot bNot at h
  cases q : ga en w with
  | bad =>
    rw [q] at h
    exact h
  | ex c fn a w1 =>
    rw [q] at h
    exact h
  | ok d w1 =>
    rw [q] at h
    cases d <;> first
      | exact h.elim
      | exact h
theorem DW.dt (h : DW K X W a tA ga) : DT K X W a tA ga := ⟨h.pw.pt, h.es⟩
theorem dw_and1 (ha : DT K X W a tA ga) : DW K X W (.BoolOp .And [a] pos) tA ga := ⟨pw_and1 ha.pt, ha.es⟩
theorem dw_or1 (ha : DT K X W a tA ga) : DW K X W (.BoolOp .Or [a] pos) tA ga := ⟨pw_or1 ha.pt, ha.es⟩
theorem dw_and (ha : DT K X W a tA ga) (hb : DW K X W (.BoolOp .And (b :: rest) pos) tZ gb) : DW K X W (.BoolOp .And (a :: b :: rest) pos) (tAnd tA tZ) (eAnd ga gb) := by
  refine ⟨pw_and ha.pt hb.pw, fun f en w σ F H Q o h => ?_⟩
  show tA σ H fun c H1 => if c = true then tZ σ H1 Q else Q false H1
  refine et_bindB ha.es o h fun k w1 F1 H1 g o1 h1 => ?_
  cases k with
  | true => exact hb.es f en w1 σ F1 H1 Q o1 h1
  | false => exact h1 F1 H1 o1.here
theorem dw_or (ha : DT K X W a tA ga) (hb : DW K X W (.BoolOp .Or (b :: rest) pos) tZ gb) : DW K X W (.BoolOp .Or (a :: b :: rest) pos) (tOr tA tZ) (eOr ga gb) := by
  refine ⟨pw_or ha.pt hb.pw, fun f en w σ F H Q o h => ?_⟩
  show tA σ H fun c H1 => if c = true then Q true H1 else tZ σ H1 Q
  refine et_bindB ha.es o h fun k w1 F1 H1 g o1 h1 => ?_
  cases k with
  | true => exact h1 F1 H1 o1.here
  | false => exact hb.es f en w1 σ F1 H1 Q o1 h1
/-! .. as values: all but the last True or False -/
theorem es_bool {R : V → Hp → Prop} {f : Fx} {en : List Sl} {w : Wl} {σ : St} {Q : VK} {ka kb : Wl → Res} (ha : ES K W s1 ta ga) (o : Ok K f en w σ F H) (h : Wn s K f.aw F H Q (WE W σ) (bIf (ga en w) ka kb))
    (hk : ∀ b w1 F1 H1, Go f.aw F H F1 H1 w1 → Ok K f en w1 σ F1 H1 → Wn s K f.aw F1 H1 Q (WE W σ) (if b = true then ka w1 else kb w1) → R (.bl b) H1) : ta σ H R := by
  refine ha.toWk f en w σ F H R o ?_
  cases q : ga en w with
  | bad =>
    rw [q] at h
    exact h
  | ex c fn a w1 =>
    rw [q] at h
    exact h
  | ok d w1 =>
    rw [q] at h
    cases d <;> first
      | exact h.elim
      | skip
    rename_i b
    intro v F1 H1 g r
    have e := r.bl
    subst e
    refine hk b w1 F1 H1 g (o.step g) (Wn.any (s := s) ?_ g)
    cases b <;> exact h
theorem de_one {op} (h : DE K X W s1 a ta ga) : DE K X W s1 (.BoolOp op [a] pos) ta ga := by
  obtain ⟨K0, T0, L0⟩ := K
  cases h.hK
  exact ⟨rfl, pe_one h.pe, h.es⟩
theorem de_and (ha : DE K X W s1 a ta ga) (hb : DE K X W .st (.BoolOp .And (b :: rest) pos) tb gb) : DE K X W .st (.BoolOp .And (a :: b :: rest) pos) (tAndV ta tb) (eAnd ga gb) := by
  obtain ⟨K0, T0, L0⟩ := K
  cases ha.hK
  refine ⟨rfl, pe_and ha.pe hb.pe, fun f en w σ F H Q o h => ?_⟩
  show ta σ H fun x H1 => ∃ c, x = .bl c ∧ if c = true then tb σ H1 Q else Q (.bl false) H1
  refine es_bool ha.es o h fun k w1 F1 H1 g o1 h1 => ⟨k, rfl, ?_⟩
  cases k with
  | true => exact hb.es f en w1 σ F1 H1 Q o1 h1
  | false => exact Wn.val h1 o1.here (.bl _)
theorem de_or (ha : DE K X W s1 a ta ga) (hb : DE K X W .st (.BoolOp .Or (b :: rest) pos) tb gb) : DE K X W .st (.BoolOp .Or (a :: b :: rest) pos) (tOrV ta tb) (eOr ga gb) := by
  obtain ⟨K0, T0, L0⟩ := K
  cases ha.hK
  refine ⟨rfl, pe_or ha.pe hb.pe, fun f en w σ F H Q o h => ?_⟩
  show ta σ H fun x H1 => ∃ c, x = .bl c ∧ if c = true then Q (.bl true) H1 else tb σ H1 Q
  refine es_bool ha.es o h fun k w1 F1 H1 g o1 h1 => ⟨k, rfl, ?_⟩
  cases k with
  | true => exact Wn.val h1 o1.here (.bl _)
  | false => exact hb.es f en w1 σ F1 H1 Q o1 h1
/-- a if c else b, the result as much known as both sides are -/
theorem de_if (hc : DT K X W c tA gc) (ha : DE K X W s a ta ga) (hb : DE K X W s b tb gb) : DE K X W s (.IfExp c a b pos) (tIf tA ta tb) (eIf gc ga gb) := by
  obtain ⟨K0, T0, L0⟩ := K
  cases ha.hK
  refine ⟨rfl, pe_ifExp hc.pt ha.pe hb.pe, fun f en w σ F H Q o h => ?_⟩
  show tA σ H fun c H1 => if c = true then ta σ H1 Q else tb σ H1 Q
  refine et_bindE hc.es o h fun k w1 F1 H1 g o1 h1 => ?_
  cases k with
  | true => exact ha.es f en w1 σ F1 H1 Q o1 h1
  | false => exact hb.es f en w1 σ F1 H1 Q o1 h1
end
end DL

/-! DL, part d: arguments, displays, subscripts, slices, calls of built-ins. -/
namespace DL
open PySem PySem.Spec L2
open PyProof.Rows hiding St

def EA (K : Kt) (W : WX) (b : Bool) (t : TA) (g : AG) : Prop :=
  ∀ (f : Fx) (en : List Sl) (w : Wl) (σ : St) (F H : Hp) (Q : List V → Hp → Prop), Ok K f en w σ F H → WnA b K f.aw F H Q (WE W σ) (g en w) → t σ H Q
structure DA (K : Kt) (X : Cx) (W : WX) (b : Bool) (es : List Expr) (t : TA) (g : AG) : Prop where
  hK : X.K = K.K
  pa : PA X es t
  es : EA K W b t g
def aNil : AG := fun _ w => .ok [] w
def aCons (ga : EG) (gr : AG) : AG := fun en w => match ga en w with
  | .ok d w1 => (gr en w1).cons d
  | .ex c fn a w1 => .ex c fn a w1
  | .bad => .bad
section
variable {X : Cx} {W : WX} {K : Kt} {Kf : PySem.W.Frag} {s s1 s2 s3 : Sg} {pos : Pos} {a b c e : Expr} {es : List Expr} {ta tb tc te : TE} {ga gb gc ge : EG} {t : TA} {g : AG} {aw : Bs} {F H F1 H1 : Hp} {E : XK} {w1 : Wl} {bb : Bool} {QA : List V → Hp → Prop} {r : AR}
theorem da_nil (hK : X.K = K.K := by rfl) : DA K X W bb [] tNil aNil := by
  obtain ⟨K0, T0, L0⟩ := K
  cases hK
  exact ⟨rfl, pa_nil, fun f en w σ F H Q o h => by
  cases bb with
  | false => exact h [] F H o.here .nil
  | true => exact h [] F H o.here .nil⟩
/-- strong arguments: what is handed on for good -/
theorem da_cons (ha : DE K X W s e te ge) (hr : DA K X W false es t g) (hs : s ≠ .wk := by decide) (hst : starEach (e :: es) X.env = (false, eval e X.env) :: starEach es X.env := by rfl) : DA K X W false (e :: es) (tCons te t) (aCons ge g) := by
  obtain ⟨K0, T0, L0⟩ := K
  cases ha.hK
  refine ⟨rfl, pa_cons ha.pe hr.pa hst, fun f en w σ F H Q o h => ?_⟩
  refine ha.es.toSt hs f en w σ F H _ o ?_
  unfold aCons at h
  cases q : ge en w with
  | bad =>
    rw [q] at h
    exact h
  | ex c fn a w1 =>
    rw [q] at h
    exact h
  | ok d w1 =>
    rw [q] at h
    intro v F1 H1 g1 r1
    refine hr.es f en w1 σ F1 H1 _ (o.step g1) ?_
    unfold AR.cons at h
    dsimp only at h
    cases q2 : g en w1 with
    | bad =>
      rw [q2] at h
      exact h
    | ex c fn a w2 =>
      rw [q2] at h
      exact fun cls dx F' H' g' x => h cls dx F' H' (g1.trans g') x
    | ok ds w2 =>
      rw [q2] at h
      exact fun vs F' H' g' r' => h (v :: vs) F' H' (g1.trans g') (.cons (r1.mono g'.ff) r')
/-- weak arguments: what is read just now -/
theorem dq_cons (ha : DE K X W s e te ge) (hr : DA K X W true es t g) (hst : starEach (e :: es) X.env = (false, eval e X.env) :: starEach es X.env := by rfl) : DA K X W true (e :: es) (tCons te t) (aCons ge g) := by
  obtain ⟨K0, T0, L0⟩ := K
  cases ha.hK
  refine ⟨rfl, pa_cons ha.pe hr.pa hst, fun f en w σ F H Q o h => ?_⟩
  refine ha.es.toWk f en w σ F H _ o ?_
  unfold aCons at h
  cases q : ge en w with
  | bad =>
    rw [q] at h
    exact h
  | ex c fn a w1 =>
    rw [q] at h
    exact h
  | ok d w1 =>
    rw [q] at h
    intro v F1 H1 g1 r1
    refine hr.es f en w1 σ F1 H1 _ (o.step g1) ?_
    unfold AR.cons at h
    dsimp only at h
    cases q2 : g en w1 with
    | bad =>
      rw [q2] at h
      exact h
    | ex c fn a w2 =>
      rw [q2] at h
      exact fun cls dx F' H' g' x => h cls dx F' H' (g1.trans g') x
    | ok ds w2 =>
      rw [q2] at h
      exact fun vs F' H' g' r' => h (v :: vs) F' H' (g1.trans g') (.cons (r1.go g') r')
/-! displays -/
def eTup (g : AG) : EG := fun en w => match g en w with
  | .ok ds w1 => if ds.length ≤ sizeLine then .ok (.tup ds) w1 else .bad
  | .ex c fn a w1 => .ex c fn a w1
  | .bad => .bad
def eLst (g : AG) : EG := fun en w => match g en w with
  | .ok ds w1 => if ds.length ≤ sizeLine then .ok (.lst ds) w1 else .bad
  | .ex c fn a w1 => .ex c fn a w1
  | .bad => .bad
theorem de_tup {k} (h : DA K X W false es t g) : DE K X W .st (.Tuple es k pos) (tTup t) (eTup g) := by
  obtain ⟨K0, T0, L0⟩ := K
  cases h.hK
  refine ⟨rfl, pe_tup h.pa, fun f en w σ F H Q o hw => ?_⟩
  refine h.es f en w σ F H _ o ?_
  unfold eTup at hw
  cases q : g en w with
  | bad =>
    rw [q] at hw
    exact hw
  | ex c fn a w1 =>
    rw [q] at hw
    exact hw
  | ok ds w1 =>
    rw [q] at hw
    intro vs F' H' g' r'
    replace r' : DvAll _ f.aw F' vs ds := r'
    dsimp only at hw
    by_cases hc : ds.length ≤ sizeLine
    · rw [if_pos hc] at hw
      exact ⟨by rw [r'.length]; exact hc, Wn.tupNew (Wn.any hw g') g'.here r'⟩
    · rw [if_neg hc] at hw
      exact hw.elim
theorem de_lst (h : DA K X W false es t g) : DE K X W .fr (.List es pos) (tLst t) (eLst g) := by
  obtain ⟨K0, T0, L0⟩ := K
  cases h.hK
  refine ⟨rfl, pe_lst h.pa, fun f en w σ F H Q o hw => ?_⟩
  refine h.es f en w σ F H _ o ?_
  unfold eLst at hw
  cases q : g en w with
  | bad =>
    rw [q] at hw
    exact hw
  | ex c fn a w1 =>
    rw [q] at hw
    exact hw
  | ok ds w1 =>
    rw [q] at hw
    intro vs F' H' g' r'
    replace r' : DvAll _ f.aw F' vs ds := r'
    dsimp only at hw
    by_cases hc : ds.length ≤ sizeLine
    · rw [if_pos hc] at hw
      exact ⟨by rw [r'.length]; exact hc, Wn.lstNew (Wn.any hw g') g'.here r'⟩
    · rw [if_neg hc] at hw
      exact hw.elim
/-! subscripts -/
def oIx : D → D → Wl → Res := fun d e w => match d, e with
  | .lst ds, .int i => (match atI ds i with
    | some z => .ok z w
    | none => .bad)
  | .tup ds, .int i => (match atI ds i with
    | some z => .ok z w
    | none => .bad)
  | .con ds, .int i => (match atI ds i with
    | some z => .ok z w
    | none => .bad)
  | .well, .int i => (match atI w i with
    | some n => .ok (.int n) w
    | none => .bad)
  | .scr ns, .int i => (match atI ns i with
    | some n => .ok (.int n) w
    | none => .bad)
  | _, _ => .bad
theorem atI_map {α β : Type} (f : α → β) (xs : List α) (i : Int) : atI (xs.map f) i = (atI xs i).map f := by
  unfold atI
  rw [List.length_map]
  cases ixN xs.length i with
  | none => rfl
  | some j => simp
theorem ops_ix : OpS Kf .st (rIx Kf) oIx := by
  intro aw F H Q E x y d e w go rx ry hw
  cases d <;> cases e <;> first
    | exact hw.elim
    | skip
  · rename_i ds i
    obtain ⟨p, vs, rfl, hv, dv⟩ := rx.seq go.sub
    have ey := ry.int
    subst ey
    simp only [oIx] at hw
    cases q : atI ds i with
    | none =>
      rw [q] at hw
      exact hw.elim
    | some z =>
      rw [q] at hw
      obtain ⟨v, e1, r1⟩ := dv.at q
      exact .inl ⟨p, vs, i, v, rfl, rfl, .inl (.inl hv), e1, Wn.val hw go r1⟩
  · rename_i ds i
    obtain ⟨p, vs, rfl, hv, dv⟩ := rx.tupl go.sub
    have ey := ry.int
    subst ey
    simp only [oIx] at hw
    cases q : atI ds i with
    | none =>
      rw [q] at hw
      exact hw.elim
    | some z =>
      rw [q] at hw
      obtain ⟨v, e1, r1⟩ := dv.at q
      exact .inr (.inl ⟨p, vs, i, v, rfl, rfl, hv, e1, Wn.val hw go r1⟩)
  · rename_i i
    obtain ⟨q0, ea, rfl⟩ := rx.well
    have ey := ry.int
    subst ey
    simp only [oIx] at hw
    cases q : atI w i with
    | none =>
      rw [q] at hw
      exact hw.elim
    | some n =>
      rw [q] at hw
      exact .inl ⟨_, w.map V.int, i, .int n, rfl, rfl, .inl (.inl (go.wl _ ea)), by rw [atI_map, q]; rfl, Wn.val hw go (.int _)⟩
  · rename_i ns i
    obtain ⟨p, rfl, hv⟩ := rx.scr go.sub
    have ey := ry.int
    subst ey
    simp only [oIx] at hw
    cases q : atI ns i with
    | none =>
      rw [q] at hw
      exact hw.elim
    | some n =>
      rw [q] at hw
      exact .inl ⟨_, ns.map V.int, i, .int n, rfl, rfl, hv, by rw [atI_map, q]; rfl, Wn.val hw go (.int _)⟩
  · rename_i ds i
    obtain ⟨p, vs, rfl, hv, dv⟩ := rx.conl go.sub
    have ey := ry.int
    subst ey
    simp only [oIx] at hw
    cases q : atI ds i with
    | none =>
      rw [q] at hw
      exact hw.elim
    | some z =>
      rw [q] at hw
      obtain ⟨v, e1, r1⟩ := dv.at q
      exact .inr (.inl ⟨p, vs, i, v, rfl, rfl, hv, e1, Wn.val hw go r1⟩)
theorem de_ix (ha : DE K X W s1 a ta ga) (hb : DE K X W s2 b tb gb) (hs : PlainIx b := by intro _ _; rfl) : DE K X W .st (.Subscript a b pos) (tOp (rIx K) ta tb) (eBin oIx ga gb) := by
  obtain ⟨K0, T0, L0⟩ := K
  cases ha.hK
  exact ⟨rfl, pe_ix ix_seq ha.pe hb.pe hs, es_bin ops_ix ha.es hb.es⟩
/-! slices -/
inductive PR where
  | ok (o : Option Int) (w : Wl)
  | ex (c fn : Str) (a : D) (w : Wl)
  | bad
def WnP (K : PySem.W.Frag) (aw : Bs) (F H : Hp) (Q : Option Int → Hp → Prop) (E : XK) : PR → Prop
  | .ok o w => ∀ F' H', Go aw F H F' H' w → Q o H'
  | .ex c fn a w => ∀ cls dx F' H', Go aw F H F' H' w → Xr K aw F' c fn a cls dx → E cls dx H'
  | .bad => False
structure DP (K : Kt) (X : Cx) (W : WX) (e : Option Expr) (t : TO) (g : List Sl → Wl → PR) : Prop where
  po : PO X e t
  es : ∀ (f : Fx) (en : List Sl) (w : Wl) (σ : St) (F H : Hp) (Q : Option Int → Hp → Prop), Ok K f en w σ F H → WnP K f.aw F H Q (WE W σ) (g en w) → t σ H Q
def pNone : List Sl → Wl → PR := fun _ w => .ok none w
def pSome (ga : EG) : List Sl → Wl → PR := fun en w => match ga en w with
  | .ok (.int i) w1 => .ok (some i) w1
  | .ok _ _ => .bad
  | .ex c fn a w1 => .ex c fn a w1
  | .bad => .bad
theorem dp_none : DP K X W none tNoPart pNone := ⟨po_none, fun f en w σ F H Q o h => h F H o.here⟩
theorem dp_some (ha : DE K X W s e te ge) : DP K X W (some e) (tPart te) (pSome ge) := by
  obtain ⟨K0, T0, L0⟩ := K
  cases ha.hK
  refine ⟨po_some ha.pe, fun f en w σ F H Q o h => ?_⟩
  refine ha.es.toWk f en w σ F H _ o ?_
  unfold pSome at h
  cases q : ge en w with
  | bad =>
    rw [q] at h
    exact h
  | ex c fn a w1 =>
    rw [q] at h
    exact h
  | ok d w1 =>
    rw [q] at h
    cases d <;> first
      | exact h.elim
      | skip
    exact fun v F' H' g r => ⟨_, r.int, h F' H' g⟩
def cutD (ds : List D) (lo hi : Option Int) : List D := (ds.drop (HT.sIx ds.length 0 lo)).take (HT.sIx ds.length ds.length hi - HT.sIx ds.length 0 lo)
def cutI (ns : List Int) (lo hi : Option Int) : List Int := (ns.drop (HT.sIx ns.length 0 lo)).take (HT.sIx ns.length ns.length hi - HT.sIx ns.length 0 lo)
theorem cutI_map (ns : List Int) (lo hi : Option Int) : cutV (ns.map V.int) lo hi = (cutI ns lo hi).map V.int := by
  unfold cutV cutI
  rw [List.length_map, List.map_take, List.map_drop]
theorem dv_ints {K : PySem.W.Frag} {aw : Bs} {F : Hp} : ∀ ns : List Int, DvAll K aw F (ns.map V.int) (ns.map D.int)
  | [] => .nil
  | n :: ns => .cons (.int n) (dv_ints ns)
def eSl (ge : EG) (gl gh : List Sl → Wl → PR) : EG := fun en w => (ge en w).bind fun d w1 => match gl en w1 with
  | .ok lo w2 => (match gh en w2 with
    | .ok hi w3 => (match d with
      | .lst ds => .ok (.lst (cutD ds lo hi)) w3
      | .tup ds => .ok (.tup (cutD ds lo hi)) w3
      | .scr ns => .ok (.lst ((cutI ns lo hi).map .int)) w3
      | _ => .bad)
    | .ex c fn a w3 => .ex c fn a w3
    | .bad => .bad)
  | .ex c fn a w2 => .ex c fn a w2
  | .bad => .bad
theorem DvAll.cut {vs : List V} {ds : List D} (h : DvAll Kf aw F vs ds) (lo hi : Option Int) : DvAll Kf aw F (cutV vs lo hi) (cutD ds lo hi) := by
  unfold cutV cutD
  rw [h.length]
  exact (h.drop _).take _
theorem cutD_all (ds : List D) (lo hi : Option Int) (h1 : HT.sIx ds.length 0 lo = 0) (h2 : HT.sIx ds.length ds.length hi = ds.length) : cutD ds lo hi = ds := by
  unfold cutD
  rw [h1, h2]
  simp
theorem de_slice {lo hi : Option Expr} {tl th : TO} {gl gh : List Sl → Wl → PR} {p2 : Pos} (he : DE K X W s e te ge) (hl : DP K X W lo tl gl) (hh : DP K X W hi th gh) :
    DE K X W .st (.Subscript e (.Slice lo hi none p2) pos) (tSl (fun x lo hi H Q => rSlL K x lo hi H Q ∨ rSlA K x lo hi H Q) te tl th) (eSl ge gl gh) := by
  obtain ⟨K0, T0, L0⟩ := K
  cases he.hK
  refine ⟨rfl, pe_slice (sl_list.or sl_tupA) he.pe hl.po hh.po, fun f en w σ F H Q o h => ?_⟩
  refine he.es.bindW o h fun d w1 v F1 H1 g1 o1 r1 h1 => ?_
  refine hl.es f en w1 σ F1 H1 _ o1 ?_
  cases q : gl en w1 with
  | bad =>
    rw [q] at h1
    exact h1
  | ex c fn a w2 =>
    rw [q] at h1
    exact h1
  | ok lo w2 =>
    rw [q] at h1
    intro F2 H2 g2
    refine hh.es f en w2 σ F2 H2 _ (o1.step g2) ?_
    dsimp only at h1
    cases q2 : gh en w2 with
    | bad =>
      rw [q2] at h1
      exact h1
    | ex c fn a w3 =>
      rw [q2] at h1
      exact Wn.any h1 g2
    | ok hi w3 =>
      rw [q2] at h1
      intro F3 H3 g3
      dsimp only at h1
      have g13 := g2.trans g3
      have r3 := r1.go g13
      cases d <;> first
        | exact h1.elim
        | skip
      · obtain ⟨p, vs, rfl, hv, dv⟩ := r3.seq g3.sub
        refine .inl ⟨p, vs, rfl, .inl (.inl hv), fun q hq => ?_⟩
        exact h1 _ _ _ (g13.trans (g3.here.new hq _)) (.lst upd_same ((dv.cut lo hi).mono (same_upd2 (g3.here.free hq))))
      · rename_i ds
        have h3 := Wn.any h1 g13
        dsimp only at h3
        rcases r3 with r3 | ⟨_, _, _, z, _⟩
        · cases r3 with
          | tup hv dv =>
            refine .inr ⟨_, _, rfl, SqT.of (g3.sub _ _ hv), fun z => ?_, fun _ => Wn.tupNew h3 g3.here (dv.cut lo hi)⟩
            rw [dv.length] at z
            rw [cutD_all ds lo hi z.1 z.2] at h3
            exact Wn.val h3 g3.here (.tup hv dv)
        · cases z
      · rename_i ns
        obtain ⟨p, rfl, hv⟩ := r3.scr g3.sub
        refine .inl ⟨p, _, rfl, hv, fun q hq => ?_⟩
        rw [cutI_map]
        exact h1 _ _ _ (g13.trans (g3.here.new hq _)) (.lst upd_same (dv_ints _))
/-! calls of built-ins by values -/
def CS (K : PySem.W.Frag) (s : Sg) (r : List V → Hp → VK → Prop) (o : List D → Wl → Res) : Prop :=
  ∀ (aw : Bs) (F H : Hp) (Q : VK) (E : XK) (vs : List V) (ds : List D) (w : Wl), Go aw F H F H w → DqAll K aw F H vs ds → Wn s K aw F H Q E (o ds w) → r vs H Q
def eCall (o : List D → Wl → Res) (g : AG) : EG := fun en w => match g en w with
  | .ok ds w1 => o ds w1
  | .ex c fn a w1 => .ex c fn a w1
  | .bad => .bad
variable {r' : List V → Hp → VK → Prop} {o' : List D → Wl → Res} {x : Str} {p : Pos} {id T : String}
theorem es_call (hs : CS K s r' o') (ha : EA K W true t g) : ES K W s (tCB r' t) (eCall o' g) := by
  intro f en w σ F H Q o h
  refine ha f en w σ F H _ o ?_
  unfold eCall at h
  cases q : g en w with
  | bad =>
    rw [q] at h
    exact h
  | ex c fn a w1 =>
    rw [q] at h
    exact h
  | ok ds w1 =>
    rw [q] at h
    exact fun vs F' H' g' r' => hs f.aw F' H' Q _ vs ds w1 g'.here r' (Wn.any h g')
theorem de_callB (hc : CallR X (.builtin id) r') (hs : CS K s r' o') (hg : Gl X x) (hm : X.mg x = none) (hv : bootBuiltins x = some (.builtin id)) (ha : DA K X W true (e :: es) t g) (hn : x ≠ "__name__" := by decide) (hdb : (x == ("__debug__" : Str)) = false := by decide)
    (he : starEach (e :: es) X.env = (false, eval e X.env) :: starEach es X.env := by rfl) (hpl : (backTo pos (starEach es X.env)).any (·.1) = false := by rfl) : DE K X W s (.Call (.Name x p) (e :: es) [] pos) (tCB r' t) (eCall o' g) := by
  obtain ⟨K0, T0, L0⟩ := K
  cases ha.hK
  exact ⟨rfl, pe_callB hc hg hm hv ha.pa hn hdb he hpl, es_call hs ha.es⟩
theorem de_callT (hc : CallR X (.type T) r') (hs : CS K s r' o') (hg : Gl X x) (hm : X.mg x = none) (hv : bootBuiltins x = some (.type T)) (ha : DA K X W true (e :: es) t g) (hn : x ≠ "__name__" := by decide) (hdb : (x == ("__debug__" : Str)) = false := by decide)
    (he : starEach (e :: es) X.env = (false, eval e X.env) :: starEach es X.env := by rfl) (hpl : (backTo pos (starEach es X.env)).any (·.1) = false := by rfl) : DE K X W s (.Call (.Name x p) (e :: es) [] pos) (tCB r' t) (eCall o' g) := by
  obtain ⟨K0, T0, L0⟩ := K
  cases ha.hK
  exact ⟨rfl, pe_callTy hc hg hm hv ha.pa hn hdb he hpl, es_call hs ha.es⟩
end
end DL

/-! DL, part e: statements, targets, loops, comprehensions. -/
namespace DL
open PySem PySem.Spec L2
open PyProof.Rows hiding St

def WnS (K : Kt) (f : Fx) (Dn : Ends) (W : WX) : Out → Prop
  | .nx en w => ∀ σ F H, Ok K f en w σ F H → Dn.nx σ H
  | .rt d w => ∀ v F H, Go f.aw f.F0 f.H0 F H w → Dv K f.aw F v d → Dn.rt v H
  | .rf ds w => ∀ a vs F H, Go f.aw f.F0 f.H0 F H w → f.H0 a = none → H a = some (.lst vs) → F a = none → DvAll K f.aw F vs ds → Dn.rt (.ref a) H
  | .bk en w => ∀ σ F H, Ok K f en w σ F H → Dn.bk σ H
  | .ct en w => ∀ σ F H, Ok K f en w σ F H → Dn.ct σ H
  | .ex c fn a en w => ∀ cls dx σ F H, Ok K f en w σ F H → Xr K f.aw F c fn a cls dx → W cls dx σ H
  | .bad => False
def ESs (K : Kt) (W : WX) (t : TS) (g : SG) : Prop :=
  ∀ (f : Fx) (en : List Sl) (w : Wl) (σ : St) (F H : Hp) (Dn : Ends), Ok K f en w σ F H → WnS K f Dn W (g en w) → t Dn σ H
structure DS (K : Kt) (X : Cx) (W : WX) (st : Stmt) (t : TS) (g : SG) : Prop where
  ps : PS X st t
  es : ESs K W t g
structure DSs (K : Kt) (X : Cx) (W : WX) (st : List Stmt) (t : TS) (g : SG) : Prop where
  ps : PSs X st t
  es : ESs K W t g
/-- an expression's answer, then a statement's end -/
def Res.thn (r : Res) (en : List Sl) (k : D → Wl → Out) : Out := match r with
  | .ok d w => k d w
  | .ex c fn a w => .ex c fn a en w
  | .bad => .bad
def AR.thn (r : AR) (en : List Sl) (k : List D → Wl → Out) : Out := match r with
  | .ok ds w => k ds w
  | .ex c fn a w => .ex c fn a en w
  | .bad => .bad
/-! ### slots that are stored -/
section
variable {K : Kt} {Kf : PySem.W.Frag} {f : Fx} {en : List Sl} {w : Wl} {σ : St} {F H : Hp} {i : Nat} {v : V} {d : D} {ds : List D} {vs : List V} {a : Addr}
theorem set_get {α : Type} {xs : List α} {i j : Nat} {x y : α} (h : (xs.set i x)[j]? = some y) : (j = i ∧ y = x ∧ i < xs.length) ∨ (j ≠ i ∧ xs[j]? = some y) := by
  rw [List.getElem?_set] at h
  split at h
  · split at h
    · exact .inl ⟨by omega, (Option.some.inj h).symm, by assumption⟩
    · cases h
  · exact .inr ⟨by omega, h⟩
theorem get_set {α : Type} {xs : List α} {i : Nat} {x : α} (h : i < xs.length) : (xs.set i x)[i]? = some x := by rw [List.getElem?_set_self h]
theorem get_set_ne {α : Type} {xs : List α} {i j : Nat} {x : α} (h : j ≠ i) : (xs.set i x)[j]? = xs[j]? := by rw [List.getElem?_set_ne (Ne.symm h)]
theorem Ok.setDat (o : Ok K f en w σ F H) (r : Dv K f.aw F v d) : Ok K f (en.set i (.dat d)) w (σ.set i (some v)) F H := by
  refine ⟨o.go, o.base, by rw [List.length_set, List.length_set]; exact o.len, fun j e hj => ?_, fun j es hj => ?_, o.tT, o.tabs, fun j hj => ?_, fun j k es us b hj hk h1 h2 => ?_, o.dic.keep (fun j kvs hj => ?_) (fun _ _ h1 _ h3 => ⟨h1, h3⟩) (Same.refl _)⟩
  · rcases set_get hj with ⟨rfl, e1, hl⟩ | ⟨ne, hj⟩
    · cases e1
      exact ⟨v, get_set (by rw [o.len]; exact hl), r⟩
    · rw [get_set_ne ne]
      exact o.dat j e hj
  · rcases set_get hj with ⟨rfl, e1, hl⟩ | ⟨ne, hj⟩
    · cases e1
    · rw [get_set_ne ne]
      exact o.own j es hj
  · rcases set_get hj with ⟨rfl, e1, hl⟩ | ⟨ne, hj⟩
    · cases e1
    · rw [get_set_ne ne]
      exact o.hol j hj
  · rcases set_get hj with ⟨rfl, e1, hl⟩ | ⟨ne, hj⟩
    · cases e1
    · rcases set_get hk with ⟨rfl, e1, hl⟩ | ⟨ne2, hk⟩
      · cases e1
      · rw [get_set_ne ne] at h1
        rw [get_set_ne ne2] at h2
        exact o.inj j k es us b hj hk h1 h2
  · rcases set_get hj with ⟨rfl, e1, hl⟩ | ⟨ne, hj⟩
    · cases e1
    · exact ⟨hj, get_set_ne ne⟩
theorem Ok.setOwn (o : Ok K f en w σ F H) (h1 : H a = some (.lst vs)) (h2 : f.H0 a = none) (h3 : F a = none) (r : DvAll K f.aw F vs ds)
    (hn : ∀ (j : Nat) (es : List D), j ≠ i → en[j]? = some (.own es) → σ[j]? ≠ some (some (.ref a))) : Ok K f (en.set i (.own ds)) w (σ.set i (some (.ref a))) F H := by
  refine ⟨o.go, o.base, by rw [List.length_set, List.length_set]; exact o.len, fun j e hj => ?_, fun j es hj => ?_, o.tT, o.tabs, fun j hj => ?_, fun j k es us b hj hk q1 q2 => ?_, o.dic.keep (fun j kvs hj => ?_) (fun _ _ h1 _ h3 => ⟨h1, h3⟩) (Same.refl _)⟩
  · rcases set_get hj with ⟨rfl, e1, hl⟩ | ⟨ne, hj⟩
    · cases e1
    · rw [get_set_ne ne]
      exact o.dat j e hj
  · rcases set_get hj with ⟨rfl, e1, hl⟩ | ⟨ne, hj⟩
    · cases e1
      exact ⟨a, vs, get_set (by rw [o.len]; exact hl), h1, h2, h3, r⟩
    · rw [get_set_ne ne]
      exact o.own j es hj
  · rcases set_get hj with ⟨rfl, e1, hl⟩ | ⟨ne, hj⟩
    · cases e1
    · rw [get_set_ne ne]
      exact o.hol j hj
  · rcases set_get hj with ⟨rfl, e1, hl⟩ | ⟨ne, hj⟩
    · rcases set_get hk with ⟨rfl, e2, hl2⟩ | ⟨ne2, hk⟩
      · rfl
      · rw [get_set (by rw [o.len]; exact hl)] at q1
        cases q1
        rw [get_set_ne ne2] at q2
        exact absurd q2 (hn k us ne2 hk)
    · rcases set_get hk with ⟨ek, e2, hl2⟩ | ⟨ne2, hk⟩
      · rw [ek, get_set (by rw [o.len]; exact hl2)] at q2
        cases q2
        rw [get_set_ne ne] at q1
        exact absurd q1 (hn j es ne hj)
      · rw [get_set_ne ne] at q1
        rw [get_set_ne ne2] at q2
        exact o.inj j k es us b hj hk q1 q2
  · rcases set_get hj with ⟨rfl, e1, hl⟩ | ⟨ne, hj⟩
    · cases e1
    · exact ⟨hj, get_set_ne ne⟩
/-- the body's own list is written -/
theorem Ok.write (o : Ok K f en w σ F H) (hi : en[i]? = some (.own ds)) (hs : σ[i]? = some (some (.ref a))) {us : List V} {es : List D} (r : DvAll K f.aw F us es) : Ok K f (en.set i (.own es)) w σ F (upd H a (.lst us)) := by
  obtain ⟨a', vs, e, h1, h2, h3, _⟩ := o.own i ds hi
  rw [hs] at e
  cases e
  have na : some a ≠ f.aw.a := fun z => (o.base a z.symm).1 h2
  have hl : i < en.length := (List.getElem?_eq_some_iff.mp hi).1
  refine ⟨o.go.wr h2 h3 na (.inr ⟨vs, h1⟩), o.base, by rw [List.length_set]; exact o.len, fun j e hj => ?_, fun j es' hj => ?_, o.tT, tabs_lst o.tabs h1, fun j hj => ?_, fun j k es' us' b hj hk q1 q2 => ?_, o.dic.keep (fun j kvs hj => ?_) (fun b us' q1 q2 q3 => ⟨by rw [upd_ne (fun z => by rw [z, h1] at q1; cases q1)]; exact q1, q3⟩) (Same.refl _)⟩
  · rcases set_get hj with ⟨rfl, e1, hl⟩ | ⟨ne, hj⟩
    · cases e1
    · exact o.dat j e hj
  · rcases set_get hj with ⟨rfl, e1, hl⟩ | ⟨ne, hj⟩
    · cases e1
      exact ⟨a, us, hs, upd_same, h2, h3, r⟩
    · obtain ⟨b, vs', e1, q1, q2, q3, r'⟩ := o.own j es' hj
      have nb : b ≠ a := fun z => ne (o.inj j i es' ds a hj hi (by rw [e1, z]) hs)
      exact ⟨b, vs', e1, by rw [upd_ne nb]; exact q1, q2, q3, r'⟩
  · rcases set_get hj with ⟨rfl, e1, hl⟩ | ⟨ne, hj⟩
    · cases e1
    · obtain ⟨l, e1, e2, e3, e4, gl⟩ := o.hol j hj
      exact ⟨l, e1, e2, e3, e4, gl.wr (e4 ▸ h2) h3 (e3 ▸ na) (.inr ⟨vs, h1⟩)⟩
  · have back : ∀ (m : Nat) (e : List D), (en.set i (.own es))[m]? = some (.own e) → ∃ e', en[m]? = some (.own e') := fun m e hm => by
      rcases set_get hm with ⟨rfl, _, _⟩ | ⟨_, hm⟩
      · exact ⟨_, hi⟩
      · exact ⟨_, hm⟩
    obtain ⟨e1, hj⟩ := back j es' hj
    obtain ⟨e2, hk⟩ := back k us' hk
    exact o.inj j k e1 e2 b hj hk q1 q2
  · rcases set_get hj with ⟨rfl, e1, hl⟩ | ⟨ne, hj⟩
    · cases e1
    · exact ⟨hj, rfl⟩
/-- the generator is written -/
theorem Ok.turn {q : Addr} (o : Ok K f en w σ F H) (ha : f.aw.a = some q) (w' : Wl) : Ok K f en w' σ F (upd H q (.lst (w'.map V.int))) := by
  have fa : F q = none := o.awF q ha
  refine ⟨o.go.tn ha fa w', o.base, o.len, o.dat, fun j es' hj => ?_, o.tT, tabs_lst o.tabs (o.go.wl q ha), fun j hj => ?_, o.inj, o.dic.keep (fun _ _ h => ⟨h, rfl⟩) (fun b us' q1 q2 q3 => ⟨by rw [upd_ne (fun z => (o.base q ha).1 (by rw [← z]; exact q2))]; exact q1, q3⟩) (Same.refl _)⟩
  · obtain ⟨b, vs', e1, q1, q2, q3, r'⟩ := o.own j es' hj
    have nb : b ≠ q := fun z => (o.base q ha).1 (by rw [← z]; exact q2)
    exact ⟨b, vs', e1, by rw [upd_ne nb]; exact q1, q2, q3, r'⟩
  · obtain ⟨l, e1, e2, e3, e4, gl⟩ := o.hol j hj
    exact ⟨l, e1, e2, e3, e4, gl.tn (by rw [← e3]; exact ha) fa w'⟩
theorem tabs_wr {T : List (Addr × Str)} {p : Addr} {us : List V} (t : LamX.Tabs T H) (hp : H p = none ∨ ∃ vs, H p = some (.lst vs)) : LamX.Tabs T (upd H p (.lst us)) := by
  rcases hp with hp | ⟨vs, hp⟩
  · exact t.ext fun b u e => same_upd2 hp b u e
  · exact tabs_lst t hp
/-- an untracked list beside the state is written -/
theorem Ok.poke {p : Addr} {us : List V} (o : Ok K f en w σ F H) (hp : H p = none ∨ ∃ vs, H p = some (.lst vs)) (h0 : f.H0 p = none) (fp : F p = none) (np : some p ≠ f.aw.a) (hn : ∀ (j : Nat) (es : List D), en[j]? = some (.own es) → σ[j]? ≠ some (some (.ref p))) : Ok K f en w σ F (upd H p (.lst us)) := by
  refine ⟨o.go.wr h0 fp np hp, o.base, o.len, o.dat, fun j es' hj => ?_, o.tT, tabs_wr o.tabs hp, fun j hj => ?_, o.inj, o.dic.keep (fun _ _ h => ⟨h, rfl⟩) (fun b us' q1 q2 q3 => ⟨by rw [upd_ne (fun z => by rw [z] at q1; rcases hp with hp | ⟨vs, hp⟩ <;> rw [hp] at q1 <;> cases q1)]; exact q1, q3⟩) (Same.refl _)⟩
  · obtain ⟨b, vs', e1, q1, q2, q3, r'⟩ := o.own j es' hj
    have nb : b ≠ p := fun z => hn j es' hj (by rw [e1, z])
    exact ⟨b, vs', e1, by rw [upd_ne nb]; exact q1, q2, q3, r'⟩
  · obtain ⟨l, e1, e2, e3, e4, gl⟩ := o.hol j hj
    exact ⟨l, e1, e2, e3, e4, gl.wr (e4 ▸ h0) fp (e3 ▸ np) hp⟩
end

/-! ### statements -/
def sPass : SG := fun en w => .nx en w
def sSeq (g h : SG) : SG := fun en w => (g en w).seq h
def sSet (i : Nat) (g : EG) : SG := fun en w => (g en w).thn en fun d w1 => .nx (en.set i (.dat d)) w1
def sOwn (i : Nat) (g : EG) : SG := fun en w => (g en w).thn en fun d w1 => match d with
  | .lst ds => .nx (en.set i (.own ds)) w1
  | _ => .bad
def sDrop (g : EG) : SG := fun en w => (g en w).thn en fun _ w1 => .nx en w1
def sRet (g : EG) : SG := fun en w => (g en w).thn en fun d w1 => .rt d w1
def sRetOwn (i : Nat) : SG := fun en w => match en[i]? with
  | some (.own ds) => .rt (.lst ds) w
  | _ => .bad
def sIf (c : EG) (g h : SG) : SG := fun en w => (c en w).thn en fun d w1 => match d with
  | .bl true => g en w1
  | .bl false => h en w1
  | _ => .bad
def sApp (i : Nat) (g : EG) : SG := fun en w => match en[i]? with
  | some (.own ds) => (g en w).thn en fun d w1 => if ds.length < sizeLine then .nx (en.set i (.own (ds ++ [d]))) w1 else .bad
  | _ => .bad
/-- xs[j] = e of an own list; of the generator -/
def sPut (i : Nat) (gi g : EG) : SG := fun en w => match en[i]? with
  | some (.own ds) => (g en w).thn en fun d w1 => (gi en w1).thn en fun k w2 => (match k with
    | .int n => (match ixN ds.length n with
      | some j => .nx (en.set i (.own (ds.set j d))) w2
      | none => .bad)
    | _ => .bad)
  | some (.dat .well) => (g en w).thn en fun d w1 => (gi en w1).thn en fun k w2 => (match k, d with
    | .int n, .int z => (match ixN w2.length n with
      | some j => .nx en (w2.set j z)
      | none => .bad)
    | _, _ => .bad)
  | _ => .bad
section
variable {X : Cx} {W : WX} {K : Kt} {Kf : PySem.W.Frag} {s s1 s2 s3 : Sg} {pos pos' : Pos} {a b c e : Expr} {es : List Expr} {ta tb tc te ti : TE} {ga gb gc ge gi : EG} {t u : TS} {g h : SG} {tA : TT} {st : Stmt} {sts sts2 : List Stmt} {x y : Str}
/-- an expression within a statement -/
theorem es_thn {R : V → Hp → Prop} {f : Fx} {en : List Sl} {w : Wl} {σ : St} {F H : Hp} {Dn : Ends} {k : D → Wl → Out} (ha : ES K W s ta ga) (o : Ok K f en w σ F H) (h : WnS K f Dn W ((ga en w).thn en k))
    (hk : ∀ d w1 v F1 H1, Go f.aw F H F1 H1 w1 → Ok K f en w1 σ F1 H1 → Rl s K f.aw H F1 H1 v d → WnS K f Dn W (k d w1) → R v H1) : ta σ H R := by
  refine ha f en w σ F H R o ?_
  unfold Res.thn at h
  cases q : ga en w with
  | bad =>
    rw [q] at h
    exact h
  | ex c fn a w1 =>
    rw [q] at h
    exact fun cls dx F' H' g x => h cls dx σ F' H' (o.step g) x
  | ok d w1 =>
    rw [q] at h
    exact fun v F1 H1 g r => hk d w1 v F1 H1 g (o.step g) r h
theorem et_thn {R : Bool → Hp → Prop} {f : Fx} {en : List Sl} {w : Wl} {σ : St} {F H : Hp} {Dn : Ends} {k : D → Wl → Out} (ha : ET K W tA ga) (o : Ok K f en w σ F H) (hb : ∀ d w, (∀ b, d ≠ .bl b) → k d w = .bad) (h : WnS K f Dn W ((ga en w).thn en k))
    (hk : ∀ b w1 F1 H1, Go f.aw F H F1 H1 w1 → Ok K f en w1 σ F1 H1 → WnS K f Dn W (k (.bl b) w1) → R b H1) : tA σ H R := by
  refine ha f en w σ F H R o ?_
  unfold Res.thn at h
  cases q : ga en w with
  | bad =>
    rw [q] at h
    exact h
  | ex c fn a w1 =>
    rw [q] at h
    exact fun cls dx F' H' g x => h cls dx σ F' H' (o.step g) x
  | ok d w1 =>
    rw [q] at h
    dsimp only at h
    cases d <;> first
      | exact (by rw [hb _ _ (by intro b z; cases z)] at h; exact h)
      | exact fun F1 H1 g => hk _ w1 F1 H1 g (o.step g) h
theorem ea_thn {R : List V → Hp → Prop} {bb : Bool} {tA : TA} {gA : AG} {f : Fx} {en : List Sl} {w : Wl} {σ : St} {F H : Hp} {Dn : Ends} {k : List D → Wl → Out} (ha : EA K W bb tA gA) (o : Ok K f en w σ F H) (h : WnS K f Dn W ((gA en w).thn en k))
    (hk : ∀ ds w1 vs F1 H1, Go f.aw F H F1 H1 w1 → Ok K f en w1 σ F1 H1 → RlA bb K f.aw F1 H1 vs ds → WnS K f Dn W (k ds w1) → R vs H1) : tA σ H R := by
  refine ha f en w σ F H R o ?_
  unfold AR.thn at h
  cases q : gA en w with
  | bad =>
    rw [q] at h
    exact h
  | ex c fn a w1 =>
    rw [q] at h
    exact fun cls dx F' H' g x => h cls dx σ F' H' (o.step g) x
  | ok d w1 =>
    rw [q] at h
    exact fun v F1 H1 g r => hk d w1 v F1 H1 g (o.step g) r h
theorem dss_nil : DSs K X W [] tNext sPass := ⟨pss_nil, fun f en w σ F H Dn o h => h σ F H o⟩
theorem ess_seq (h1 : ESs K W t g) (h2 : ESs K W u h) : ESs K W (tSeq t u) (sSeq g h) := by
  intro f en w σ F H Dn o hw
  refine h1 f en w σ F H _ o ?_
  unfold sSeq Out.seq at hw
  cases q : g en w with
  | nx en1 w1 =>
    rw [q] at hw
    exact fun σ1 F1 H1 o1 => h2 f en1 w1 σ1 F1 H1 Dn o1 hw
  | rt d w1 => rw [q] at hw; exact hw
  | bk en1 w1 => rw [q] at hw; exact hw
  | rf d w => rw [q] at hw; exact hw
  | ct en1 w1 => rw [q] at hw; exact hw
  | ex c fn a en1 w1 => rw [q] at hw; exact hw
  | bad => rw [q] at hw; exact hw
theorem dss_cons (h1 : DS K X W st t g) (h2 : DSs K X W sts u h) : DSs K X W (st :: sts) (tSeq t u) (sSeq g h) := ⟨pss_cons h1.ps h2.ps, ess_seq h1.es h2.es⟩
theorem dss_one (h1 : DS K X W st t g) : DSs K X W [st] t g := ⟨pss_one h1.ps, h1.es⟩
/-- x = e -/
theorem ess_set {i : Nat} (he : ES K W s te ge) (hs : s ≠ .wk) : ESs K W (tAsg te (gName i)) (sSet i ge) := by
  intro f en w σ F H Dn o h
  show te σ H fun v H1 => Dn.nx (σ.set i (some v)) H1
  exact es_thn (he.toSt hs) o h fun d w1 v F1 H1 g1 o1 r1 h1 => h1 _ F1 H1 (o1.setDat r1)
theorem ds_set (i : Nat) (hN : X.N.Nodup) (he : DE K X W s e te ge) (hs : s ≠ .wk := by decide) (hi : X.N[i]? = some x := by rfl) (hx : Loc X.env.scope x := by first | exact Or.inl rfl | exact Or.inr rfl) (hsw : swapsWith e (some (.Name x pos')) pos.line X.env = pure false := by rfl)
    (hf : X.fn x = true ∨ X.env.scope.names.lookup x = some .local := by first | exact .inl rfl | exact .inr rfl) : DS K X W (.Assign [.Name x pos'] e pos) (tAsg te (gName i)) (sSet i ge) := by
  obtain ⟨K0, T0, L0⟩ := K
  cases he.hK
  exact ⟨ps_set hN hi hx he.pe hsw hf, ess_set he.es hs⟩
theorem fresh0 {f : Fx} {en : List Sl} {w : Wl} {σ : St} {F H : Hp} {p : Addr} (o : Ok K f en w σ F H) (hp : H p = none) : f.H0 p = none ∧ some p ≠ f.aw.a ∧ ∀ (j : Nat) (es : List D), en[j]? = some (.own es) → σ[j]? ≠ some (some (.ref p)) := by
  have np : some p ≠ f.aw.a := fun z => by
    rw [o.go.wl p z.symm] at hp
    cases hp
  refine ⟨?_, np, fun j es hj hs => ?_⟩
  · cases q : f.H0 p with
    | none => rfl
    | some u => exact absurd hp (o.go.ne p (by rw [q]; exact fun y => nomatch y))
  · obtain ⟨a, vs, e, h1, _⟩ := o.own j es hj
    rw [hs] at e
    cases e
    rw [hp] at h1
    cases h1
theorem ess_own {i : Nat} (he : ES K W .fr te ge) : ESs K W (tAsg te (gName i)) (sOwn i ge) := by
  intro f en w σ F H Dn o h
  show te σ H fun v H1 => Dn.nx (σ.set i (some v)) H1
  refine es_thn he o h fun d w1 v F1 H1 g1 o1 r1 h1 => ?_
  obtain ⟨ds, a, vs, rfl, rfl, n, q, hf, r⟩ := r1
  obtain ⟨z0, _, zn⟩ := fresh0 o n
  exact h1 _ F1 H1 (o1.setOwn q z0 hf r fun j es _ hj => zn j es hj)
theorem ds_own (i : Nat) (hN : X.N.Nodup) (he : DE K X W .fr e te ge) (hi : X.N[i]? = some x := by rfl) (hx : Loc X.env.scope x := by first | exact Or.inl rfl | exact Or.inr rfl) (hsw : swapsWith e (some (.Name x pos')) pos.line X.env = pure false := by rfl)
    (hf : X.fn x = true ∨ X.env.scope.names.lookup x = some .local := by first | exact .inl rfl | exact .inr rfl) : DS K X W (.Assign [.Name x pos'] e pos) (tAsg te (gName i)) (sOwn i ge) := by
  obtain ⟨K0, T0, L0⟩ := K
  cases he.hK
  exact ⟨ps_set hN hi hx he.pe hsw hf, ess_own he.es⟩
theorem ds_drop (he : DE K X W s e te ge) (hs : swapsWith e none pos.line X.env = pure false := by rfl) : DS K X W (.Expr e pos) (tDrop te) (sDrop ge) := by
  obtain ⟨K0, T0, L0⟩ := K
  cases he.hK
  exact ⟨ps_expr he.pe hs, fun f en w σ F H Dn o h => es_thn (R := fun _ H1 => Dn.nx σ H1) he.es o h fun d w1 v F1 H1 g1 o1 r1 h1 => h1 _ F1 H1 o1⟩
theorem ds_ret (he : DE K X W s e te ge) (hs : s ≠ .wk := by decide) : DS K X W (.Return (some e) pos) (tRet te) (sRet ge) := by
  obtain ⟨K0, T0, L0⟩ := K
  cases he.hK
  exact ⟨ps_ret he.pe, fun f en w σ F H Dn o h => es_thn (R := Dn.rt) (he.es.toSt hs) o h fun d w1 v F1 H1 g1 o1 r1 h1 => h1 v F1 H1 o1.go r1⟩
/-- return of a new list, as it is -/
def sRetF (g : EG) : SG := fun en w => (g en w).thn en fun d w1 => match d with
  | .lst ds => .rf ds w1
  | _ => .bad
theorem ds_retF (he : DE K X W .fr e te ge) : DS K X W (.Return (some e) pos) (tRet te) (sRetF ge) := by
  refine ⟨ps_ret he.pe, fun f en w σ F H Dn o h => es_thn (R := Dn.rt) he.es o h fun d w1 v F1 H1 g1 o1 r1 h1 => ?_⟩
  obtain ⟨ds, a, vs, rfl, rfl, n, q, hf, r⟩ := r1
  exact h1 a vs F1 H1 o1.go (fresh0 o n).1 q hf r
/-- return of an own list: it is frozen -/
theorem ds_retOwn (i : Nat) (hN : X.N[i]? = some x := by rfl) (hv : Vis X.env.scope x := by first | exact Or.inl rfl | exact Or.inr (Or.inl rfl) | exact Or.inr (Or.inr rfl))
    (hd : (x == ("__debug__" : Str)) = false := by decide) (hcd : (x == ("__classdict__" : Str)) = false := by decide) : DS K X W (.Return (some (.Name x pos')) pos) (tRet (tVar i)) (sRetOwn i) := by
  refine ⟨ps_ret (pe_var hN hv hd hcd), fun f en w σ F H Dn o h => ?_⟩
  unfold sRetOwn at h
  cases q : en[i]? with
  | none => rw [q] at h; exact h.elim
  | some sl =>
    cases sl with
    | non => rw [q] at h; exact h.elim
    | hol => rw [q] at h; exact h.elim
    | dic _ => rw [q] at h; exact h.elim
    | dat d => rw [q] at h; exact h.elim
    | own ds =>
      rw [q] at h
      obtain ⟨a, vs, e, h1, h2, h3, r⟩ := o.own i ds q
      exact ⟨_, e, h _ _ H (o.go.frozen h2 h1 h3) (.lst upd_same (r.mono (same_upd2 h3)))⟩
theorem ds_if (hc : DT K X W c tA gc) (ha : DSs K X W sts t g) (hb : DSs K X W sts2 u h) : DS K X W (.If c sts sts2 pos) (tIfS tA t u) (sIf gc g h) := by
  refine ⟨ps_if hc.pt ha.ps hb.ps, fun f en w σ F H Dn o hw => ?_⟩
  show tA σ H fun k H1 => if k = true then t Dn σ H1 else u Dn σ H1
  refine et_thn hc.es o (fun d w hd => ?_) hw fun k w1 F1 H1 g1 o1 h1 => ?_
  · cases d <;> first
      | rfl
      | exact absurd rfl (hd _)
  · cases k with
    | true => exact ha.es f en w1 σ F1 H1 Dn o1 h1
    | false => exact hb.es f en w1 σ F1 H1 Dn o1 h1
/-- xs.append(e), xs an own list -/
theorem ds_app (i : Nat) {ap cp : Pos} (he : DE K X W s e te ge) (hs : s ≠ .wk := by decide) (hN : X.N[i]? = some x := by rfl) (hv : Vis X.env.scope x := by first | exact Or.inl rfl | exact Or.inr (Or.inl rfl) | exact Or.inr (Or.inr rfl))
    (hd : (x == ("__debug__" : Str)) = false := by decide) (hcd : (x == ("__classdict__" : Str)) = false := by decide)
    (hst : starEach [e] X.env = (false, eval e X.env) :: starEach [] X.env := by rfl) (hsw : swapsWith (.Call (.Attribute (.Name x pos') "append" ap) [e] [] cp) none pos.line X.env = pure false := by rfl)
    (hbase : attributeBase (.Name x pos') "append" X.env (eval (.Name x pos') X.env) = eval (.Name x pos') X.env := by rfl) (hfew : ((backTo cp (starEach [e] X.env)).all (fun x => !x.1) && (backToKw cp (keywordEach [] X.env)).all (fun x => x.1.isSome)
      && decide ([e].length + ([] : List Keyword).length + (if ([] : List Keyword).isEmpty then 0 else 1) < 30)) = true := by rfl)
    (hline : (ap.endLine == cp.line) = true := by rfl) (hpl : (backTo cp (starEach [] X.env)).any (·.1) = false := by rfl) :
    DS K X W (.Expr (.Call (.Attribute (.Name x pos') "append" ap) [e] [] cp) pos) (tDrop (tBM K "list" rAppend (tVar i) (tCons te tNil))) (sApp i ge) := by
  obtain ⟨K0, T0, L0⟩ := K
  cases he.hK
  refine ⟨ps_expr (pe_bm PySem.F.plainAttrs_list PySem.F.slot_list_append PySem.F.type_list_append mt_append (pe_var hN hv hd hcd) (pa_cons he.pe pa_nil hst) hbase hfew hline hst hpl) hsw, fun f en w σ F H Dn o h => ?_⟩
  unfold sApp at h
  cases q : en[i]? with
  | none =>
    rw [q] at h
    exact h.elim
  | some sl =>
    cases sl with
    | non => rw [q] at h; exact h.elim
    | hol => rw [q] at h; exact h.elim
    | dic _ => rw [q] at h; exact h.elim
    | dat d => rw [q] at h; exact h.elim
    | own ds =>
      rw [q] at h
      obtain ⟨a, vs, e, h1, h2, h3, r⟩ := o.own i ds q
      refine ⟨_, e, .inl ⟨rfl, vs, .inl (.inl h1)⟩, ?_⟩
      refine es_thn (R := fun v H1 => rAppend (.ref a) [v] H1 fun _ H2 => Dn.nx σ H2) (he.es.toSt hs) o h fun d w1 v F1 H1 g1 o1 r1 h1' => ?_
      obtain ⟨a', us, e', k1, k2, k3, r'⟩ := o1.own i ds q
      rw [e] at e'
      cases e'
      by_cases hc : ds.length < sizeLine
      · rw [if_pos hc] at h1'
        refine ⟨a, us, v, rfl, rfl, k1, by rw [r'.length]; exact hc, ?_⟩
        have fin := h1' σ F1 _ (?_ : Ok _ f (en.set i (.own (ds ++ [d]))) w1 σ F1 (upd H1 a (.lst (us ++ [v]))))
        · exact fin
        · exact o1.write q e (r'.snoc r1)
      · rw [if_neg hc] at h1'
        exact h1'.elim
/-- xs[j] = e -/
theorem ds_put (i : Nat) {tp : Pos} (he : DE K X W s e te ge) (hb : DE K X W s2 b ti gi) (hs : s ≠ .wk := by decide) (hN : X.N[i]? = some x := by rfl) (hv : Vis X.env.scope x := by first | exact Or.inl rfl | exact Or.inr (Or.inl rfl) | exact Or.inr (Or.inr rfl))
    (hd : (x == ("__debug__" : Str)) = false := by decide) (hcd : (x == ("__classdict__" : Str)) = false := by decide)
    (ha : ∀ v, assign (.Subscript (.Name x pos') b tp) X.env v = (do
      let ov ← holding [v] (eval (.Name x pos') X.env)
      let iv ← holding [v, ov] (eval b X.env)
      standAt tp
      holding [v, ov, iv] (setItem ov iv v)
      release [v, ov, iv] []) := by intro _; rfl)
    (hsw : swapsWithSole [.Subscript (.Name x pos') b tp] e pos.line X.env = pure false := by rfl) (hw : swappedStores [.Subscript (.Name x pos') b tp] e X.env = pure none := by rfl)
    (h1 : (assignEach [.Subscript (.Name x pos') b tp] X.env).map (·.2) = [assign (.Subscript (.Name x pos') b tp) X.env] := by rfl) :
    DS K X W (.Assign [.Subscript (.Name x pos') b tp] e pos) (tAsg te (gSub (tVar i) ti rSetL)) (sPut i gi ge) := by
  obtain ⟨K0, T0, L0⟩ := K
  cases he.hK
  refine ⟨ps_asg he.pe (pg_sub (pe_var hN hv hd hcd) hb.pe set_list ha) hsw hw h1, fun f en w σ F H Dn o h => ?_⟩
  unfold sPut at h
  cases q : en[i]? with
  | none => rw [q] at h; exact h.elim
  | some sl =>
    cases sl with
    | non => rw [q] at h; exact h.elim
    | hol => rw [q] at h; exact h.elim
    | dic _ => rw [q] at h; exact h.elim
    | own ds =>
      rw [q] at h
      dsimp only at h
      refine es_thn (R := fun v H1 => gSub (tVar i) ti rSetL v σ H1 Dn.nx) (he.es.toSt hs) o h fun d w1 v F1 H1 g1 o1 r1 h1' => ?_
      obtain ⟨a, us, e, k1, k2, k3, r'⟩ := o1.own i ds q
      refine ⟨_, e, ?_⟩
      refine es_thn (s := .wk) (R := fun iv H2 => rSetL (.ref a) iv v H2 fun H3 => Dn.nx σ H3) hb.es.toWk o1 h1' fun k w2 iv F2 H2 g2 o2 r2 h2' => ?_
      cases k <;> first
        | exact h2'.elim
        | skip
      rename_i n
      have ei := (show Dq _ f.aw F2 H2 iv (.int n) from r2).int
      subst ei
      obtain ⟨a', us', e', k1', k2', k3', r''⟩ := o2.own i ds q
      rw [e] at e'
      cases e'
      dsimp only at h2'
      cases z : ixN ds.length n with
      | none =>
        rw [z] at h2'
        exact h2'.elim
      | some j =>
        rw [z] at h2'
        exact ⟨a, us', n, j, rfl, rfl, k1', by rw [r''.length]; exact z, h2' σ F2 _ (o2.write q e (r''.set (r1.mono g2.ff) j))⟩
    | dat dd =>
      cases dd <;> first
        | (rw [q] at h; exact h.elim)
        | skip
      rw [q] at h
      dsimp only at h
      refine es_thn (R := fun v H1 => gSub (tVar i) ti rSetL v σ H1 Dn.nx) (he.es.toSt hs) o h fun d w1 v F1 H1 g1 o1 r1 h1' => ?_
      obtain ⟨u, e, ru⟩ := o1.dat i _ q
      obtain ⟨qa, hqa, rfl⟩ := Dq.well (F := F1) (H := H1) (.inl ru)
      refine ⟨_, e, ?_⟩
      refine es_thn (s := .wk) (R := fun iv H2 => rSetL (.ref qa) iv v H2 fun H3 => Dn.nx σ H3) hb.es.toWk o1 h1' fun k w2 iv F2 H2 g2 o2 r2 h2' => ?_
      cases k <;> cases d <;> first
        | exact h2'.elim
        | skip
      rename_i n z
      have ei := (show Dq _ f.aw F2 H2 iv (.int n) from r2).int
      subst ei
      cases r1
      dsimp only at h2'
      cases zz : ixN w2.length n with
      | none =>
        rw [zz] at h2'
        exact h2'.elim
      | some j =>
        rw [zz] at h2'
        refine ⟨qa, w2.map V.int, n, j, rfl, rfl, o2.go.wl _ hqa, by rw [List.length_map]; exact zz, ?_⟩
        have fin := h2' σ F2 _ (o2.turn hqa (w2.set j z))
        rw [List.map_set] at fin
        exact fin
end
end DL

/-! DL, part f: targets, what is walked, for, while, comprehensions. -/
namespace DL
open PySem PySem.Spec L2
open PyProof.Rows hiding St

/-! ### targets: names, tuples of targets -/
def bName (i : Nat) : BG := fun d en => some (en.set i (.dat d))
def bNil : BGs := fun ds en => match ds with
  | [] => some en
  | _ => none
def bCons (b : BG) (bs : BGs) : BGs := fun ds en => match ds with
  | d :: r => (match b d en with
    | some en1 => bs r en1
    | none => none)
  | [] => none
def EGt (K : Kt) (t : TG) (b : BG) (vs : List Nat) : Prop :=
  ∀ (f : Fx) (en en' : List Sl) (w : Wl) (σ : St) (F H : Hp) (v : V) (d : D) (Q : St → Hp → Prop), b d en = some en' → Ok K f en w σ F H → Dq K f.aw F H v d → (∀ i, d = .lst i → Dv K f.aw F v d) →
    (∀ σ', Ok K f en' w σ' F H → Agree vs σ σ' → Q σ' H) → t v σ H Q
def EGs (K : Kt) (t : TGs) (b : BGs) (vs : List Nat) : Prop :=
  ∀ (f : Fx) (en en' : List Sl) (w : Wl) (σ : St) (F H : Hp) (us : List V) (ds : List D) (Q : St → Hp → Prop), b ds en = some en' → Ok K f en w σ F H → DvAll K f.aw F us ds →
    (∀ σ', Ok K f en' w σ' F H → Agree vs σ σ' → Q σ' H) → t us σ H Q
structure DG (K : Kt) (X : Cx) (e : Expr) (t : TG) (b : BG) (vs : List Nat) : Prop where
  hK : X.K = K.K
  pg : PG X e t
  es : EGt K t b vs
structure DGs (K : Kt) (X : Cx) (es : List Expr) (t : TGs) (b : BGs) (vs : List Nat) : Prop where
  hK : X.K = K.K
  pg : PGs X es t
  es : EGs K t b vs
section
variable {X : Cx} {K : Kt} {Kf : PySem.W.Frag} {pos : Pos} {e : Expr} {es : List Expr} {t t' : TG} {u : TGs} {b : BG} {bs : BGs} {vs vs' : List Nat} {x : Str} {k : Nat}
theorem dv_of {f : Fx} {F H : Hp} {v : V} {d : D} (q : Dq Kf f.aw F H v d) (h : ∀ i, d = .lst i → Dv Kf f.aw F v d) : Dv Kf f.aw F v d := by
  rcases q with q | ⟨ds, a, vs, e, _⟩
  · exact q
  · exact h ds e
theorem dg_name (i : Nat) (hN : X.N.Nodup) (hi : X.N[i]? = some x := by rfl) (hx : Loc X.env.scope x := by first | exact Or.inl rfl | exact Or.inr rfl)
    (hf : X.fn x = true ∨ X.env.scope.names.lookup x = some .local := by first | exact .inl rfl | exact .inr rfl) (hK : X.K = K.K := by rfl) : DG K X (.Name x pos) (gName i) (bName i) [i] := by
  obtain ⟨K0, T0, L0⟩ := K
  cases hK
  refine ⟨rfl, pg_name hN hi hx hf, fun f en en' w σ F H v d Q hb o q h1 h => ?_⟩
  cases hb
  exact h _ (o.setDat (dv_of q h1)) ⟨by rw [List.length_set], fun j hj => get_set_ne (by simpa using hj)⟩
theorem dgs_nil (hK : X.K = K.K := by rfl) : DGs K X [] gNil bNil [] := by
  obtain ⟨K0, T0, L0⟩ := K
  cases hK
  refine ⟨rfl, pgs_nil, fun f en en' w σ F H us ds Q hb o r h => ?_⟩
  cases r with
  | nil =>
    cases hb
    exact ⟨rfl, h σ o (.refl σ)⟩
  | cons a b => cases hb
theorem dgs_cons (h1 : DG K X e t b vs) (h2 : DGs K X es u bs vs') (hs : (assignEach (e :: es) X.env).map (·.2) = assign e X.env :: (assignEach es X.env).map (·.2) := by rfl) : DGs K X (e :: es) (gCons t u) (bCons b bs) (vs ++ vs') := by
  obtain ⟨K0, T0, L0⟩ := K
  cases h1.hK
  refine ⟨rfl, pgs_cons h1.pg h2.pg hs, fun f en en' w σ F H us ds Q hb o r h => ?_⟩
  cases r with
  | nil => cases hb
  | @cons v r d ds' rv rr =>
    simp only [bCons] at hb
    cases q : b d en with
    | none =>
      rw [q] at hb
      cases hb
    | some en1 =>
      rw [q] at hb
      refine ⟨v, r, rfl, h1.es f en en1 w σ F H v d _ q o (.inl rv) (fun _ _ => rv) fun σ1 o1 a1 => ?_⟩
      refine h2.es f en1 en' w σ1 F H r ds' Q hb o1 rr fun σ2 o2 a2 => h σ2 o2 ⟨a2.1.trans a1.1, fun i hi => ?_⟩
      rw [a2.2 i (fun z => hi (List.mem_append_right _ z)), a1.2 i (fun z => hi (List.mem_append_left _ z))]
theorem pg_or (h : PG X e t) (h' : PG X e t') : PG X e (fun v σ H Q => t v σ H Q ∨ t' v σ H Q) := ⟨fun pins s σ H v u Q I r hw => hw.elim (h.run pins s σ H v u Q I r) (h'.run pins s σ H v u Q I r)⟩
def gUn (K : PySem.W.Frag) (n : Nat) (u : TGs) : TG := fun v σ H Q => gTup K n u v σ H Q ∨ gUnl K n u v σ H Q
/-- as many as targets, or none -/
def bTupN (n : Nat) (bs : BGs) : BG := fun d en => match d with
  | .tup ds => if ds.length = n then bs ds en else none
  | .con ds => if ds.length = n then bs ds en else none
  | .lst ds => if ds.length = n then bs ds en else none
  | _ => none
theorem dg_tup (hc : X.calm = true) (h : DGs K X es u bs vs) (n : Nat) (hn : (assignEach es X.env).length = n := by rfl) (hst : (assignEach es X.env).findIdx? (·.1) = none := by rfl) : DG K X (.Tuple es k pos) (gUn K n u) (bTupN n bs) vs := by
  obtain ⟨K0, T0, L0⟩ := K
  cases h.hK
  refine ⟨rfl, pg_or (pg_tup hc h.pg hn hst) (pg_unl hc h.pg hn hst), fun f en en' w σ F H v d Q hb o q h1 hq => ?_⟩
  cases d <;> first
    | (simp only [bTupN] at hb; cases hb; done)
    | skip
  · rename_i ds
    simp only [bTupN] at hb
    split at hb
    · rename_i hl
      have r := h1 _ rfl
      cases r with
      | lst hv dv => exact .inr ⟨_, _, rfl, .inl (.inl (o.go.sub _ _ hv)), dv.length.trans hl, h.es f en en' w σ F H _ ds Q hb o dv hq⟩
    · cases hb
  · rename_i ds
    simp only [bTupN] at hb
    split at hb
    · rename_i hl
      obtain ⟨a, us, rfl, hv, dv⟩ := q.tupl o.go.sub
      exact .inl ⟨a, us, rfl, hv, dv.length.trans hl, h.es f en en' w σ F H us ds Q hb o dv hq⟩
    · cases hb
  · rename_i ds
    simp only [bTupN] at hb
    split at hb
    · rename_i hl
      obtain ⟨a, us, rfl, hv, dv⟩ := q.conl o.go.sub
      exact .inl ⟨a, us, rfl, hv, dv.length.trans hl, h.es f en en' w σ F H us ds Q hb o dv hq⟩
    · cases hb
end

/-! ### what is walked -/
/-- from F1, H1 on: the turns yield the data -/
def Walks (K : PySem.W.Frag) (aw : Bs) (J : It) (ds : List D) (P : Hp → Hp → Prop) : Prop :=
  ∀ (i : Nat) (w : Wl) (F H : Hp), P F H → Go aw F H F H w → (∀ d, ds[i]? = some d → J.go i H ∧ ∀ x H', J.yld i H x H' → ∃ F', Go aw F H F' H' w ∧ Dv K aw F' x d) ∧ (ds.length ≤ i → J.stop i H)
/-- what stays while it is walked: frozen things; and (b) the heap's other things -/
def Stay (b : Bool) (aw : Bs) (F1 H1 : Hp) (F H : Hp) : Prop := Same F1 F ∧ (b = true → ∀ (a : Addr) (vs : List V), some a ≠ aw.a → H1 a = some (.lst vs) → H a = some (.lst vs))
def WnI (K : PySem.W.Frag) (b : Bool) (aw : Bs) (F H : Hp) (R : It → Hp → Prop) (E : XK) : AR → Prop
  | .ok ds w => ∀ J F' H', Go aw F H F' H' w → Walks K aw J ds (Stay b aw F' H') → R J H'
  | .ex c fn a w => ∀ cls dx F' H', Go aw F H F' H' w → Xr K aw F' c fn a cls dx → E cls dx H'
  | .bad => False
def EI (K : Kt) (W : WX) (b : Bool) (t : TI) (g : AG) : Prop :=
  ∀ (f : Fx) (en : List Sl) (w : Wl) (σ : St) (F H : Hp) (R : It → Hp → Prop), Ok K f en w σ F H → WnI K b f.aw F H R (WE W σ) (g en w) → t σ H R
structure DI (K : Kt) (X : Cx) (W : WX) (b : Bool) (tg e : Expr) (t : TI) (g : AG) : Prop where
  hK : X.K = K.K
  pi : PI X tg e t
  es : EI K W b t g
/-- the items of a list or a tuple -/
def gSeq (ge : EG) : AG := fun en w => match ge en w with
  | .ok d w1 => (match d.items with
    | some ds => .ok ds w1
    | none => .bad)
  | .ex c fn a w1 => .ex c fn a w1
  | .bad => .bad
section
variable {X : Cx} {W : WX} {K : Kt} {Kf : PySem.W.Frag} {s : Sg} {bb : Bool} {pos p : Pos} {tg e a b c : Expr} {te : TE} {ge : EG} {t t' : TI} {tA : TA} {gA : AG}
theorem pi_or (h : PI X tg e t) (h' : PI X tg e t') : PI X tg e (fun σ H R => t σ H R ∨ t' σ H R) := ⟨fun pins s σ H R I hw => hw.elim (h.run pins s σ H R I) (h'.run pins s σ H R I)⟩
theorem walks_lst {aw : Bs} {q : Addr} {vs : List V} {ds : List D} {F1 H1 : Hp} (hv : ∀ F H, Stay bb aw F1 H1 F H → Same F H → H q = some (.lst vs)) (dv : DvAll Kf aw F1 vs ds) : Walks Kf aw (Itl Kf q) ds (Stay bb aw F1 H1) := by
  intro i w F H hp go
  have h1 := hv F H hp go.sub
  refine ⟨fun d hd => ?_, fun hi => ⟨vs, .inl (.inl h1), by rw [dv.length]; exact hi⟩⟩
  obtain ⟨v, e, r⟩ := dv.get hd
  refine ⟨⟨vs, v, .inl (.inl h1), e⟩, ?_⟩
  rintro x H' ⟨rfl, hx⟩
  have e2 := hx vs (.inl (.inl h1))
  rw [e] at e2
  cases e2
  exact ⟨F, go, r.mono hp.1⟩
theorem walks_tup {aw : Bs} {q : Addr} {vs : List V} {ds : List D} {F1 H1 : Hp} (hv : SqT Kf F1 q vs) (dv : DvAll Kf aw F1 vs ds) : Walks Kf aw (Itt Kf q) ds (Stay bb aw F1 H1) := by
  intro i w F H hp go
  have h1 := sqT_same (hp.1.trans go.sub) hv
  refine ⟨fun d hd => ?_, fun hi => ⟨vs, h1, by rw [dv.length]; exact hi⟩⟩
  obtain ⟨v, e, r⟩ := dv.get hd
  refine ⟨⟨vs, v, h1, e⟩, ?_⟩
  rintro x H' ⟨rfl, hx⟩
  have e2 := hx vs h1
  rw [e] at e2
  cases e2
  exact ⟨F, go, r.mono hp.1⟩
def iSeq (K : PySem.W.Frag) (te : TE) : TI := fun σ H R => iList K te σ H R ∨ iTup K te σ H R
theorem di_seq (ha : DE K X W s e te ge) (hb : bb = true ∨ s ≠ .wk := by first | exact .inl rfl | exact .inr (by decide)) : DI K X W bb tg e (iSeq K te) (gSeq ge) := by
  obtain ⟨K0, T0, L0⟩ := K
  cases ha.hK
  refine ⟨rfl, pi_or (pi_list ha.pe) (pi_tup ha.pe), fun f en w σ F H R o h => ?_⟩
  unfold gSeq at h
  cases q : ge en w with
  | bad => rw [q] at h; exact h.elim
  | ex c fn a w1 =>
    rw [q] at h
    exact .inl (ha.es f en w σ F H _ o (by rw [q]; exact h))
  | ok d w1 =>
    rw [q] at h
    cases d <;> first
      | exact h.elim
      | skip
    · rename_i ds
      refine .inl ?_
      by_cases hs : s = .wk
      · rcases hb with rfl | hb
        · refine ha.es.toWk f en w σ F H _ o ?_
          rw [q]
          intro v F1 H1 g r
          obtain ⟨a, vs, rfl, hv, dv⟩ := Dq.seq r g.sub
          refine ⟨a, rfl, ⟨vs, .inl (.inl hv)⟩, h _ F1 H1 g (walks_lst (fun F' H' st _ => st.2 rfl a _ (fun z => ?_) hv) dv)⟩
          rcases r with r | ⟨ds', a', vs', _, e2, n, _⟩
          · cases r with
            | lst q1 q2 =>
              have q3 := (o.step g).awF _ z.symm
              rw [q1] at q3
              cases q3
          · cases e2
            exact n z
        · exact absurd hs hb
      · refine ha.es.toSt hs f en w σ F H _ o ?_
        rw [q]
        intro v F1 H1 g r
        cases r with
        | lst hv dv => exact ⟨_, rfl, ⟨_, .inl (.inl (g.sub _ _ hv))⟩, h _ F1 H1 g (walks_lst (fun F' H' st s' => s' _ _ (st.1 _ _ hv)) dv)⟩
    · rename_i ds
      refine .inr ?_
      refine ha.es.toWk f en w σ F H _ o ?_
      rw [q]
      intro v F1 H1 g r
      rcases r with r | ⟨_, _, _, z, _⟩
      · cases r with
        | tup hv dv => exact ⟨_, rfl, ⟨_, SqT.of (g.sub _ _ hv)⟩, h _ F1 H1 g (walks_tup (SqT.of hv) dv)⟩
      · cases z
/-! ranges -/
def dInts (lo c : Int) (n : Nat) : List D := (List.range n).map fun i => .int (lo + (i : Nat) * c)
def small (i : Int) : Bool := decide (-(2 ^ 62) ≤ i ∧ i < 2 ^ 62)
def gRng1 (g : AG) : AG := fun en w => match g en w with
  | .ok [.int j] w1 => if small j then .ok (dInts 0 1 j.toNat) w1 else .bad
  | .ok _ _ => .bad
  | .ex c fn a w1 => .ex c fn a w1
  | .bad => .bad
/-- downwards by one -/
def gRngD (g : AG) : AG := fun en w => match g en w with
  | .ok [.int i, .int j, .int k] w1 => if small i && small j && decide (k = -1) then .ok (dInts i (-1) (i - j).toNat) w1 else .bad
  | .ok _ _ => .bad
  | .ex c fn a w1 => .ex c fn a w1
  | .bad => .bad
theorem walks_rng {aw : Bs} {lo : Int} {n : Nat} {F1 H1 : Hp} : Walks Kf aw (Itr lo n) (dInts lo 1 n) (Stay bb aw F1 H1) := by
  intro i w F H hp go
  refine ⟨fun d hd => ?_, fun hi => (show n ≤ i by simpa [dInts] using hi)⟩
  unfold dInts at hd
  rw [List.getElem?_map] at hd
  have hi : i < n := by
    cases q : (List.range n)[i]? with
    | none =>
      rw [q] at hd
      cases hd
    | some j =>
      have := (List.getElem?_eq_some_iff.mp q).1
      simpa using this
  rw [List.getElem?_range hi] at hd
  cases hd
  refine ⟨hi, ?_⟩
  rintro x H' ⟨rfl, rfl⟩
  refine ⟨F, go, ?_⟩
  show Dv Kf aw F (V.int (lo + (i : Nat))) (.int (lo + (i : Nat) * 1))
  rw [Int.mul_one]
  exact .int _
theorem walks_rngC {aw : Bs} {lo c : Int} {n : Nat} {F1 H1 : Hp} : Walks Kf aw (Itc lo c n) (dInts lo c n) (Stay bb aw F1 H1) := by
  intro i w F H hp go
  refine ⟨fun d hd => ?_, fun hi => (show n ≤ i by simpa [dInts] using hi)⟩
  unfold dInts at hd
  rw [List.getElem?_map] at hd
  have hi : i < n := by
    cases q : (List.range n)[i]? with
    | none =>
      rw [q] at hd
      cases hd
    | some j =>
      have := (List.getElem?_eq_some_iff.mp q).1
      simpa using this
  rw [List.getElem?_range hi] at hd
  cases hd
  refine ⟨hi, ?_⟩
  rintro x H' ⟨rfl, rfl⟩
  exact ⟨F, go, .int _⟩
theorem di_range1 (hg : Gl X "range") (hm : X.mg "range" = none) (ha : DA K X W true [a] tA gA) (hs : starEach [a] X.env = [(false, eval a X.env)] := by rfl) : DI K X W bb tg (.Call (.Name "range" p) [a] [] pos) (iRng1 tA) (gRng1 gA) := by
  obtain ⟨K0, T0, L0⟩ := K
  cases ha.hK
  refine ⟨rfl, pi_range1 hg hm ha.pa hs, fun f en w σ F H R o h => ?_⟩
  refine ha.es f en w σ F H _ o ?_
  unfold gRng1 at h
  cases q : gA en w with
  | bad => rw [q] at h; exact h
  | ex c fn a w1 => rw [q] at h; exact h
  | ok ds w1 =>
    rw [q] at h
    intro vs F' H' g r
    split at h
    · rename_i j w2 e
      cases e
      split at h
      · rename_i hc
        have hj := of_decide_eq_true hc
        cases r with
        | cons r1 r2 =>
          cases r2
          have e1 := r1.int
          subst e1
          exact ⟨j, rfl, hj.1, hj.2, h _ F' H' g walks_rng⟩
      · exact h.elim
    · exact h.elim
    · rename_i e
      cases e
    · exact h.elim
theorem di_rangeD (hg : Gl X "range") (hm : X.mg "range" = none) (ha : DA K X W true [a, b, c] tA gA) (hs : starEach [a, b, c] X.env = (false, eval a X.env) :: starEach [b, c] X.env := by rfl) (hpl : (backTo pos (starEach [b, c] X.env)).any (·.1) = false := by rfl) :
    DI K X W bb tg (.Call (.Name "range" p) [a, b, c] [] pos) (iRng3 tA) (gRngD gA) := by
  obtain ⟨K0, T0, L0⟩ := K
  cases ha.hK
  refine ⟨rfl, pi_range3 hg hm ha.pa hs hpl, fun f en w σ F H R o h => ?_⟩
  refine ha.es f en w σ F H _ o ?_
  unfold gRngD at h
  cases q : gA en w with
  | bad => rw [q] at h; exact h
  | ex c fn a w1 => rw [q] at h; exact h
  | ok ds w1 =>
    rw [q] at h
    intro vs F' H' g r
    split at h
    · rename_i i j k w2 e
      cases e
      split at h
      · rename_i hc
        obtain ⟨hc1, h3⟩ := Bool.and_eq_true_iff.mp hc
        obtain ⟨h1, h2⟩ := Bool.and_eq_true_iff.mp hc1
        have hi := of_decide_eq_true h1
        have hj := of_decide_eq_true h2
        have hk := of_decide_eq_true h3
        subst hk
        cases r with
        | cons r1 r2 =>
          cases r2 with
          | cons r2 r3 =>
            cases r3 with
            | cons r3 r4 =>
              cases r4
              have e1 := r1.int
              have e2 := r2.int
              have e3 := r3.int
              subst e1 e2 e3
              exact ⟨i, j, -1, (i - j).toNat, rfl, RgC.neg hi.1 hi.2 hj.1 hj.2, h _ F' H' g walks_rngC⟩
      · exact h.elim
    · exact h.elim
    · rename_i e
      cases e
    · exact h.elim
end

/-! ### for -/
def forG (b : BG) (body : SG) : List D → SG
  | [], en, w => .nx en w
  | d :: ds, en, w => match b d en with
    | none => .bad
    | some en1 => match body en1 w with
      | .nx en2 w2 => forG b body ds en2 w2
      | .ct en2 w2 => forG b body ds en2 w2
      | .bk en2 w2 => .nx en2 w2
      | z => z
def sFor (gi : AG) (b : BG) (body : SG) : SG := fun en w => (gi en w).thn en fun ds w1 => forG b body ds en w1
/-! ### while, by so many turns at most -/
def whileG (gc : EG) (body : SG) : Nat → SG
  | 0, _, _ => .bad
  | n + 1, en, w => (gc en w).thn en fun d w1 => match d with
    | .bl true => (match body en w1 with
      | .nx en2 w2 => whileG gc body n en2 w2
      | .ct en2 w2 => whileG gc body n en2 w2
      | .bk en2 w2 => .nx en2 w2
      | z => z)
    | .bl false => .nx en w1
    | _ => .bad
def sWhile (fu : List Sl → Nat) (gc : EG) (body : SG) : SG := fun en w => whileG gc body (fu en) en w
section
variable {X : Cx} {W : WX} {K : Kt} {Kf : PySem.W.Frag} {pos : Pos} {tg e c : Expr} {ti : TI} {gi : AG} {g : TG} {b : BG} {vs : List Nat} {sts : List Stmt} {tb : TS} {gb : SG} {tA : TT} {gc : EG}
theorem Ok.rebase {f : Fx} {en : List Sl} {w : Wl} {σ : St} {F H : Hp} (o : Ok K f en w σ F H) : Ok K ⟨f.aw, F, f.H0⟩ en w σ F H :=
  ⟨⟨Same.refl _, o.go.hh, o.go.ne, o.go.tb, o.go.sub, o.go.nt, fun _ _ h => h, o.go.wl⟩, fun a e => ⟨(o.base a e).1, o.awF a e⟩, o.len, o.dat, o.own, o.tT, o.tabs, o.hol, o.inj, o.dic⟩
theorem Go.unbase {f : Fx} {en : List Sl} {w w' : Wl} {σ : St} {F H F' H' : Hp} (o : Ok K f en w σ F H) (g : Go f.aw F f.H0 F' H' w') : Go f.aw f.F0 f.H0 F' H' w' :=
  ⟨o.go.ff.trans g.ff, g.hh, g.ne, g.tb, g.sub, g.nt, fun b n h => g.fr b n (o.go.fr b n h), g.wl⟩
theorem Ok.unbase {f : Fx} {en en' : List Sl} {w w' : Wl} {σ σ' : St} {F H F' H' : Hp} (o : Ok K f en w σ F H) (o' : Ok K ⟨f.aw, F, f.H0⟩ en' w' σ' F' H') : Ok K f en' w' σ' F' H' :=
  ⟨Go.unbase o o'.go, o.base, o'.len, o'.dat, o'.own, o'.tT, o'.tabs, o'.hol, o'.inj, o'.dic⟩
theorem ess_for (hi : EI K W false ti gi) (hg : EGt K g b vs) (hb : ESs K W tb gb) : ESs K W (tFor ti g tb) (sFor gi b gb) := by
  intro f en w σ F H Dn o h
  refine hi f en w σ F H _ o ?_
  unfold sFor AR.thn at h
  cases q : gi en w with
  | bad => rw [q] at h; exact h
  | ex c fn a w1 =>
    rw [q] at h
    exact fun cls dx F' H' g x => h cls dx σ F' H' (o.step g) x
  | ok ds w1 =>
    rw [q] at h
    dsimp only at h
    intro J F1 H1 g1 wk
    refine ⟨fun i m σ' H' => m = ds.length - i ∧ ∃ en' w' F', Ok K f en' w' σ' F' H' ∧ Same F1 F' ∧ WnS K f Dn W (forG b gb (ds.drop i) en' w'), ⟨_, rfl, en, w1, F1, o.step g1, Same.refl _, by rw [List.drop_zero]; exact h⟩, ?_⟩
    rintro i m σ' H' ⟨rfl, en', w', F', o', sm, hw⟩
    by_cases hi2 : i < ds.length
    · obtain ⟨jg, jy⟩ := (wk i w' F' H' ⟨sm, fun z => nomatch z⟩ o'.here).1 _ (List.getElem?_eq_getElem hi2)
      rw [List.drop_eq_getElem_cons hi2] at hw
      simp only [forG] at hw
      refine .inr ⟨jg, fun σ2 H2 => ∃ en2 w2 F2, Ok K f en2 w2 σ2 F2 H2 ∧ Same F1 F2 ∧ WnS K f Dn W (forG b gb (ds.drop (i + 1)) en2 w2), fun σ2 H2 ⟨en2, w2, F2, o2, s2, h2⟩ => ⟨ds.length - (i + 1), by omega, rfl, en2, w2, F2, o2, s2, h2⟩, fun x H2 hy => ?_⟩
      obtain ⟨F2, g2, r2⟩ := jy x H2 hy
      cases q2 : b ds[i] en' with
      | none =>
        rw [q2] at hw
        exact hw.elim
      | some en1 =>
        rw [q2] at hw
        dsimp only at hw
        refine hg f en' en1 w' σ' F2 H2 x _ _ q2 (o'.step g2) (.inl r2) (fun _ _ => r2) fun σ3 o3 _ => ?_
        have s3 : Same F1 F2 := sm.trans g2.ff
        refine hb ⟨f.aw, F2, f.H0⟩ en1 w' σ3 F2 H2 _ o3.rebase ?_
        cases q3 : gb en1 w' with
        | nx en2 w2 =>
          rw [q3] at hw
          exact fun σ4 F4 H4 o4 => ⟨en2, w2, F4, o3.unbase o4, s3.trans o4.go.ff, hw⟩
        | ct en2 w2 =>
          rw [q3] at hw
          exact fun σ4 F4 H4 o4 => ⟨en2, w2, F4, o3.unbase o4, s3.trans o4.go.ff, hw⟩
        | bk en2 w2 =>
          rw [q3] at hw
          exact fun σ4 F4 H4 o4 => hw σ4 F4 H4 (o3.unbase o4)
        | rt d w2 =>
          rw [q3] at hw
          exact fun v F4 H4 g4 r4 => hw v F4 H4 (Go.unbase o3 g4) r4
        | rf d w2 =>
          rw [q3] at hw
          exact fun a vs F4 H4 g4 n r1 r2 r4 => hw a vs F4 H4 (Go.unbase o3 g4) n r1 r2 r4
        | ex c fn a en2 w2 =>
          rw [q3] at hw
          exact fun cls dx σ4 F4 H4 o4 x => hw cls dx σ4 F4 H4 (o3.unbase o4) x
        | bad =>
          rw [q3] at hw
          exact hw.elim
    · refine .inl ⟨(wk i w' F' H' ⟨sm, fun z => nomatch z⟩ o'.here).2 (by omega), ?_⟩
      rw [List.drop_eq_nil_of_le (by omega)] at hw
      exact hw σ' F' H' o'
theorem ds_for (hp : PassesOwn (model X.prog X.w) X.A X.env X.xe) (hc : X.calm = true) (hi : DI K X W false tg e ti gi) (hg : DG K X tg g b vs) (hb : DSs K X W sts tb gb)
    (hs : ∀ x, foldedSetIterable e X.env x = pure x := by intro _; rfl) : DS K X W (.For tg e sts [] pos) (tFor ti g tb) (sFor gi b gb) := by
  obtain ⟨K0, T0, L0⟩ := K
  cases hi.hK
  exact ⟨ps_for hp hc hi.pi hg.pg hb.ps hs, ess_for hi.es hg.es hb.es⟩
theorem ds_while (fu : List Sl → Nat) (hp : PassesOwn (model X.prog X.w) X.A X.env X.xe) (hc : DT K X W c tA gc) (hb : DSs K X W sts tb gb) : DS K X W (.While c sts [] pos) (tWhile tA tb) (sWhile fu gc gb) := by
  refine ⟨ps_while hp hc.pt hb.ps, fun f en w σ F H Dn o h => ?_⟩
  refine ⟨fun m σ' H' => ∃ en' w' F', Ok K f en' w' σ' F' H' ∧ WnS K f Dn W (whileG gc gb m en' w'), ⟨fu en, en, w, F, o, h⟩, ?_⟩
  rintro m σ' H' ⟨en', w', F', o', hw⟩
  cases m with
  | zero => exact hw.elim
  | succ m =>
    refine et_thn hc.es o' (fun d w hd => ?_) hw fun k w1 F1 H1 g1 o1 h1 => ?_
    · cases d <;> first
        | rfl
        | exact absurd rfl (hd _)
    · cases k with
      | false => exact h1 σ' F1 H1 o1
      | true =>
        refine ⟨fun σ2 H2 => ∃ en2 w2 F2, Ok K f en2 w2 σ2 F2 H2 ∧ WnS K f Dn W (whileG gc gb m en2 w2), fun σ2 H2 z => ⟨m, Nat.lt_succ_self m, z⟩, ?_⟩
        refine hb.es f en' w1 σ' F1 H1 _ o1 ?_
        dsimp only at h1
        cases q3 : gb en' w1 with
        | nx en2 w2 =>
          rw [q3] at h1
          exact fun σ4 F4 H4 o4 => ⟨en2, w2, F4, o4, h1⟩
        | ct en2 w2 =>
          rw [q3] at h1
          exact fun σ4 F4 H4 o4 => ⟨en2, w2, F4, o4, h1⟩
        | bk en2 w2 =>
          rw [q3] at h1
          exact h1
        | rt d w2 =>
          rw [q3] at h1
          exact h1
        | rf d w2 =>
          rw [q3] at h1
          exact h1
        | ex c fn a en2 w2 =>
          rw [q3] at h1
          exact h1
        | bad =>
          rw [q3] at h1
          exact h1
end

/-! ### comprehensions -/
def wipeE (en : List Sl) : List Nat → List Sl
  | [] => en
  | v :: vs => (wipeE en vs).set v .non
def lcG (b : BG) (gt ge : EG) (en : List Sl) : List D → Wl → AR
  | [], w => .ok [] w
  | d :: ds, w => match b d en with
    | none => .bad
    | some en1 => match gt en1 w with
      | .ok (.bl true) w1 => (match ge en1 w1 with
        | .ok z w2 => (lcG b gt ge en ds w2).cons z
        | _ => .bad)
      | .ok (.bl false) w1 => lcG b gt ge en ds w1
      | _ => .bad
def eLc (gi : AG) (b : BG) (gt ge : EG) (vs : List Nat) : EG := fun en w => match gi en w with
  | .ok ds w1 => if ds.length ≤ sizeLine then (match lcG b gt ge (wipeE en vs) ds w1 with
      | .ok zs w2 => .ok (.lst zs) w2
      | _ => .bad) else .bad
  | .ex c fn a w1 => .ex c fn a w1
  | .bad => .bad
def eYes : EG := fun _ w => .ok (.bl true) w
section
variable {X : Cx} {W : WX} {K : Kt} {Kf : PySem.W.Frag} {s : Sg} {pos : Pos} {tg e elt : Expr} {ti : TI} {gi : AG} {g : TG} {b : BG} {vs vs' : List Nat} {tt : TT} {gt ge : EG} {te : TE} {f : Fx} {en : List Sl} {w : Wl} {σ : St} {F H : Hp}
theorem Ok.wipe (o : Ok K f en w σ F H) : ∀ vs : List Nat, Ok K f (wipeE en vs) w (wipe σ vs) F H
  | [] => o
  | v :: vs => by
    have o1 := Ok.wipe o vs
    have back : ∀ (m : Nat) (z : Sl), ((wipeE en vs).set v .non)[m]? = some z → z ≠ .non → m ≠ v ∧ (wipeE en vs)[m]? = some z := fun m z hm hz => by
      rcases set_get hm with ⟨_, e, _⟩ | h
      · exact absurd e hz
      · exact h
    refine ⟨o1.go, o1.base, ?_, fun i d h => ?_, fun i ds h => ?_, o1.tT, o1.tabs, fun i h => ?_, fun i j ds es a h1 h2 q1 q2 => ?_, o1.dic.keep (fun i kvs h => ?_) (fun _ _ h1 _ h3 => ⟨h1, h3⟩) (Same.refl _)⟩
    · show ((L2.wipe σ vs).set v none).length = ((wipeE en vs).set v .non).length
      rw [List.length_set, List.length_set]
      exact o1.len
    · obtain ⟨n, h⟩ := back i _ h (fun z => nomatch z)
      show ∃ u, ((L2.wipe σ vs).set v none)[i]? = some (some u) ∧ _
      rw [get_set_ne n]
      exact o1.dat i d h
    · obtain ⟨n, h⟩ := back i _ h (fun z => nomatch z)
      show ∃ a us, ((L2.wipe σ vs).set v none)[i]? = some (some (.ref a)) ∧ _
      rw [get_set_ne n]
      exact o1.own i ds h
    · obtain ⟨n, h⟩ := back i _ h (fun z => nomatch z)
      obtain ⟨l, e1, e2, r⟩ := o1.hol i h
      refine ⟨l, e1, ?_, r⟩
      show ((L2.wipe σ vs).set v none)[i]? = _
      rw [get_set_ne n]
      exact e2
    · obtain ⟨n1, h1⟩ := back i _ h1 (fun z => nomatch z)
      obtain ⟨n2, h2⟩ := back j _ h2 (fun z => nomatch z)
      have q1' : (L2.wipe σ vs)[i]? = some (some (.ref a)) := by
        rw [← get_set_ne (x := none) n1]
        exact q1
      have q2' : (L2.wipe σ vs)[j]? = some (some (.ref a)) := by
        rw [← get_set_ne (x := none) n2]
        exact q2
      exact o1.inj i j ds es a h1 h2 q1' q2'
    · obtain ⟨n, h⟩ := back i _ h (fun z => nomatch z)
      refine ⟨h, ?_⟩
      show ((L2.wipe σ vs).set v none)[i]? = _
      rw [get_set_ne n]
theorem wipe_get {σ : St} : ∀ {vs : List Nat} {i : Nat}, (wipe σ vs)[i]? = if i ∈ vs then (σ[i]?).map (fun _ => none) else σ[i]?
  | [], i => by simp [L2.wipe]
  | v :: vs, i => by
    show ((L2.wipe σ vs).set v none)[i]? = _
    by_cases e : i = v
    · subst e
      rw [if_pos List.mem_cons_self, List.getElem?_set]
      rw [if_pos rfl]
      have hl := L2.wipe_length σ vs
      by_cases hi : i < σ.length
      · rw [if_pos (by rw [hl]; exact hi), List.getElem?_eq_getElem hi]
        rfl
      · rw [if_neg (by rw [hl]; exact hi), List.getElem?_eq_none (by omega)]
        rfl
    · rw [get_set_ne e, wipe_get (vs := vs)]
      by_cases h : i ∈ vs
      · rw [if_pos h, if_pos (List.mem_cons_of_mem _ h)]
      · rw [if_neg h, if_neg (fun z => by rcases List.mem_cons.mp z with z | z; exact e z; exact h z)]
/-- the slots outside of vs say all -/
theorem wipe_agree {σ σ' : St} (a : Agree vs' (wipe σ vs) σ') (h : ∀ i ∈ vs', i ∈ vs) : wipe σ' vs = wipe σ vs := by
  apply List.ext_getElem?
  intro i
  rw [wipe_get, wipe_get]
  by_cases hi : i ∈ vs
  · rw [if_pos hi, if_pos hi]
    have l1 := a.1
    rw [L2.wipe_length] at l1
    by_cases hl : i < σ.length
    · rw [List.getElem?_eq_getElem hl, List.getElem?_eq_getElem (by omega)]
      rfl
    · rw [List.getElem?_eq_none (by omega), List.getElem?_eq_none (by omega)]
  · rw [if_neg hi, if_neg hi, a.2 i (fun z => hi (h i z)), wipe_get, if_neg hi]
theorem es_lc (hi : EI K W true ti gi) (hg : EGt K g b vs') (hv : ∀ i ∈ vs', i ∈ vs) (ht : ET K W0 tt gt) (he : ES K W0 s te ge) (hs : s ≠ .wk) : ES K W .fr (tLc ti g tt te vs) (eLc gi b gt ge vs) := by
  intro f en w σ F H Q o h
  refine hi f en w σ F H _ o ?_
  unfold eLc at h
  cases q : gi en w with
  | bad => rw [q] at h; exact h
  | ex c fn a w1 => rw [q] at h; exact h
  | ok ds w1 =>
    rw [q] at h
    dsimp only at h
    split at h
    · rename_i hz
      intro J F1 H1 g1 wk p hp
      cases q2 : lcG b gt ge (wipeE en vs) ds w1 with
      | bad => rw [q2] at h; exact h.elim
      | ex c fn a w2 => rw [q2] at h; exact h.elim
      | ok zs w2 =>
        rw [q2] at h
        have o1 := o.step g1
        obtain ⟨z0, np, zn⟩ := fresh0 o1 hp
        have hp0 : H p = none := by
          cases z : H p with
          | none => rfl
          | some u => exact absurd hp (g1.ne p (by rw [z]; exact fun y => nomatch y))
        -- the turns: what is left to be made, what is made
        refine ⟨fun i m H' => m = ds.length - i ∧ ∃ w' F' acc us, Ok K f en w' σ F' H' ∧ Go f.aw F1 H1 F' H' w' ∧ F' p = none ∧ H' p = some (.lst us) ∧ DvAll K f.aw F' us acc ∧ acc.length ≤ i ∧
          ∃ zr, lcG b gt ge (wipeE en vs) (ds.drop i) w' = .ok zr w2 ∧ zs = acc ++ zr, ⟨_, rfl, w1, F1, [], [], ?_, g1.here.laid hp _, o1.here.free hp, upd_same, .nil, Nat.zero_le _, zs, by rw [List.drop_zero]; exact q2, rfl⟩, ?_⟩
        · exact o1.poke (.inl hp) z0 (o1.here.free hp) np zn
        rintro i m H' ⟨rfl, w', F', acc, us, o', g', fp, hq, dv, hl, zr, hw, ez⟩
        have st : Stay true f.aw F1 H1 F' H' := ⟨g'.ff, fun _ a u n z => g'.hh a _ n (fun _ y => nomatch y) z⟩
        by_cases hi2 : i < ds.length
        · obtain ⟨jg, jy⟩ := (wk i w' F' H' st o'.here).1 _ (List.getElem?_eq_getElem hi2)
          rw [List.drop_eq_getElem_cons hi2] at hw
          simp only [lcG] at hw
          refine .inr ⟨jg, fun H2 => ∃ w3 F3 acc us, Ok K f en w3 σ F3 H2 ∧ Go f.aw F1 H1 F3 H2 w3 ∧ F3 p = none ∧ H2 p = some (.lst us) ∧ DvAll K f.aw F3 us acc ∧ acc.length ≤ i + 1 ∧
            ∃ zr, lcG b gt ge (wipeE en vs) (ds.drop (i + 1)) w3 = .ok zr w2 ∧ zs = acc ++ zr, fun H2 z => ⟨ds.length - (i + 1), by omega, rfl, z⟩, fun x H2 hy => ?_⟩
          obtain ⟨F2, g2, r2⟩ := jy x H2 hy
          cases qb : b ds[i] (wipeE en vs) with
          | none =>
            rw [qb] at hw
            cases hw
          | some en1 =>
            rw [qb] at hw
            dsimp only at hw
            have fp2 : F2 p = none := g2.fr p (Kp.of hq) fp
            have hq2 : H2 p = some (.lst us) := g2.hh p _ np (fun _ y => nomatch y) hq
            refine hg f (wipeE en vs) en1 w' (L2.wipe σ vs) F2 H2 x _ _ qb ((o'.step g2).wipe vs) (.inl r2) (fun _ _ => r2) fun σ3 o3 a3 => ⟨wipe_agree a3 hv, ?_⟩
            refine ht f en1 w' σ3 F2 H2 _ o3 ?_
            cases qt : gt en1 w' with
            | bad => rw [qt] at hw; cases hw
            | ex c fn a w3 => rw [qt] at hw; cases hw
            | ok dt w3 =>
              rw [qt] at hw
              cases dt <;> first
                | (cases hw; done)
                | skip
              rename_i kb
              intro F3 H3 g3
              have fp3 : F3 p = none := g3.fr p (Kp.of hq2) fp2
              have hq3 : H3 p = some (.lst us) := g3.hh p _ np (fun _ y => nomatch y) hq2
              have dv3 := (dv.mono g2.ff).mono g3.ff
              cases kb with
              | false => exact ⟨w3, F3, acc, us, (o'.step g2).step g3, (g'.trans g2).trans g3, fp3, hq3, dv3, Nat.le_succ_of_le hl, zr, hw, ez⟩
              | true =>
                show te σ3 H3 _
                refine (he.toSt hs) f en1 w3 σ3 F3 H3 _ (o3.step g3) ?_
                dsimp only at hw
                cases qe : ge en1 w3 with
                | bad => rw [qe] at hw; cases hw
                | ex c fn a w4 => rw [qe] at hw; cases hw
                | ok z w4 =>
                  rw [qe] at hw
                  dsimp only at hw
                  intro v F4 H4 g4 r4
                  have fp4 : F4 p = none := g4.fr p (Kp.of hq3) fp3
                  have hq4 : H4 p = some (.lst us) := g4.hh p _ np (fun _ y => nomatch y) hq3
                  have o4 : Ok K f en w4 σ F4 H4 := ((o'.step g2).step g3).step g4
                  have g14 : Go f.aw F1 H1 F4 H4 w4 := ((g'.trans g2).trans g3).trans g4
                  have hlen : us.length < sizeLine := by
                    rw [dv.length]
                    omega
                  refine ⟨us, hq4, hlen, w4, F4, acc ++ [z], us ++ [v], ?_, ?_, fp4, upd_same, (dv3.mono g4.ff).snoc r4, by rw [List.length_append]; simpa using hl, ?_⟩
                  · exact o4.poke (.inr ⟨_, hq4⟩) z0 fp4 np zn
                  · exact g14.wr hp fp4 np (.inr ⟨_, hq4⟩)
                  · cases ql : lcG b gt ge (wipeE en vs) (ds.drop (i + 1)) w4 with
                    | bad => rw [ql] at hw; cases hw
                    | ex c fn a w5 => rw [ql] at hw; cases hw
                    | ok zr2 w5 =>
                      rw [ql] at hw
                      simp only [AR.cons, AR.ok.injEq] at hw
                      obtain ⟨h1, h2⟩ := hw
                      subst h2
                      exact ⟨zr2, rfl, by rw [ez, ← h1, List.append_assoc]; rfl⟩
        · refine .inl ⟨(wk i w' F' H' st o'.here).2 (by omega), ?_⟩
          rw [List.drop_eq_nil_of_le (by omega)] at hw
          simp only [lcG, AR.ok.injEq] at hw
          obtain ⟨h1, h2⟩ := hw
          subst h1 h2
          rw [List.append_nil] at ez
          subst ez
          exact h _ F' H' (g1.trans g') ⟨_, p, us, rfl, rfl, hp0, hq, fp, dv⟩
    · exact h.elim
abbrev Bk (X : Cx) (scope : Scope) (s : Shared) (H : Hp) (C : Addr) (cl : List (Str × Addr)) (fp : List Addr) : Cx := X.blk s H scope (compEnvC scope cl C X.env) fp
theorem de_lc {own : List (Str × Nat)} {scope : Scope} (hc : X.calm = true) (hN : X.N.Nodup) (hi : DI K X W true tg e ti gi) (ok : BlkOk X.N X.env.scope scope own)
    (hg : ∀ (s : Shared) (H : Hp) (C : Addr) (cl : List (Str × Addr)) (fp : List Addr), DG K (Bk X scope s H C cl fp) tg g b vs')
    (he : ∀ (s' : Shared) (H : Hp) (C : Addr) (cl : List (Str × Addr)) (fp : List Addr), DE K (Bk X scope s' H C cl fp) W0 s elt te ge) (hs : s ≠ .wk := by decide) (hv : ∀ i ∈ vs', i ∈ own.map (·.2) := by decide) (hf : ∀ x, foldedSetIterable e X.env x = pure x := by intro _; rfl) : DE K X W .fr (.ListComp elt [⟨tg, e, [], 0⟩] scope pos) (tLc ti g tYes te (own.map (·.2))) (eLc gi b eYes ge (own.map (·.2))) := by
  obtain ⟨K0, T0, L0⟩ := K
  cases hi.hK
  exact ⟨rfl, pe_lc hc hN hi.pi ok (fun s H C cl fp => (hg s H C cl fp).pg) (fun s H C cl fp => pts_nil) (fun s H C cl fp => (he s H C cl fp).pe) hf,
    es_lc hi.es (hg {} (fun _ => none) 0 [] []).es hv (fun f en w σ F H Q o h => h F H o.here) (he {} (fun _ => none) 0 [] []).es hs⟩
theorem de_lcIf {own : List (Str × Nat)} {scope : Scope} {c : Expr} {tc : TT} {gc : EG} (hc : X.calm = true) (hN : X.N.Nodup) (hi : DI K X W true tg e ti gi) (ok : BlkOk X.N X.env.scope scope own)
    (hg : ∀ (s : Shared) (H : Hp) (C : Addr) (cl : List (Str × Addr)) (fp : List Addr), DG K (Bk X scope s H C cl fp) tg g b vs')
    (ht : ∀ (s : Shared) (H : Hp) (C : Addr) (cl : List (Str × Addr)) (fp : List Addr), DT K (Bk X scope s H C cl fp) W0 c tc gc)
    (he : ∀ (s' : Shared) (H : Hp) (C : Addr) (cl : List (Str × Addr)) (fp : List Addr), DE K (Bk X scope s' H C cl fp) W0 s elt te ge) (hs : s ≠ .wk := by decide) (hv : ∀ i ∈ vs', i ∈ own.map (·.2) := by decide) (hf : ∀ x, foldedSetIterable e X.env x = pure x := by intro _; rfl) :
    DE K X W .fr (.ListComp elt [⟨tg, e, [c], 0⟩] scope pos) (tLc ti g tc te (own.map (·.2))) (eLc gi b gc ge (own.map (·.2))) := by
  obtain ⟨K0, T0, L0⟩ := K
  cases hi.hK
  exact ⟨rfl, pe_lc hc hN hi.pi ok (fun s H C cl fp => (hg s H C cl fp).pg) (fun s H C cl fp => pts_one (ht s H C cl fp).pt) (fun s H C cl fp => (he s H C cl fp).pe) hf,
    es_lc hi.es (hg {} (fun _ => none) 0 [] []).es hv (ht {} (fun _ => none) 0 [] []).es (he {} (fun _ => none) 0 [] []).es hs⟩
/-! name = [..] -/
theorem ds_setLc (i : Nat) {x : Str} {py spos : Pos} {own : List (Str × Nat)} {scope : Scope} (hc : X.calm = true) (hN : X.N.Nodup) (hi : DI K X W true tg e ti gi) (ok : BlkOk X.N X.env.scope scope own)
    (hg : ∀ (s : Shared) (H : Hp) (C : Addr) (cl : List (Str × Addr)) (fp : List Addr), DG K (Bk X scope s H C cl fp) tg g b vs')
    (he : ∀ (s' : Shared) (H : Hp) (C : Addr) (cl : List (Str × Addr)) (fp : List Addr), DE K (Bk X scope s' H C cl fp) W0 s elt te ge)
    (hsw : swapsWith (.ListComp elt [⟨tg, e, [], 0⟩] scope pos) (some (.Name x py)) spos.line X.env = pure true)
    (hs : s ≠ .wk := by decide) (hv : ∀ i ∈ vs', i ∈ own.map (·.2) := by decide) (hf : ∀ x, foldedSetIterable e X.env x = pure x := by intro _; rfl)
    (hy : X.N[i]? = some x := by rfl) (hyl : X.env.scope.names.lookup x = some .local := by rfl) :
    DS K X W (.Assign [.Name x py] (.ListComp elt [⟨tg, e, [], 0⟩] scope pos) spos) (tAsg (tLc ti g tYes te (own.map (·.2))) (gName i)) (sSet i (eLc gi b eYes ge (own.map (·.2)))) := by
  obtain ⟨K0, T0, L0⟩ := K
  cases hi.hK
  exact ⟨ps_setLc hc hN hy hyl hsw hi.pi ok (fun s H C cl fp => (hg s H C cl fp).pg) (fun s H C cl fp => pts_nil) (fun s H C cl fp => (he s H C cl fp).pe) hf,
    ess_set (es_lc hi.es (hg {} (fun _ => none) 0 [] []).es hv (fun f en w σ F H Q o h => h F H o.here) (he {} (fun _ => none) 0 [] []).es hs) (fun z => nomatch z)⟩
theorem ds_setLcIf (i : Nat) {x : Str} {py spos : Pos} {own : List (Str × Nat)} {scope : Scope} {c : Expr} {tc : TT} {gc : EG} (hc : X.calm = true) (hN : X.N.Nodup) (hi : DI K X W true tg e ti gi) (ok : BlkOk X.N X.env.scope scope own)
    (hg : ∀ (s : Shared) (H : Hp) (C : Addr) (cl : List (Str × Addr)) (fp : List Addr), DG K (Bk X scope s H C cl fp) tg g b vs')
    (ht : ∀ (s : Shared) (H : Hp) (C : Addr) (cl : List (Str × Addr)) (fp : List Addr), DT K (Bk X scope s H C cl fp) W0 c tc gc)
    (he : ∀ (s' : Shared) (H : Hp) (C : Addr) (cl : List (Str × Addr)) (fp : List Addr), DE K (Bk X scope s' H C cl fp) W0 s elt te ge)
    (hsw : swapsWith (.ListComp elt [⟨tg, e, [c], 0⟩] scope pos) (some (.Name x py)) spos.line X.env = pure true)
    (hs : s ≠ .wk := by decide) (hv : ∀ i ∈ vs', i ∈ own.map (·.2) := by decide) (hf : ∀ x, foldedSetIterable e X.env x = pure x := by intro _; rfl)
    (hy : X.N[i]? = some x := by rfl) (hyl : X.env.scope.names.lookup x = some .local := by rfl) :
    DS K X W (.Assign [.Name x py] (.ListComp elt [⟨tg, e, [c], 0⟩] scope pos) spos) (tAsg (tLc ti g tc te (own.map (·.2))) (gName i)) (sSet i (eLc gi b gc ge (own.map (·.2)))) := by
  obtain ⟨K0, T0, L0⟩ := K
  cases hi.hK
  exact ⟨ps_setLc hc hN hy hyl hsw hi.pi ok (fun s H C cl fp => (hg s H C cl fp).pg) (fun s H C cl fp => pts_one (ht s H C cl fp).pt) (fun s H C cl fp => (he s H C cl fp).pe) hf,
    ess_set (es_lc hi.es (hg {} (fun _ => none) 0 [] []).es hv (ht {} (fun _ => none) 0 [] []).es (he {} (fun _ => none) 0 [] []).es hs) (fun z => nomatch z)⟩
/-! targets of an assignment -/
def sAsg (g : EG) (b : BG) : SG := fun en w => (g en w).thn en fun d w1 => match b d en with
  | some en1 => .nx en1 w1
  | none => .bad
theorem ds_asg (he : DE K X W s elt te ge) (hg : DG K X tg g b vs) (hs : s ≠ .wk := by decide) (hsw : swapsWithSole [tg] elt pos.line X.env = pure false := by rfl) (hw : swappedStores [tg] elt X.env = pure none := by rfl)
    (h1 : (assignEach [tg] X.env).map (·.2) = [assign tg X.env] := by rfl) : DS K X W (.Assign [tg] elt pos) (tAsg te g) (sAsg ge b) := by
  obtain ⟨K0, T0, L0⟩ := K
  cases he.hK
  refine ⟨ps_asg he.pe hg.pg hsw hw h1, fun f en w σ F H Dn o h => ?_⟩
  refine es_thn (R := fun v H1 => g v σ H1 Dn.nx) (he.es.toSt hs) o h fun d w1 v F1 H1 g1 o1 r1 h1 => ?_
  cases q : b d en with
  | none =>
    rw [q] at h1
    exact h1.elim
  | some en1 =>
    rw [q] at h1
    exact hg.es f en en1 w1 σ F1 H1 v d _ q o1 (.inl r1) (fun _ _ => r1) fun σ' o' _ => h1 σ' F1 H1 o'
/-- a, b = x, y of plain local names -/
def sPar (i j : Nat) (g : AG) : SG := fun en w => (g en w).thn en fun ds w1 => match ds with
  | [d, e] => .nx ((en.set i (.dat d)).set j (.dat e)) w1
  | _ => .bad
theorem ds_par (i j : Nat) {x y : Str} {a b' : Expr} {tA : TA} {gA : AG} {px py pt : Pos} {kt k2 pt2} (hc : X.calm = true) (hN : X.N.Nodup) (ha : DA K X W false [a, b'] tA gA) (hi : X.N[i]? = some x := by rfl) (hj : X.N[j]? = some y := by rfl) (hij : i ≠ j := by decide)
    (hx : X.env.scope.names.lookup x = some .local := by rfl) (hy : X.env.scope.names.lookup y = some .local := by rfl)
    (hw : swappedStores [.Tuple [.Name x px, .Name y py] kt pt] (.Tuple [a, b'] k2 pt2) X.env = pure (some [x, y]) := by rfl)
    (hs : swapsWithSole [.Tuple [.Name x px, .Name y py] kt pt] (.Tuple [a, b'] k2 pt2) pos.line X.env = pure false := by rfl) :
    DS K X W (.Assign [.Tuple [.Name x px, .Name y py] kt pt] (.Tuple [a, b'] k2 pt2) pos) (tPar i j tA) (sPar i j gA) := by
  obtain ⟨K0, T0, L0⟩ := K
  cases ha.hK
  refine ⟨ps_par hc hN hi hj hij hx hy ha.pa hw hs, fun f en w σ F H Dn o h => ?_⟩
  refine ea_thn (R := fun vs H1 => ∃ v w, vs = [v, w] ∧ Dn.nx ((σ.set i (some v)).set j (some w)) H1) ha.es o h fun ds w1 us F1 H1 g1 o1 r1 h1 => ?_
  have r1' : DvAll _ f.aw F1 us ds := r1
  cases r1' with
  | nil => exact h1.elim
  | cons ra rb =>
    cases rb with
    | nil => exact h1.elim
    | cons rb rc =>
      cases rc with
      | cons _ _ => exact h1.elim
      | nil => exact ⟨_, _, rfl, h1 _ F1 H1 ((o1.setDat ra).setDat rb)⟩
end
end DL

/-! DL, part g: defs and their calls. -/
namespace DL
open PySem PySem.Spec L2
open PyProof.Rows hiding St

theorem Rg.deeper {k : Nat} {A : Around} (r : Rg (k + 1) A) (env : Env) : Rg k (A.deeper env) := ⟨r.room.deeper env, r.gd⟩
/-- what a def of data answers: n arguments, the answer G -/
def spD (K : Kt) (n : Nat) (G : List D → Wl → Res) : Sp := fun vs H Q E => ∃ (f : Fx) (ds : List D) (w : Wl), f.H0 = H ∧ Go f.aw f.F0 H f.F0 H w ∧ (∀ a, f.aw.a = some a → f.F0 a = none) ∧ f.aw.T = K.T ∧ LamX.Tabs f.aw.T H ∧ DvAll K f.aw f.F0 vs ds ∧ ds.length = n ∧ Wn .st K f.aw f.F0 H Q E (G ds w)
/-- the answer of a body -/
def runG (m : Nat) (gs : SG) (ds : List D) (w : Wl) : Res := match gs (ds.map .dat ++ List.replicate (m - ds.length) .non) w with
  | .rt d w1 => .ok d w1
  | .nx _ w1 => .ok .non w1
  | .ex c fn a _ w1 => .ex c fn a w1
  | _ => .bad
section
variable {P : Program} {w : World} {K : Kt} {Kf : PySem.W.Frag} {mg : Str → Option Value} {base : Heap} {k : Nat} {f : Addr} {fd : FuncData} {ps N : List Str} {x qual : Str} {params : Arguments} {body : List Stmt} {scope : Scope} {dvs : List V} {kws : List (Str × V)}
/-- from a body to its promise -/
theorem fg_sp {sp : Sp} (F : FunD Kf x qual params body scope dvs kws f fd) (S : FnScope N ps scope) (len : ∀ vs H Q E, sp vs H Q E → vs.length = ps.length)
    (hb : ∀ (cdv : Value), fd.code = cdv → ∀ (A : Around) (outer : List Env) (s : Shared) (H : Hp) (vs : List V) (Q : VK) (E : XK), Rg k (A.deeper (envOfC qual scope s.heap.objs.size f cdv)) → sp vs H Q E →
      ∃ t, PSs (cxOf (L2.CX P w) P w Kf mg base N qual scope f cdv A outer s H E) body t ∧ t { nx := fun _ H' => Q .non H', rt := Q } (start N vs) H) : FG P w Kf mg base (k + 1) f fd ps sp := by
  obtain ⟨oc, od, dV, kV, doc, pm, an, cdv, ct, osl, rfl, lk, hcd, _, _⟩ := F.ex
  refine ⟨len, fun A outer s H args us vs Q E hr e0 hbn rv hsp => ?_⟩
  have hlen := len vs H Q E hsp
  have kin : Kf.In s.heap := e0.mod.kin.keeps fun b o z => (e0.bs b o z).1
  have nolim : s.heap.NoLimit := e0.mod.nolimit.keeps fun b o z => (e0.bs b o z).1
  have kinds : ∀ y ∈ ps.zip us, scope.names.lookup y.1 = some .local ∨ (scope.names.lookup y.1 = some .cell ∧ ((cellsFrom (s.heap.objs.size + 1) scope.names []).lookup y.1).isSome = true) := by
    rintro ⟨n, v⟩ hy
    exact (S.par n (List.of_mem_zip hy).1).elim (fun z => .inl z) fun z => .inr ⟨z, PySem.W.cellsFrom_some _ _ _ (.inl z)⟩
  refine codeAny_call_function hr.room.depth (kin _ _ lk) rfl S.co S.gen rfl (PySem.W.codeRec_of kin hcd) (hbn _ _ _ _ ?_)
  refine wpAny_newFunctionEnv_cells S.kind kinds fun env he s1 z => ?_
  subst he
  refine ⟨nolim.keeps z.toInCall.keep, codeAny_func ?_⟩
  obtain ⟨t, pt, ht⟩ := hb cdv rfl A outer s H vs Q E (hr.deeper _) hsp
  have J0 : Inv (cxOf (L2.CX P w) P w Kf mg base N qual scope f cdv A outer s H E) [] (start N vs) H s1 := inv_start S hr.room.hd e0 hlen rv z
  refine wpAny_mono (pt.run [] s1 (start N vs) H _ J0 ht) (fun fl s' hs => ?_) (fun e s' hs => hs)
  cases fl with
  | ret u =>
    obtain ⟨v, σ', H', J, r, q⟩ := hs
    exact ⟨v, H', J.os, J.bare, J.base, J.hok, r, q⟩
  | next =>
    obtain ⟨σ', H', J, q⟩ := hs
    exact ⟨V.non, H', J.os, J.bare, J.base, J.hok, rfl, q⟩
  | brk =>
    obtain ⟨_, _, _, q⟩ := hs
    exact q.elim
  | cont =>
    obtain ⟨_, _, _, q⟩ := hs
    exact q.elim
/-- a call's wish at its frame -/
abbrev We (E : XK) : WX := fun c d _ H => E c d H
theorem start_ok {aw : Bs} {F0 H : Hp} {wl : Wl} {vs : List V} {ds : List D} (g : Go aw F0 H F0 H wl) (hf : ∀ a, aw.a = some a → F0 a = none) (hT : aw.T = K.T) (ht : LamX.Tabs aw.T H) (r : DvAll K aw F0 vs ds) (hn : ds.length ≤ N.length) :
    Ok K ⟨aw, F0, H⟩ (ds.map .dat ++ List.replicate (N.length - ds.length) .non) wl (start N vs) F0 H := by
  have hl := r.length
  have key : ∀ (i : Nat) (z : Sl), (ds.map Sl.dat ++ List.replicate (N.length - ds.length) Sl.non)[i]? = some z → (∃ d, z = .dat d ∧ ds[i]? = some d) ∨ z = .non := fun i z h => by
    by_cases hi : i < ds.length
    · rw [List.getElem?_append_left (by simpa using hi), List.getElem?_map, List.getElem?_eq_getElem hi] at h
      exact .inl ⟨ds[i], (Option.some.inj h).symm, List.getElem?_eq_getElem hi⟩
    · rw [List.getElem?_append_right (by simpa using hi)] at h
      exact .inr (List.eq_of_mem_replicate (List.mem_of_getElem? h))
  refine ⟨g, fun a ea => ⟨fun z => (by have e := g.wl a ea; rw [show H a = none from z] at e; cases e), hf a ea⟩, ?_, fun i d h => ?_, fun i es h => ?_, hT, ht, fun i h => ?_, fun i j es us a h _ _ _ => ?_, fun i kvs h => ?_⟩
  · simp [L2.start, hl]
  · rcases key i _ h with ⟨d', e, hd⟩ | e
    · cases e
      obtain ⟨v, e1, rv⟩ := r.get hd
      refine ⟨v, ?_, rv⟩
      have hi := (List.getElem?_eq_some_iff.mp e1).1
      unfold L2.start
      rw [List.getElem?_append_left (by simpa using hi), List.getElem?_map, e1]
      rfl
    · cases e
  · rcases key i _ h with ⟨d', e, hd⟩ | e <;> cases e
  · rcases key i _ h with ⟨d', e, hd⟩ | e <;> cases e
  · rcases key i _ h with ⟨d', e, hd⟩ | e <;> cases e
  · rcases key i _ h with ⟨d', e, hd⟩ | e <;> cases e
/-- THE RULE for a def of data -/
theorem fg_of {gs : SG} {G : List D → Wl → Res} (F : FunD K x qual params body scope dvs kws f fd) (S : FnScope N ps scope) (hG : ∀ ds w, ds.length = ps.length → G ds w = runG N.length gs ds w)
    (hb : ∀ (cdv : Value), fd.code = cdv → ∀ (A : Around) (outer : List Env) (s : Shared) (H : Hp) (E : XK), Rg k (A.deeper (envOfC qual scope s.heap.objs.size f cdv)) →
      ∃ t, DSs K (cxOf (L2.CX P w) P w K mg base N qual scope f cdv A outer s H E) (We E) body t gs) : FG P w K mg base (k + 1) f fd ps (spD K ps.length G) := by
  refine fg_sp F S (fun vs H Q E ⟨f, ds, w, _, _, _, _, _, r, hl, _⟩ => r.length.trans hl) fun cdv hcv A outer s H vs Q E hr hsp => ?_
  obtain ⟨fx, ds, wl, rfl, g, hf, tT, tb, r, hl, hw⟩ := hsp
  obtain ⟨t, ht⟩ := hb cdv hcv A outer s fx.H0 E hr
  refine ⟨t, ht.ps, ht.es fx _ wl _ _ _ _ (start_ok g hf tT tb r ?_) ?_⟩
  · have h1 := congrArg List.length S.pre
    rw [List.length_take] at h1
    omega
  · rw [hG ds wl hl] at hw
    unfold runG at hw
    cases q : gs (ds.map .dat ++ List.replicate (N.length - ds.length) .non) wl with
    | nx en w1 =>
      rw [q] at hw
      exact fun σ F' H' o => hw .non F' H' o.go .non
    | rt d w1 =>
      rw [q] at hw
      exact fun v F' H' g' r' => hw v F' H' g' r'
    | bk en w1 => rw [q] at hw; exact hw.elim
    | rf d w1 => rw [q] at hw; exact hw.elim
    | ct en w1 => rw [q] at hw; exact hw.elim
    | bad => rw [q] at hw; exact hw.elim
    | ex c fn a en w1 =>
      rw [q] at hw
      exact fun cls dx σ F' H' o x => hw cls dx F' H' o.go x
end

/-- what a def answers that makes a new list -/
def spN (K : Kt) (n : Nat) (G : List D → Wl → Res) : Sp := fun vs H Q E => ∃ (f : Fx) (ds : List D) (w : Wl), f.H0 = H ∧ Go f.aw f.F0 H f.F0 H w ∧ (∀ a, f.aw.a = some a → f.F0 a = none) ∧ f.aw.T = K.T ∧ LamX.Tabs f.aw.T H ∧ DvAll K f.aw f.F0 vs ds ∧ ds.length = n ∧ Wn .fr K f.aw f.F0 H Q E (G ds w)
def runN (m : Nat) (gs : SG) (ds : List D) (w : Wl) : Res := match gs (ds.map .dat ++ List.replicate (m - ds.length) .non) w with
  | .rf ds w1 => .ok (.lst ds) w1
  | _ => .bad
section
variable {P : Program} {w : World} {K : Kt} {mg : Str → Option Value} {base : Heap} {k : Nat} {f : Addr} {fd : FuncData} {ps N : List Str} {x qual : Str} {params : Arguments} {body : List Stmt} {scope : Scope} {dvs : List V} {kws : List (Str × V)}
theorem fg_ofN {gs : SG} {G : List D → Wl → Res} (F : FunD K x qual params body scope dvs kws f fd) (S : FnScope N ps scope) (hG : ∀ ds w, ds.length = ps.length → G ds w = runN N.length gs ds w)
    (hb : ∀ (cdv : Value), fd.code = cdv → ∀ (A : Around) (outer : List Env) (s : Shared) (H : Hp) (E : XK), Rg k (A.deeper (envOfC qual scope s.heap.objs.size f cdv)) →
      ∃ t, DSs K (cxOf (L2.CX P w) P w K mg base N qual scope f cdv A outer s H E) (We E) body t gs) : FG P w K mg base (k + 1) f fd ps (spN K ps.length G) := by
  refine fg_sp F S (fun vs H Q E ⟨f, ds, w, _, _, _, _, _, r, hl, _⟩ => r.length.trans hl) fun cdv hcv A outer s H vs Q E hr hsp => ?_
  obtain ⟨fx, ds, wl, rfl, g, hf, tT, tb, r, hl, hw⟩ := hsp
  obtain ⟨t, ht⟩ := hb cdv hcv A outer s fx.H0 E hr
  refine ⟨t, ht.ps, ht.es fx _ wl _ _ _ _ (start_ok g hf tT tb r ?_) ?_⟩
  · have h1 := congrArg List.length S.pre
    rw [List.length_take] at h1
    omega
  · rw [hG ds wl hl] at hw
    unfold runN at hw
    cases q : gs (ds.map .dat ++ List.replicate (N.length - ds.length) .non) wl with
    | rf es w1 =>
      rw [q] at hw
      exact fun a vs F' H' g' n r1 r2 r' => hw (.ref a) F' H' g' ⟨es, a, vs, rfl, rfl, n, r1, r2, r'⟩
    | nx en w1 => rw [q] at hw; exact hw.elim
    | rt d w1 => rw [q] at hw; exact hw.elim
    | bk en w1 => rw [q] at hw; exact hw.elim
    | ct en w1 => rw [q] at hw; exact hw.elim
    | bad => rw [q] at hw; exact hw.elim
    | ex c fn a en w1 => rw [q] at hw; exact hw.elim
end
/-! ### calls -/
def permL {α : Type} (xs : List α) (pm : List Nat) : List α := pm.filterMap (xs[·]?)
/-- how positional and keyword arguments come to the parameters -/
def KBp (K : Kt) (fd : FuncData) (ps : List Str) (n : Nat) (ks : List Str) (pm : List Nat) : Prop :=
  ∀ (s : Shared) (us ws : List Value), K.K.In s.heap → us.length = n → ws.length = ks.length → BindsTo s fd ⟨us, ks.zip ws⟩ (ps.zip (permL (us ++ ws) pm))
/-- the answer of a called def -/
def eFn (n : Nat) (G : List D → Wl → Res) (g : AG) : EG := fun en w => match g en w with
  | .ok ds w1 => if ds.length = n then G ds w1 else .bad
  | .ex c fn a w1 => .ex c fn a w1
  | .bad => .bad
def eFnK (n m : Nat) (pm : List Nat) (G : List D → Wl → Res) (g gk : AG) : EG := fun en w => match g en w with
  | .ok ds w1 => (match gk en w1 with
    | .ok es w2 => if ds.length = n ∧ es.length = m ∧ (permL (ds ++ es) pm).length = n + m then G (permL (ds ++ es) pm) w2 else .bad
    | .ex c fn a w2 => .ex c fn a w2
    | .bad => .bad)
  | .ex c fn a w1 => .ex c fn a w1
  | .bad => .bad
structure DK (K : Kt) (X : Cx) (W : WX) (kws : List Keyword) (t : TA) (g : AG) : Prop where
  pk : PK X kws t
  es : EA K W false t g
section
variable {X : Cx} {W : WX} {K : Kt} {Kf : PySem.W.Frag} {k n : Nat} {f : Addr} {fd : FuncData} {ps ks : List Str} {G : List D → Wl → Res} {x : Str} {p pos kpos : Pos} {e : Expr} {es : List Expr} {kws : List Keyword} {t tk : TA} {g gk : AG} {s : Sg} {te : TE} {ge : EG} {nm : Option Str} {pm : List Nat}
theorem ea_cons (ha : ES K W s te ge) (hr : EA K W false t g) (hs : s ≠ .wk) : EA K W false (tCons te t) (aCons ge g) := by
  intro f en w σ F H Q o h
  refine ha.toSt hs f en w σ F H _ o ?_
  unfold aCons at h
  cases q : ge en w with
  | bad => rw [q] at h; exact h
  | ex c fn a w1 => rw [q] at h; exact h
  | ok d w1 =>
    rw [q] at h
    intro v F1 H1 g1 r1
    refine hr f en w1 σ F1 H1 _ (o.step g1) ?_
    unfold AR.cons at h
    dsimp only at h
    cases q2 : g en w1 with
    | bad => rw [q2] at h; exact h
    | ex c fn a w2 =>
      rw [q2] at h
      exact fun cls dx F' H' g' x => h cls dx F' H' (g1.trans g') x
    | ok ds w2 =>
      rw [q2] at h
      exact fun vs F' H' g' r' => h (v :: vs) F' H' (g1.trans g') (.cons (r1.mono g'.ff) r')
theorem dk_nil : DK K X W [] tNil aNil := ⟨pk_nil, fun f en w σ F H Q o h => h [] F H o.here .nil⟩
theorem dk_cons (ha : DE K X W s e te ge) (hr : DK K X W kws t g) (hs : s ≠ .wk := by decide) : DK K X W (⟨nm, e, kpos⟩ :: kws) (tCons te t) (aCons ge g) := by
  obtain ⟨K0, T0, L0⟩ := K
  cases ha.hK
  exact ⟨pk_cons ha.pe hr.pk, ea_cons ha.es hr.es hs⟩
/-- the callee runs -/
theorem run_fg {pins : List (Addr × Obj)} {σ : St} {H : Hp} {s : Shared} {Q : VK} {args : Args} {us : List Value} {vs : List V} {sp : Sp} (F : FG X.prog X.w X.K X.mg X.base k f fd ps sp) (hr : Rg k X.A) (tk : Takes X W)
    (hb : BindsTo s fd args (ps.zip us)) (I : Inv X pins σ H s) (r : Vals vs us) (h : sp vs H Q (WE W σ)) : wpAny (model X.prog X.w) X.A (call (.ref f) args.pos args.kw) (EP X pins σ Q) X.xe s := by
  refine wpAny_call (codeAny_mono (F.run X.A X.stack s H args us vs Q (WE W σ) hr I.env0 hb r h) fun z s' hz => ?_)
  match z, hz with
  | .error e, hz => exact passAt tk σ pins H s e s' I hz
  | .ok (.ret u), hz => exact I.after hz
theorem sp_of {fx : Fx} {en : List Sl} {w : Wl} {σ : St} {F H : Hp} {Q : VK} {E : XK} {vs : List V} {ds : List D} (o : Ok K fx en w σ F H) (r : DvAll K fx.aw F vs ds) (hl : ds.length = n) (h : Wn .st K fx.aw F H Q E (G ds w)) : spD K n G vs H Q E :=
  ⟨⟨fx.aw, F, H⟩, ds, w, rfl, o.here, o.awF, o.tT, o.tabs, r, hl, h⟩
def tCallG (sp : Sp) (W : WX) (t : TA) : TE := fun σ H Q => t σ H fun vs H1 => sp vs H1 Q (WE W σ)
theorem de_call (F : FG X.prog X.w K X.mg X.base k f fd ps (spD K n G)) (hr : Rg k X.A) (tk : Takes X W) (hg : Gl X x) (hm : X.mg x = some (.ref f)) (hk : PySem.W.keepIn K (.ref f) = true) (hb : Binds K fd ps [])
    (ha : DA K X W false (e :: es) t g) (hdb : (x == ("__debug__" : Str)) = false := by decide) (he : starEach (e :: es) X.env = (false, eval e X.env) :: starEach es X.env := by rfl) (hpl : (backTo pos (starEach es X.env)).any (·.1) = false := by rfl) :
    DE K X W .st (.Call (.Name x p) (e :: es) [] pos) (tCallG (spD K n G) W t) (eFn n G g) := by
  obtain ⟨K0, T0, L0⟩ := K
  cases ha.hK
  refine ⟨rfl, ⟨fun pins s σ H Q I h => ?_⟩, fun fx en w σ F0 H Q o h => ?_⟩
  · refine wpAny_Call_Name_kw (ld_glob I hg hm (PySem.W.callWith_K (h₀ := X.base) I.ok.mod.kin hk (thn (ha.pa.run pos pins s σ H _ I h) fun us s1 ⟨vs, H1, I1, r, q⟩ => ⟨I1.kIn, ?_⟩) he hpl) hdb)
    have hl : us.length = ps.length := r.length.symm.trans (F.len _ _ _ _ q)
    have bb := hb s1 us I1.kIn (by rw [List.append_nil]; exact hl)
    rw [List.append_nil] at bb
    exact run_fg (args := ⟨us, []⟩) F hr tk bb I1 r q
  · refine ha.es fx en w σ F0 H _ o ?_
    unfold eFn at h
    cases q : g en w with
    | bad => rw [q] at h; exact h
    | ex c fn a w1 => rw [q] at h; exact h
    | ok ds w1 =>
      rw [q] at h
      intro vs F1 H1 g1 r1
      dsimp only at h
      by_cases hl : ds.length = n
      · rw [if_pos hl] at h
        exact sp_of (o.step g1) r1 hl (Wn.any h g1)
      · rw [if_neg hl] at h
        exact h.elim
theorem permL_vals {vs : List V} {us : List Value} (r : Vals vs us) (pm : List Nat) : Vals (permL vs pm) (permL us pm) := by
  unfold permL
  induction pm with
  | nil => exact .nil
  | cons i pm ih =>
    rw [List.filterMap_cons, List.filterMap_cons]
    cases q : vs[i]? with
    | none =>
      rw [r.none_of q]
      exact ih
    | some v =>
      obtain ⟨u, e, ru⟩ := r.get q
      rw [e]
      exact .cons ru ih
theorem permL_dv {aw : Bs} {F : Hp} {vs : List V} {ds : List D} (r : DvAll Kf aw F vs ds) (pm : List Nat) : DvAll Kf aw F (permL vs pm) (permL ds pm) := by
  unfold permL
  induction pm with
  | nil => exact .nil
  | cons i pm ih =>
    rw [List.filterMap_cons, List.filterMap_cons]
    cases q : ds[i]? with
    | none =>
      have : vs[i]? = none := by
        rw [List.getElem?_eq_none_iff] at q ⊢
        rw [r.length]
        exact q
      rw [this]
      exact ih
    | some d =>
      obtain ⟨v, e, rv⟩ := r.get q
      rw [e]
      exact .cons rv ih
def tCallGK (sp : Sp) (n m : Nat) (pm : List Nat) (W : WX) (t tk : TA) : TE := fun σ H Q => t σ H fun vs H1 => tk σ H1 fun zs H2 => vs.length = n ∧ zs.length = m ∧ sp (permL (vs ++ zs) pm) H2 Q (WE W σ)
theorem es_callK {m : Nat} (hat : EA K W false t g) (hkt : EA K W false tk gk) {N : Nat} (hN : N = n + m) : ES K W .st (tCallGK (spD K N G) n m pm W t tk) (eFnK n m pm G g gk) := by
  intro fx en w σ F0 H Q o h
  refine hat fx en w σ F0 H _ o ?_
  unfold eFnK at h
  cases q : g en w with
  | bad => rw [q] at h; exact h
  | ex c fn a w1 => rw [q] at h; exact h
  | ok ds w1 =>
    rw [q] at h
    intro vs F1 H1 g1 r1
    dsimp only at h
    refine hkt fx en w1 σ F1 H1 _ (o.step g1) ?_
    cases q2 : gk en w1 with
    | bad => rw [q2] at h; exact h
    | ex c fn a w2 =>
      rw [q2] at h
      exact fun cls dx F' H' g' x => h cls dx F' H' (g1.trans g') x
    | ok es w2 =>
      rw [q2] at h
      dsimp only at h
      intro zs F2 H2 g2 r2
      split at h
      · rename_i hc
        have rr : DvAll K fx.aw F2 (vs ++ zs) (ds ++ es) := (DvAll.mono g2.ff r1).app r2
        exact ⟨(DvAll.length r1).trans hc.1, (DvAll.length r2).trans hc.2.1, sp_of ((o.step g1).step g2) (permL_dv rr pm) (by rw [hN]; exact hc.2.2) (Wn.any h (g1.trans g2))⟩
      · exact h.elim
theorem de_callK0 {N : Nat} (F : FG X.prog X.w K X.mg X.base k f fd ps (spD K N G)) (hr : Rg k X.A) (tk' : Takes X W) (hg : Gl X x) (hm : X.mg x = some (.ref f)) (hk : PySem.W.keepIn K (.ref f) = true) (hb : KBp K fd ps 0 ks pm)
    (hkw : DK K X W kws tk gk) (hN : N = 0 + ks.length) (hall : (backToKw pos (keywordEach kws X.env)).all (·.1.isSome) = true := by rfl) (hks : (backToKw pos (keywordEach kws X.env)).filterMap (·.1) = ks := by rfl)
    (hdb : (x == ("__debug__" : Str)) = false := by decide) (hpl : ((backTo pos (starEach [] X.env)).any (·.1) || (backToKw pos (keywordEach kws X.env)).any (·.1.isNone)) = false := by rfl) (hK : X.K = K.K := by rfl) : DE K X W .st (.Call (.Name x p) [] kws pos) (tCallGK (spD K N G) 0 ks.length pm W tNil tk) (eFnK 0 ks.length pm G aNil gk) := by
  obtain ⟨K0, T0, L0⟩ := K
  cases hK
  refine ⟨rfl, ⟨fun pins s σ H Q I h => ?_⟩, es_callK (da_nil (X := X) (W := W) (bb := false) (hK := rfl)).es hkw.es hN⟩
  refine wpAny_Call_Name_kw (ld_glob I hg hm (PySem.W.callWith_KW0 (h₀ := X.base) I.ok.mod.kin hk hall ?_ hpl) hdb)
  refine thn (hkw.pk.run pos pins s σ H _ I h) fun ws s2 ⟨zs, H2, I2, rz, l1, l2, q2⟩ => ⟨I2.kIn, ?_⟩
  rw [hks]
  exact run_fg (args := ⟨[], ks.zip ws⟩) F hr tk' (hb s2 [] ws I2.kIn rfl (rz.length.symm.trans l2)) I2 (permL_vals (vs := [] ++ zs) rz pm) q2
end
end DL

/-! DL, part h: built-ins. -/
namespace DL
open PySem PySem.Spec L2
open PyProof.Rows hiding St

section
variable {X : Cx} {W : WX} {K : Kt} {Kf : PySem.W.Frag} {s : Sg} {pos p : Pos} {a b c e : Expr} {es : List Expr} {t : TA} {g : AG}
/-- one argument -/
theorem cs_one {r : List V → Hp → VK → Prop} {o : D → Wl → Res} (h : ∀ (aw : Bs) (F H : Hp) (Q : VK) (E : XK) (v : V) (d : D) (w : Wl), Go aw F H F H w → Dq Kf aw F H v d → Wn s Kf aw F H Q E (o d w) → r [v] H Q) :
    CS Kf s r (fun ds w => match ds with | [d] => o d w | _ => .bad) := by
  intro aw F H Q E vs ds w go r hw
  cases ds with
  | nil => exact hw.elim
  | cons d ds =>
    cases ds with
    | nil =>
      obtain ⟨v, rfl, q⟩ := r.one
      exact h aw F H Q E v d w go q hw
    | cons _ _ => exact hw.elim
/-! len -/
def oLen1 : D → Wl → Res := fun d w => match d with
  | .lst ds => .ok (.int ds.length) w
  | .tup ds => .ok (.int ds.length) w
  | .con ds => .ok (.int ds.length) w
  | .str x => if x.length ≤ sizeLine then .ok (.int x.length) w else .bad
  | .scr ns => .ok (.int ns.length) w
  | _ => .bad
def oLen : List D → Wl → Res := fun ds w => match ds with
  | [d] => oLen1 d w
  | _ => .bad
def rLen1 (K : PySem.W.Frag) : List V → Hp → VK → Prop := fun xs H Q => ∃ x n, xs = [x] ∧ LenV K x H n ∧ Q (.int n) H
theorem cs_len : CS Kf .st (rLen1 Kf) oLen := cs_one fun aw F H Q E v d w go q hw => by
  cases d <;> first
    | exact hw.elim
    | skip
  · rename_i x
    have e := q.str
    subst e
    simp only [oLen1] at hw
    split at hw
    · exact ⟨_, x.length, rfl, ⟨by assumption, rfl⟩, Wn.val hw go (.int _)⟩
    · exact hw.elim
  · rename_i ds
    obtain ⟨a, vs, rfl, hv, dv⟩ := q.seq go.sub
    exact ⟨_, ds.length, rfl, .inl ⟨vs, .inl (.inl hv), dv.length.symm⟩, Wn.val (show Wn .st Kf aw F H Q E (.ok (.int ds.length) w) from hw) go (.int _)⟩
  · rename_i ds
    obtain ⟨a, vs, rfl, hv, dv⟩ := q.tupl go.sub
    exact ⟨_, ds.length, rfl, .inr ⟨vs, hv, dv.length.symm⟩, Wn.val (show Wn .st Kf aw F H Q E (.ok (.int ds.length) w) from hw) go (.int _)⟩
  · rename_i ns
    obtain ⟨a, rfl, hv⟩ := q.scr go.sub
    exact ⟨_, ns.length, rfl, .inl ⟨_, hv, by rw [List.length_map]⟩, Wn.val (show Wn .st Kf aw F H Q E (.ok (.int ns.length) w) from hw) go (.int _)⟩
  · rename_i ds
    obtain ⟨a, vs, rfl, hv, dv⟩ := q.conl go.sub
    exact ⟨_, ds.length, rfl, .inr ⟨vs, hv, dv.length.symm⟩, Wn.val (show Wn .st Kf aw F H Q E (.ok (.int ds.length) w) from hw) go (.int _)⟩
theorem de_len (hg : Gl X "len") (hm : X.mg "len" = none) (ha : DA K X W true [a] t g) (he : starEach [a] X.env = (false, eval a X.env) :: starEach [] X.env := by rfl) (hpl : (backTo pos (starEach [] X.env)).any (·.1) = false := by rfl) :
    DE K X W .st (.Call (.Name "len" p) [a] [] pos) (tCB (rLen1 K) t) (eCall oLen g) := by
  obtain ⟨K0, T0, L0⟩ := K
  cases ha.hK
  exact de_callB call_len cs_len hg hm boot_len ha (by decide) (by decide) he hpl
/-! tuple(x), list(x) -/
def oTup1 : D → Wl → Res := fun d w => match d with
  | .lst ds => .ok (.tup ds) w
  | .tup ds => .ok (.tup ds) w
  | _ => .bad
def oTup : List D → Wl → Res := fun ds w => match ds with
  | [d] => oTup1 d w
  | _ => .bad
def rTupOf (K : PySem.W.Frag) : List V → Hp → VK → Prop := fun xs H Q => ∃ p ys, xs = [.ref p] ∧ ((SqL K H p ys ∧ ∀ l, H l = none → Q (.ref l) (upd H l (.tup ys))) ∨ (SqT K H p ys ∧ Q (.ref p) H))
theorem cs_tup : CS Kf .st (rTupOf Kf) oTup := cs_one fun aw F H Q E v d w go q hw => by
  cases d <;> first
    | exact hw.elim
    | skip
  · rename_i ds
    obtain ⟨a, vs, rfl, hv, dv⟩ := q.seq go.sub
    exact ⟨a, vs, rfl, .inl ⟨.inl (.inl hv), Wn.tupNew (show Wn .st Kf aw F H Q E (.ok (.tup ds) w) from hw) go dv⟩⟩
  · rename_i ds
    have hw' : Wn .st Kf aw F H Q E (.ok (.tup ds) w) := hw
    rcases q with q | ⟨_, _, _, z, _⟩
    · cases q with
      | tup hv dv => exact ⟨_, _, rfl, .inr ⟨SqT.of (go.sub _ _ hv), Wn.val hw' go (.tup hv dv)⟩⟩
    · cases z
theorem de_tuple (hg : Gl X "tuple") (hm : X.mg "tuple" = none) (ha : DA K X W true [a] t g) (he : starEach [a] X.env = (false, eval a X.env) :: starEach [] X.env := by rfl) (hpl : (backTo pos (starEach [] X.env)).any (·.1) = false := by rfl) :
    DE K X W .st (.Call (.Name "tuple" p) [a] [] pos) (tCB (rTupOf K) t) (eCall oTup g) := by
  obtain ⟨K0, T0, L0⟩ := K
  cases ha.hK
  exact de_callT call_tuple_of cs_tup hg hm (by decide +kernel) ha (by decide) (by decide) he hpl
def oLst1 : D → Wl → Res := fun d w => match d with
  | .lst ds => .ok (.lst ds) w
  | .tup ds => .ok (.lst ds) w
  | _ => .bad
def oLst : List D → Wl → Res := fun ds w => match ds with
  | [d] => oLst1 d w
  | _ => .bad
def rLstOf (K : PySem.W.Frag) : List V → Hp → VK → Prop := fun xs H Q => ∃ p ys, xs = [.ref p] ∧ (SqL K H p ys ∨ SqT K H p ys) ∧ ∀ l, H l = none → Q (.ref l) (upd H l (.lst ys))
theorem cs_lst : CS Kf .fr (rLstOf Kf) oLst := cs_one fun aw F H Q E v d w go q hw => by
  cases d <;> first
    | exact hw.elim
    | skip
  · rename_i ds
    obtain ⟨a, vs, rfl, hv, dv⟩ := q.seq go.sub
    exact ⟨a, vs, rfl, .inl (.inl (.inl hv)), Wn.lstNew (show Wn .fr Kf aw F H Q E (.ok (.lst ds) w) from hw) go dv⟩
  · rename_i ds
    obtain ⟨a, vs, rfl, hv, dv⟩ := q.tupl go.sub
    exact ⟨a, vs, rfl, .inr hv, Wn.lstNew (show Wn .fr Kf aw F H Q E (.ok (.lst ds) w) from hw) go dv⟩
theorem de_list (hg : Gl X "list") (hm : X.mg "list" = none) (ha : DA K X W true [a] t g) (he : starEach [a] X.env = (false, eval a X.env) :: starEach [] X.env := by rfl) (hpl : (backTo pos (starEach [] X.env)).any (·.1) = false := by rfl) :
    DE K X W .fr (.Call (.Name "list" p) [a] [] pos) (tCB (rLstOf K) t) (eCall oLst g) := by
  obtain ⟨K0, T0, L0⟩ := K
  cases ha.hK
  exact de_callT call_list_of cs_lst hg hm (by decide +kernel) ha (by decide) (by decide) he hpl
/-! sum, all, any, max, min -/
def oSum1 : D → Wl → Res := fun d w => match d with
  | .lst ds => (match allInts ds with
    | some ns => .ok (.int ns.sum) w
    | none => .bad)
  | _ => .bad
def oSum : List D → Wl → Res := fun ds w => match ds with
  | [d] => oSum1 d w
  | _ => .bad
theorem cs_sum : CS Kf .st (rSum Kf) oSum := cs_one fun aw F H Q E v d w go q hw => by
  cases d <;> first
    | exact hw.elim
    | skip
  rename_i ds
  obtain ⟨a, vs, rfl, hv, dv⟩ := q.seq go.sub
  simp only [oSum1] at hw
  cases z : allInts ds with
  | none => rw [z] at hw; exact hw.elim
  | some ns =>
    rw [z] at hw
    rw [vals_ints dv z] at hv
    exact ⟨a, ns, rfl, .inl (.inl hv), Wn.val hw go (.int _)⟩
theorem de_sum (hc : X.calm = true) (hg : Gl X "sum") (hm : X.mg "sum" = none) (ha : DA K X W true [a] t g) (he : starEach [a] X.env = (false, eval a X.env) :: starEach [] X.env := by rfl) (hpl : (backTo pos (starEach [] X.env)).any (·.1) = false := by rfl) :
    DE K X W .st (.Call (.Name "sum" p) [a] [] pos) (tCB (rSum K) t) (eCall oSum g) := by
  obtain ⟨K0, T0, L0⟩ := K
  cases ha.hK
  exact de_callB (cr_sum hc) cs_sum hg hm (by decide +kernel) ha (by decide) (by decide) he hpl
def allBls : List D → Option (List Bool)
  | [] => some []
  | .bl b :: r => (allBls r).map (b :: ·)
  | _ :: _ => none
theorem vals_bls {aw : Bs} {F : Hp} : ∀ {vs : List V} {ds : List D} {ns : List Bool}, DvAll Kf aw F vs ds → allBls ds = some ns → vs = ns.map V.bl
  | _, _, _, .nil, h => by
    cases h
    rfl
  | _, _, ns, .cons (d := .bl i) (ds := ds) x y, h => by
    cases x
    cases q : allBls ds with
    | none =>
      simp only [allBls, q, Option.map_none] at h
      cases h
    | some ms =>
      simp only [allBls, q, Option.map_some, Option.some.injEq] at h
      subst h
      rw [vals_bls y q]
      rfl
  | _, _, ns, .cons (d := .non) x y, h => nomatch h
  | _, _, ns, .cons (d := .int _) x y, h => nomatch h
  | _, _, ns, .cons (d := .str _) x y, h => nomatch h
  | _, _, ns, .cons (d := .lst _) x y, h => nomatch h
  | _, _, ns, .cons (d := .tup _) x y, h => nomatch h
  | _, _, ns, .cons (d := .well) x y, h => nomatch h
  | _, _, ns, .cons (d := .ty _) x y, h => nomatch h
  | _, _, ns, .cons (d := .fn _) x y, h => nomatch h
  | _, _, ns, .cons (d := .rng _ _) x y, h => nomatch h
  | _, _, ns, .cons (d := .hol _) x y, h => nomatch h
  | _, _, ns, .cons (d := .scr _) x y, h => nomatch h
  | _, _, ns, .cons (d := .ob _ _ _) x y, h => nomatch h
  | _, _, ns, .cons (d := .dci _ _) x y, h => nomatch h
  | _, _, ns, .cons (d := .dct _ _) x y, h => nomatch h
def oAll1 : D → Wl → Res := fun d w => match d with
  | .lst ds => (match allBls ds with
    | some ns => .ok (.bl (ns.all id)) w
    | none => .bad)
  | _ => .bad
def oAll : List D → Wl → Res := fun ds w => match ds with
  | [d] => oAll1 d w
  | _ => .bad
def oAny1 : D → Wl → Res := fun d w => match d with
  | .lst ds => (match allBls ds with
    | some ns => .ok (.bl (ns.any id)) w
    | none => .bad)
  | _ => .bad
def oAny : List D → Wl → Res := fun ds w => match ds with
  | [d] => oAny1 d w
  | _ => .bad
theorem cs_all : CS Kf .st (rAll Kf) oAll := cs_one fun aw F H Q E v d w go q hw => by
  cases d <;> first
    | exact hw.elim
    | skip
  rename_i ds
  obtain ⟨a, vs, rfl, hv, dv⟩ := q.seq go.sub
  simp only [oAll1] at hw
  cases z : allBls ds with
  | none => rw [z] at hw; exact hw.elim
  | some ns =>
    rw [z] at hw
    rw [vals_bls dv z] at hv
    exact ⟨a, ns, rfl, .inl (.inl hv), Wn.val hw go (.bl _)⟩
theorem cs_any : CS Kf .st (rAny Kf) oAny := cs_one fun aw F H Q E v d w go q hw => by
  cases d <;> first
    | exact hw.elim
    | skip
  rename_i ds
  obtain ⟨a, vs, rfl, hv, dv⟩ := q.seq go.sub
  simp only [oAny1] at hw
  cases z : allBls ds with
  | none => rw [z] at hw; exact hw.elim
  | some ns =>
    rw [z] at hw
    rw [vals_bls dv z] at hv
    exact ⟨a, ns, rfl, .inl (.inl hv), Wn.val hw go (.bl _)⟩
theorem de_all (hc : X.calm = true) (hg : Gl X "all") (hm : X.mg "all" = none) (ha : DA K X W true [a] t g) (he : starEach [a] X.env = (false, eval a X.env) :: starEach [] X.env := by rfl) (hpl : (backTo pos (starEach [] X.env)).any (·.1) = false := by rfl) :
    DE K X W .st (.Call (.Name "all" p) [a] [] pos) (tCB (rAll K) t) (eCall oAll g) := by
  obtain ⟨K0, T0, L0⟩ := K
  cases ha.hK
  exact de_callB (cr_all hc) cs_all hg hm (by decide +kernel) ha (by decide) (by decide) he hpl
theorem de_any (hc : X.calm = true) (hg : Gl X "any") (hm : X.mg "any" = none) (ha : DA K X W true [a] t g) (he : starEach [a] X.env = (false, eval a X.env) :: starEach [] X.env := by rfl) (hpl : (backTo pos (starEach [] X.env)).any (·.1) = false := by rfl) :
    DE K X W .st (.Call (.Name "any" p) [a] [] pos) (tCB (rAny K) t) (eCall oAny g) := by
  obtain ⟨K0, T0, L0⟩ := K
  cases ha.hK
  exact de_callB (cr_any hc) cs_any hg hm (by decide +kernel) ha (by decide) (by decide) he hpl
/-- the greatest, the least -/
def maxL : List Int → Int
  | [] => 0
  | [x] => x
  | x :: r => if maxL r < x then x else maxL r
def minL : List Int → Int
  | [] => 0
  | [x] => x
  | x :: r => if x < minL r then x else minL r
theorem maxL_spec : ∀ ns : List Int, ns ≠ [] → maxL ns ∈ ns ∧ ∀ y ∈ ns, y ≤ maxL ns
  | [], h => absurd rfl h
  | [x], _ => ⟨by simp [maxL], by simp [maxL]⟩
  | x :: z :: r, _ => by
    obtain ⟨h1, h2⟩ := maxL_spec (z :: r) (by simp)
    show (if maxL (z :: r) < x then x else maxL (z :: r)) ∈ x :: z :: r ∧ ∀ y ∈ x :: z :: r, y ≤ (if maxL (z :: r) < x then x else maxL (z :: r))
    split
    · refine ⟨by simp, fun y hy => ?_⟩
      rcases List.mem_cons.mp hy with rfl | hy
      · omega
      · have := h2 y hy
        omega
    · refine ⟨List.mem_cons_of_mem _ h1, fun y hy => ?_⟩
      rcases List.mem_cons.mp hy with rfl | hy
      · omega
      · exact h2 y hy
theorem minL_spec : ∀ ns : List Int, ns ≠ [] → minL ns ∈ ns ∧ ∀ y ∈ ns, minL ns ≤ y
  | [], h => absurd rfl h
  | [x], _ => ⟨by simp [minL], by simp [minL]⟩
  | x :: z :: r, _ => by
    obtain ⟨h1, h2⟩ := minL_spec (z :: r) (by simp)
    show (if x < minL (z :: r) then x else minL (z :: r)) ∈ x :: z :: r ∧ ∀ y ∈ x :: z :: r, (if x < minL (z :: r) then x else minL (z :: r)) ≤ y
    split
    · refine ⟨by simp, fun y hy => ?_⟩
      rcases List.mem_cons.mp hy with rfl | hy
      · omega
      · have := h2 y hy
        omega
    · refine ⟨List.mem_cons_of_mem _ h1, fun y hy => ?_⟩
      rcases List.mem_cons.mp hy with rfl | hy
      · omega
      · exact h2 y hy
def oMax : List D → Wl → Res := fun ds w => match ds with
  | [.lst ds] => (match allInts ds with
    | some ns => if ns.isEmpty then .bad else .ok (.int (maxL ns)) w
    | none => .bad)
  | [.int i, .int j] => .ok (.int (if j > i then j else i)) w
  | _ => .bad
def oMin : List D → Wl → Res := fun ds w => match ds with
  | [.lst ds] => (match allInts ds with
    | some ns => if ns.isEmpty then .bad else .ok (.int (minL ns)) w
    | none => .bad)
  | [.int i, .int j] => .ok (.int (if j < i then j else i)) w
  | _ => .bad
def rMax2 (K : PySem.W.Frag) : List V → Hp → VK → Prop := fun vs H Q => rMax K vs H Q ∨ ∃ i j, vs = [.int i, .int j] ∧ Q (.int (if j > i then j else i)) H
def rMin2 (K : PySem.W.Frag) : List V → Hp → VK → Prop := fun vs H Q => rMin K vs H Q ∨ ∃ i j, vs = [.int i, .int j] ∧ Q (.int (if j < i then j else i)) H
theorem cs_max : CS Kf .st (rMax2 Kf) oMax := by
  intro aw F H Q E vs ds w go r hw
  unfold oMax at hw
  split at hw
  · rename_i ds
    obtain ⟨v, rfl, q⟩ := r.one
    obtain ⟨a, us, rfl, hv, dv⟩ := q.seq go.sub
    cases z : allInts ds with
    | none => rw [z] at hw; exact hw.elim
    | some ns =>
      rw [z] at hw
      dsimp only at hw
      split at hw
      · exact hw.elim
      · rename_i hne
        have hn : ns ≠ [] := fun y => hne (by rw [y]; rfl)
        rw [vals_ints dv z] at hv
        obtain ⟨s1, s2⟩ := maxL_spec ns hn
        refine .inl ⟨a, ns, rfl, .inl (.inl hv), List.length_pos_iff.mpr hn, fun m hm hle => ?_⟩
        have e : m = maxL ns := Int.le_antisymm (s2 m hm) (hle _ s1)
        rw [e]
        exact Wn.val hw go (.int _)
  · rename_i i j
    obtain ⟨v, u, rfl, q1, q2⟩ := r.two
    have e1 := q1.int
    have e2 := q2.int
    subst e1 e2
    exact .inr ⟨i, j, rfl, Wn.val hw go (.int _)⟩
  · exact hw.elim
theorem cs_min : CS Kf .st (rMin2 Kf) oMin := by
  intro aw F H Q E vs ds w go r hw
  unfold oMin at hw
  split at hw
  · rename_i ds
    obtain ⟨v, rfl, q⟩ := r.one
    obtain ⟨a, us, rfl, hv, dv⟩ := q.seq go.sub
    cases z : allInts ds with
    | none => rw [z] at hw; exact hw.elim
    | some ns =>
      rw [z] at hw
      dsimp only at hw
      split at hw
      · exact hw.elim
      · rename_i hne
        have hn : ns ≠ [] := fun y => hne (by rw [y]; rfl)
        rw [vals_ints dv z] at hv
        obtain ⟨s1, s2⟩ := minL_spec ns hn
        refine .inl ⟨a, ns, rfl, .inl (.inl hv), List.length_pos_iff.mpr hn, fun m hm hle => ?_⟩
        have e : m = minL ns := Int.le_antisymm (hle _ s1) (s2 m hm)
        rw [e]
        exact Wn.val hw go (.int _)
  · rename_i i j
    obtain ⟨v, u, rfl, q1, q2⟩ := r.two
    have e1 := q1.int
    have e2 := q2.int
    subst e1 e2
    exact .inr ⟨i, j, rfl, Wn.val hw go (.int _)⟩
  · exact hw.elim
theorem de_max (hc : X.calm = true) (hg : Gl X "max") (hm : X.mg "max" = none) (ha : DA K X W true (a :: es) t g) (he : starEach (a :: es) X.env = (false, eval a X.env) :: starEach es X.env := by rfl) (hpl : (backTo pos (starEach es X.env)).any (·.1) = false := by rfl) :
    DE K X W .st (.Call (.Name "max" p) (a :: es) [] pos) (tCB (rMax2 K) t) (eCall oMax g) := by
  obtain ⟨K0, T0, L0⟩ := K
  cases ha.hK
  exact de_callB ((cr_max hc).or (call_max2 hc)) cs_max hg hm (by decide +kernel) ha (by decide) (by decide) he hpl
theorem de_min (hc : X.calm = true) (hg : Gl X "min") (hm : X.mg "min" = none) (ha : DA K X W true (a :: es) t g) (he : starEach (a :: es) X.env = (false, eval a X.env) :: starEach es X.env := by rfl) (hpl : (backTo pos (starEach es X.env)).any (·.1) = false := by rfl) :
    DE K X W .st (.Call (.Name "min" p) (a :: es) [] pos) (tCB (rMin2 K) t) (eCall oMin g) := by
  obtain ⟨K0, T0, L0⟩ := K
  cases ha.hK
  exact de_callB ((cr_min hc).or (call_min2 hc)) cs_min hg hm (by decide +kernel) ha (by decide) (by decide) he hpl
/-! abs, int, str, divmod, type -/
def oAbs : List D → Wl → Res := fun ds w => match ds with
  | [.int i] => .ok (.int (if i < 0 then -i else i)) w
  | _ => .bad
def rAbs : List V → Hp → VK → Prop := fun xs H Q => ∃ i, xs = [.int i] ∧ Q (.int (if i < 0 then -i else i)) H
theorem cs_abs : CS Kf .st rAbs oAbs := by
  intro aw F H Q E vs ds w go r hw
  unfold oAbs at hw
  split at hw
  · obtain ⟨v, rfl, q⟩ := r.one
    have e := q.int
    subst e
    exact ⟨_, rfl, Wn.val hw go (.int _)⟩
  · exact hw.elim
theorem de_abs (hg : Gl X "abs") (hm : X.mg "abs" = none) (ha : DA K X W true [a] t g) (he : starEach [a] X.env = (false, eval a X.env) :: starEach [] X.env := by rfl) (hpl : (backTo pos (starEach [] X.env)).any (·.1) = false := by rfl) :
    DE K X W .st (.Call (.Name "abs" p) [a] [] pos) (tCB rAbs t) (eCall oAbs g) := by
  obtain ⟨K0, T0, L0⟩ := K
  cases ha.hK
  exact de_callB call_abs cs_abs hg hm (by decide +kernel) ha (by decide) (by decide) he hpl
def oInt : List D → Wl → Res := fun ds w => match ds with
  | [.int i] => .ok (.int i) w
  | [.bl b] => .ok (.int (if b then 1 else 0)) w
  | _ => .bad
def rInt1 : List V → Hp → VK → Prop := fun xs H Q => (∃ i, xs = [.int i] ∧ Q (.int i) H) ∨ ∃ k, xs = [.bl k] ∧ Q (.int (if k then 1 else 0)) H
theorem cs_int : CS Kf .st rInt1 oInt := by
  intro aw F H Q E vs ds w go r hw
  unfold oInt at hw
  split at hw
  · obtain ⟨v, rfl, q⟩ := r.one
    have e := q.int
    subst e
    exact .inl ⟨_, rfl, Wn.val hw go (.int _)⟩
  · obtain ⟨v, rfl, q⟩ := r.one
    have e := q.bl
    subst e
    exact .inr ⟨_, rfl, Wn.val hw go (.int _)⟩
  · exact hw.elim
theorem de_intOf (hg : Gl X "int") (hm : X.mg "int" = none) (ha : DA K X W true [a] t g) (he : starEach [a] X.env = (false, eval a X.env) :: starEach [] X.env := by rfl) (hpl : (backTo pos (starEach [] X.env)).any (·.1) = false := by rfl) :
    DE K X W .st (.Call (.Name "int" p) [a] [] pos) (tCB rInt1 t) (eCall oInt g) := by
  obtain ⟨K0, T0, L0⟩ := K
  cases ha.hK
  exact de_callT call_int1 cs_int hg hm (by decide +kernel) ha (by decide) (by decide) he hpl
def D.tyName : D → Option String
  | .non => some "NoneType"
  | .bl _ => some "bool"
  | .int _ => some "int"
  | .str _ => some "str"
  | .lst _ => some "list"
  | .tup _ => some "tuple"
  | .con _ => some "tuple"
  | .dci _ _ => some "dict"
  | _ => none
def oType1 : D → Wl → Res := fun d w => match d.tyName with
  | some n => .ok (.ty n) w
  | none => .bad
def oType : List D → Wl → Res := fun ds w => match ds with
  | [d] => oType1 d w
  | _ => .bad
theorem cs_type : CS Kf .st (rTyp Kf) oType := cs_one fun aw F H Q E v d w go q hw => by
  cases d <;> first
    | exact hw.elim
    | skip
  · exact ⟨_, _, rfl, by rw [q.non]; exact .non, Wn.val (show Wn .st Kf aw F H Q E (.ok (.ty "NoneType") w) from hw) go (.ty _)⟩
  · exact ⟨_, _, rfl, by rw [q.bl]; exact .bl _, Wn.val (show Wn .st Kf aw F H Q E (.ok (.ty "bool") w) from hw) go (.ty _)⟩
  · exact ⟨_, _, rfl, by rw [q.int]; exact .int _, Wn.val (show Wn .st Kf aw F H Q E (.ok (.ty "int") w) from hw) go (.ty _)⟩
  · exact ⟨_, _, rfl, by rw [q.str]; exact .str _, Wn.val (show Wn .st Kf aw F H Q E (.ok (.ty "str") w) from hw) go (.ty _)⟩
  · obtain ⟨a, vs, rfl, hv, dv⟩ := q.seq go.sub
    exact ⟨_, _, rfl, .lst (.inl (.inl hv)), Wn.val (show Wn .st Kf aw F H Q E (.ok (.ty "list") w) from hw) go (.ty _)⟩
  · obtain ⟨a, vs, rfl, hv, dv⟩ := q.tupl go.sub
    exact ⟨_, _, rfl, .tup hv, Wn.val (show Wn .st Kf aw F H Q E (.ok (.ty "tuple") w) from hw) go (.ty _)⟩
  · obtain ⟨a, vs, rfl, hv, dv⟩ := q.conl go.sub
    exact ⟨_, _, rfl, .tup hv, Wn.val (show Wn .st Kf aw F H Q E (.ok (.ty "tuple") w) from hw) go (.ty _)⟩
  · rcases q with q | ⟨ds, a, vs, e, _⟩
    · cases q with
      | dci h1 h2 h3 => exact ⟨_, _, rfl, .dK (go.sub _ _ h1), Wn.val (show Wn .st Kf aw F H Q E (.ok (.ty "dict") w) from hw) go (.ty _)⟩
    · cases e
theorem de_type (hg : Gl X "type") (hm : X.mg "type" = none) (ha : DA K X W true [a] t g) (he : starEach [a] X.env = (false, eval a X.env) :: starEach [] X.env := by rfl) (hpl : (backTo pos (starEach [] X.env)).any (·.1) = false := by rfl) :
    DE K X W .st (.Call (.Name "type" p) [a] [] pos) (tCB (rTyp K) t) (eCall oType g) := by
  obtain ⟨K0, T0, L0⟩ := K
  cases ha.hK
  exact de_callT call_type1 cs_type hg hm (by decide +kernel) ha (by decide) (by decide) he hpl
/-! repr -/
def oRepr1 : D → Wl → Res := fun d w => if d.isP && d.toP.showable && decide (d.toP.shown.length ≤ sizeLine) && decide (d.toP.depth ≤ 60) then .ok (.str d.toP.shown) w else .bad
def oRepr : List D → Wl → Res := fun ds w => match ds with
  | [d] => oRepr1 d w
  | _ => .bad
end
end DL

/-! DL, part i: a def of data by its name; repr. -/
namespace DL
open PySem PySem.Spec L2
open PyProof.Rows hiding St

/-- the def of the module's name x answers G of n data, by k calls within one another at most -/
def Cl (P : Program) (w : World) (K : Kt) (mg : Str → Option Value) (base : Heap) (k : Nat) (x : Str) (n : Nat) (G : List D → Wl → Res) : Prop :=
  ∃ (fd : FuncData) (ps : List Str), FG P w K mg base k (He.ga K x) fd ps (spD K n G) ∧ mg x = some (.ref (He.ga K x)) ∧ PySem.W.keepIn K (.ref (He.ga K x)) = true ∧ Binds K fd ps []
/-- .. and by keywords ks behind m positional ones -/
def ClK (P : Program) (w : World) (K : Kt) (mg : Str → Option Value) (base : Heap) (k : Nat) (x : Str) (n : Nat) (G : List D → Wl → Res) (m : Nat) (ks : List Str) (pm : List Nat) : Prop :=
  ∃ (fd : FuncData) (ps : List Str), FG P w K mg base k (He.ga K x) fd ps (spD K n G) ∧ mg x = some (.ref (He.ga K x)) ∧ PySem.W.keepIn K (.ref (He.ga K x)) = true ∧ KBp K fd ps m ks pm
section
variable {P : Program} {w : World} {K : Kt} {Kf : PySem.W.Frag} {mg : Str → Option Value} {base : Heap} {k j m n : Nat} {x y : Str} {G : List D → Wl → Res} {params : Arguments} {body : List Stmt} {scope : Scope} {N ps ks : List Str} {pm : List Nat} {fd : FuncData} {f : Addr}
theorem FunD.kb (F : FunD K x y params body scope [] [] f fd)
    (h : ∀ (kV doc pm' : Value) (an : Option Addr) (cdv ct : Value) (us ws : List Value), us.length = m → ws.length = ks.length → bindArgs (PySem.W.fnOf x y params body scope .none kV doc pm' an cdv ct) ⟨us, ks.zip ws⟩ = pure (ps.zip (permL (us ++ ws) pm))) : KBp K fd ps m ks pm := by
  obtain ⟨oc, od, dV, kV, doc, pm', an, cdv, ct, osl, rfl, lk, hcd, hdf, _⟩ := F.ex
  intro s us ws _ h1 h2
  rcases hdf with ⟨_, rfl⟩ | ⟨q, _⟩
  · exact .of_eq (h kV doc pm' an cdv ct us ws h1 h2)
  · exact absurd rfl q
variable {X : Cx} {W : WX} {p pos : Pos} {e : Expr} {es : List Expr} {kws : List Keyword} {t tk' : TA} {g gk : AG}
theorem de_c (C : Cl X.prog X.w K X.mg X.base j x n G) (hr : Rg k X.A) (tk : Takes X W) (hk : j ≤ k) (hg : Gl X x) (ha : DA K X W false (e :: es) t g)
    (hdb : (x == ("__debug__" : Str)) = false := by decide) (he : starEach (e :: es) X.env = (false, eval e X.env) :: starEach es X.env := by rfl) (hpl : (backTo pos (starEach es X.env)).any (·.1) = false := by rfl) :
    DE K X W .st (.Call (.Name x p) (e :: es) [] pos) (tCallG (spD K n G) W t) (eFn n G g) := by
  obtain ⟨K0, T0, L0⟩ := K
  cases ha.hK
  obtain ⟨fd, ps, F, hm, kp, hb⟩ := C
  exact de_call F (hr.mono hk) tk hg hm kp hb ha hdb he hpl
theorem de_cK0 (C : ClK X.prog X.w K X.mg X.base j x n G 0 ks pm) (hr : Rg k X.A) (tk : Takes X W) (hk : j ≤ k) (hg : Gl X x) (hkw : DK K X W kws tk' gk) (hN : n = 0 + ks.length := by rfl)
    (hall : (backToKw pos (keywordEach kws X.env)).all (·.1.isSome) = true := by rfl) (hks : (backToKw pos (keywordEach kws X.env)).filterMap (·.1) = ks := by rfl)
    (hdb : (x == ("__debug__" : Str)) = false := by decide) (hpl : ((backTo pos (starEach [] X.env)).any (·.1) || (backToKw pos (keywordEach kws X.env)).any (·.1.isNone)) = false := by rfl) (hK : X.K = K.K := by rfl) : DE K X W .st (.Call (.Name x p) [] kws pos) (tCallGK (spD K n G) 0 ks.length pm W tNil tk') (eFnK 0 ks.length pm G aNil gk) := by
  obtain ⟨K0, T0, L0⟩ := K
  cases hK
  obtain ⟨fd, ps, F, hm, kp, hb⟩ := C
  exact de_callK0 F (hr.mono hk) tk hg hm kp hb hkw hN hall hks hdb hpl
end

/-! ### repr -/
mutual
theorem toP_noDict : ∀ d : D, d.toP.hasDict = false
  | .non => rfl
  | .bl _ => rfl
  | .int _ => rfl
  | .str _ => rfl
  | .lst xs => by simp only [D.toP, PyData.hasDict]; exact toPs_noDict xs
  | .tup xs => by simp only [D.toP, PyData.hasDict]; exact toPs_noDict xs
  | .well => rfl
  | .ty _ => rfl
  | .fn _ => rfl
  | .rng _ _ => rfl
  | .hol _ => rfl
  | .scr _ => rfl
  | .ob _ _ _ => rfl
  | .dci _ _ => rfl
  | .dct _ _ => rfl
  | .con xs => by simp only [D.toP, PyData.hasDict]; exact toPs_noDict xs
theorem toPs_noDict : ∀ ds : List D, PyData.hasDictAll (toPs ds) = false
  | [] => rfl
  | d :: ds => by simp only [toPs, PyData.hasDictAll, toP_noDict d, toPs_noDict ds, Bool.or_false]
end
section
variable {X : Cx} {W : WX} {K : Kt} {Kf : PySem.W.Frag} {s : Sg} {pos p : Pos} {a : Expr} {t : TA} {g : AG}
def rRepr (K : PySem.W.Frag) : List V → Hp → VK → Prop := fun xs H Q => ∃ v d, xs = [v] ∧ Dp K H v d ∧ d.showable = true ∧ d.hasDict = false ∧ d.shown.length ≤ sizeLine ∧ d.depth ≤ 60 ∧ Q (.str d.shown) H
theorem call_repr (hg : X.A.guards = some []) (hu : X.A.units + 65 < cLine) : CallR X (.builtin "repr") (rRepr X.K) := by
  intro pins s σ H xs us Q I r h
  obtain ⟨v, d, rfl, hd, hs, hn, hz, hdp, q⟩ := h
  obtain ⟨u, rfl, ru⟩ := vals1 r
  obtain ⟨as, rd⟩ := hd.reads I d v u ru
  have fin : ∀ tk u', EP X pins σ Q (.str d.shown u') { s with toks := tk } := fun tk u' => ⟨.str _, H, I.tok _, ⟨_, rfl⟩, q⟩
  cases hd with
  | non =>
    cases ru
    exact PySem.P.repr_of_none (fin _ _)
  | bl b =>
    cases ru
    exact PySem.P.repr_of_bool (fin _ _)
  | int i =>
    obtain ⟨tk, rfl⟩ := ru
    exact PySem.P.repr_of_int (of_decide_eq_true hs) (fin _ _)
  | str x =>
    obtain ⟨tk, rfl⟩ := ru
    exact PySem.P.repr_of_str (fin _ _) hz
  | @lst b xs ds h1 h2 =>
    cases ru
    exact repr_of_reads' rd hs (fun z => absurd (hn.symm.trans z) (by decide)) hg (by omega) (fun _ _ z => z) (fun h' u' tk hk => ⟨.str _, H, I.kept hk, ⟨_, rfl⟩, q⟩) hz
  | @tup b xs ds h1 h2 =>
    cases ru
    exact repr_of_reads' rd hs (fun z => absurd (hn.symm.trans z) (by decide)) hg (by omega) (fun _ _ z => z) (fun h' u' tk hk => ⟨.str _, H, I.kept hk, ⟨_, rfl⟩, q⟩) hz
theorem cs_repr : CS Kf .st (rRepr Kf) oRepr := cs_one fun aw F H Q E v d w go q hw => by
  simp only [oRepr1] at hw
  split at hw
  · rename_i hc
    simp only [Bool.and_eq_true, decide_eq_true_eq] at hc
    obtain ⟨⟨⟨h1, h2⟩, h3⟩, h4⟩ := hc
    exact ⟨v, d.toP, rfl, q.dp go.sub h1, h2, toP_noDict d, h3, h4, Wn.val hw go (.str _)⟩
  · exact hw.elim
theorem de_repr {k : Nat} (hr : Rg k X.A) (hg : Gl X "repr") (hm : X.mg "repr" = none) (ha : DA K X W true [a] t g) (he : starEach [a] X.env = (false, eval a X.env) :: starEach [] X.env := by rfl) (hpl : (backTo pos (starEach [] X.env)).any (·.1) = false := by rfl) :
    DE K X W .st (.Call (.Name "repr" p) [a] [] pos) (tCB (rRepr K) t) (eCall oRepr g) := by
  obtain ⟨K0, T0, L0⟩ := K
  cases ha.hK
  exact de_callB (call_repr hr.gd hr.u) cs_repr hg hm (by decide +kernel) ha (by decide) (by decide) he hpl
end
end DL

/-! DL, part k: the generator's own statement, code that is never reached, chains as tests, own comprehensions. -/
namespace DL
open PySem PySem.Spec L2
open PyProof.Rows hiding St

def sNever : SG := fun _ _ => .bad
/-- so many turns as the int at slot i, and one -/
def fuInt (i : Nat) : List Sl → Nat := fun en => match en[i]? with
  | some (.dat (.int n)) => n.toNat + 1
  | _ => 0
def rDivmod : List V → Hp → VK → Prop := fun xs H Q => ∃ i j, xs = [.int i, .int j] ∧ CDiv i j ∧ ∀ p, H p = none → Q (.ref p) (upd H p (.tup [.int (i / j), .int (i % j)]))
/-- x[k], y = divmod(a, b), x the generator -/
def sTake (i j : Nat) (gk ga gb : EG) : SG := fun en w => match en[i]? with
  | some (.dat .well) => (ga en w).thn en fun d w1 => (gb en w1).thn en fun e w2 => (match d, e with
    | .int a, .int b => if 0 < b ∧ b < 1073741824 then (gk en w2).thn en fun k w3 => (match k with
      | .int n => (match ixN w3.length n with
        | some jx => .nx (en.set j (.dat (.int (a % b)))) (w3.set jx (a / b))
        | none => .bad)
      | _ => .bad) else .bad
    | _, _ => .bad)
  | _ => .bad
section
variable {X : Cx} {W : WX} {K : Kt} {Kf : PySem.W.Frag} {s s1 s2 s3 : Sg} {pos p : Pos} {a b c e : Expr} {es : List Expr} {t : TA} {g : AG} {ta tb tc : TE} {ga gb gc : EG} {st : Stmt} {sts : List Stmt} {x y : Str}
theorem ds_never : DS K X W st tNever sNever := ⟨ps_never, fun f en w σ F H Dn o h => h.elim⟩
/-- x[k], y = divmod(a, b) -/
theorem ds_take (i j : Nat) {kx : Expr} {tk : TE} {gk : EG} {px p2 py pt pd pc : Pos} {kt} (hN : X.N.Nodup) (hc : X.calm = true) (hg : Gl X "divmod") (hm : X.mg "divmod" = none) (hk : DE K X W s3 kx tk gk) (ha : DE K X W s1 a ta ga) (hb : DE K X W s2 b tb gb)
    (hi : X.N[i]? = some x := by rfl) (hv : Vis X.env.scope x := by first | exact Or.inl rfl | exact Or.inr (Or.inl rfl) | exact Or.inr (Or.inr rfl)) (hd : (x == ("__debug__" : Str)) = false := by decide) (hcd : (x == ("__classdict__" : Str)) = false := by decide)
    (hj : X.N[j]? = some y := by rfl) (hy : Loc X.env.scope y := by first | exact Or.inl rfl | exact Or.inr rfl) (hf : X.fn y = true ∨ X.env.scope.names.lookup y = some .local := by first | exact .inl rfl | exact .inr rfl)
    (he : starEach [a, b] X.env = (false, eval a X.env) :: starEach [b] X.env := by rfl) (he2 : starEach [b] X.env = (false, eval b X.env) :: starEach [] X.env := by rfl) (hpl : (backTo pc (starEach [b] X.env)).any (·.1) = false := by rfl)
    (has : ∀ v, assign (.Subscript (.Name x px) kx p2) X.env v = (do
      let ov ← holding [v] (eval (.Name x px) X.env)
      let iv ← holding [v, ov] (eval kx X.env)
      standAt p2
      holding [v, ov, iv] (setItem ov iv v)
      release [v, ov, iv] []) := by intro _; rfl)
    (hs1 : (assignEach [.Subscript (.Name x px) kx p2, .Name y py] X.env).map (·.2) = assign (.Subscript (.Name x px) kx p2) X.env :: (assignEach [.Name y py] X.env).map (·.2) := by rfl)
    (hs2 : (assignEach [.Name y py] X.env).map (·.2) = assign (.Name y py) X.env :: (assignEach [] X.env).map (·.2) := by rfl)
    (hn : (assignEach [.Subscript (.Name x px) kx p2, .Name y py] X.env).length = 2 := by rfl) (hst : (assignEach [.Subscript (.Name x px) kx p2, .Name y py] X.env).findIdx? (·.1) = none := by rfl)
    (hsw : swapsWithSole [.Tuple [.Subscript (.Name x px) kx p2, .Name y py] kt pt] (.Call (.Name "divmod" pd) [a, b] [] pc) pos.line X.env = pure false := by rfl)
    (hw : swappedStores [.Tuple [.Subscript (.Name x px) kx p2, .Name y py] kt pt] (.Call (.Name "divmod" pd) [a, b] [] pc) X.env = pure none := by rfl)
    (h1 : (assignEach [.Tuple [.Subscript (.Name x px) kx p2, .Name y py] kt pt] X.env).map (·.2) = [assign (.Tuple [.Subscript (.Name x px) kx p2, .Name y py] kt pt) X.env] := by rfl) :
    DS K X W (.Assign [.Tuple [.Subscript (.Name x px) kx p2, .Name y py] kt pt] (.Call (.Name "divmod" pd) [a, b] [] pc) pos)
      (tAsg (tCB rDivmod (tCons ta (tCons tb tNil))) (gTup K 2 (gCons (gSub (tVar i) tk rSetL) (gCons (gName j) gNil)))) (sTake i j gk ga gb) := by
  obtain ⟨K0, T0, L0⟩ := K
  cases hk.hK
  refine ⟨ps_asg (pe_callB call_divmod hg hm (by decide +kernel) (pa_cons ha.pe (pa_cons hb.pe pa_nil he2) he) (by decide) (by decide) he hpl)
    (pg_tup hc (pgs_cons (pg_sub (pe_var hi hv hd hcd) hk.pe set_list has) (pgs_cons (pg_name hN hj hy hf) pgs_nil hs2) hs1) hn hst) hsw hw h1, fun f en w σ F H Dn o h => ?_⟩
  unfold sTake at h
  cases q : en[i]? with
  | none => rw [q] at h; exact h.elim
  | some sl =>
    cases sl with
    | non => rw [q] at h; exact h.elim
    | hol => rw [q] at h; exact h.elim
    | dic _ => rw [q] at h; exact h.elim
    | own ds => rw [q] at h; exact h.elim
    | dat dd =>
      cases dd <;> first
        | (rw [q] at h; exact h.elim)
        | skip
      rw [q] at h
      dsimp only at h
      refine es_thn (s := .wk) (R := fun v H1 => tb σ H1 fun u H2 => rDivmod [v, u] H2 fun z H3 => gTup X.K 2 (gCons (gSub (tVar i) tk rSetL) (gCons (gName j) gNil)) z σ H3 Dn.nx) ha.es.toWk o h fun d w1 v F1 H1 g1 o1 r1 h1' => ?_
      refine es_thn (s := .wk) (R := fun u H2 => rDivmod [v, u] H2 fun z H3 => gTup X.K 2 (gCons (gSub (tVar i) tk rSetL) (gCons (gName j) gNil)) z σ H3 Dn.nx) hb.es.toWk o1 h1' fun e' w2 u F2 H2 g2 o2 r2 h2' => ?_
      cases d <;> cases e' <;> first
        | exact h2'.elim
        | skip
      rename_i m n
      have e1 := (Dq.go (show Dq _ f.aw F1 H1 v (.int m) from r1) g2).int
      have e2 := (show Dq _ f.aw F2 H2 u (.int n) from r2).int
      subst e1 e2
      dsimp only at h2'
      split at h2'
      · rename_i hcd'
        refine ⟨m, n, rfl, hcd', fun pp hpp => ?_⟩
        have o3 : Ok _ f en w2 σ (upd F2 pp (.tup [.int (m / n), .int (m % n)])) (upd H2 pp (.tup [.int (m / n), .int (m % n)])) := o2.step (o2.here.new hpp _)
        refine ⟨pp, _, rfl, .inl (.inl upd_same), rfl, _, _, rfl, ?_⟩
        obtain ⟨uu, eu, ru⟩ := o3.dat i _ q
        obtain ⟨qa, hqa, rfl⟩ := Dq.well (F := upd F2 pp (.tup [.int (m / n), .int (m % n)])) (H := upd H2 pp (.tup [.int (m / n), .int (m % n)])) (.inl ru)
        refine ⟨_, eu, ?_⟩
        refine es_thn (s := .wk) (R := fun iv H4 => rSetL (.ref qa) iv (.int (m / n)) H4 fun H5 => gCons (gName j) gNil [.int (m % n)] σ H5 Dn.nx) hk.es.toWk o3 h2' fun kd w3 iv F4 H4 g4 o4 r4 h4 => ?_
        cases kd <;> first
          | exact h4.elim
          | skip
        rename_i ki
        have e4 := (show Dq _ f.aw F4 H4 iv (.int ki) from r4).int
        subst e4
        dsimp only at h4
        cases z : ixN w3.length ki with
        | none => rw [z] at h4; exact h4.elim
        | some jx =>
          rw [z] at h4
          refine ⟨qa, w3.map V.int, ki, jx, rfl, rfl, o4.go.wl _ hqa, by rw [List.length_map]; exact z, ?_⟩
          refine ⟨_, _, rfl, rfl, ?_⟩
          have o5 := (o4.turn hqa (w3.set jx (m / n))).setDat (i := j) (v := .int (m % n)) (d := .int (m % n)) (.int _)
          have fin := h4 _ _ _ o5
          rw [List.map_set] at fin
          exact fin
      · exact h2'.elim
end
end DL

/-! DL, part m: enumerate of tuples, zip. -/
namespace DL
open PySem PySem.Spec L2
open PyProof.Rows hiding St
open PySem.AutoSeq1 (wpAny_loadPart')
/-! ### enumerate(tuple) -/
theorem mk_enumT (tp : Addr) (zs : Array Value) (m : Nat) (dc : Option Addr) (sl : Array (Option Value)) :
    Meets (Builtin.«enumerate.__new__» ⟨[.type "enumerate", .ref tp], []⟩) (fun _ R s =>
      s.heap.get? tp = some { cls := .type "tuple", dict := dc, data := .seq zs m, slots := sl } ∧ R (.ok (.ret (.ref (s.heap.push { cls := .type "tuple_iterator", data := .fields #[.ref tp, .int 0 0] }).objs.size)))
        { s with heap := (s.heap.push { cls := .type "tuple_iterator", data := .fields #[.ref tp, .int 0 0] }).push { cls := .type "enumerate", data := .fields #[.none, .bool false, .ref s.heap.objs.size, rawInt 0, .none, .none] } }) :=
  .of_wp fun prog w A R s h => by
    obtain ⟨hp, g, d, tk, os⟩ := s
    obtain ⟨ht, h⟩ := h
    have hs := sub_enumerate
    have hT : Heap.IsTuple (Shared.heap ⟨hp, g, d, tk, os⟩) tp zs := ⟨_, ht, rfl, m, rfl⟩
    wp_walk using wpAny_loadPart' ht
    refine wpAny_stack_any fun st => wpAny_pure ?_
    split
    · rename_i c _ _ _ _ _
      cases c == Value.type "enumerate" <;>
        (wp_walk using wpAny_loadPart' ht, wpAny_pyIter_tuple hT
         exact ⟨_, rfl, h⟩)
    · wp_walk using wpAny_loadPart' ht, wpAny_pyIter_tuple hT
      exact ⟨_, rfl, h⟩
theorem call_enumT {prog : Program} {w : World} {A : Around} {E : Value → Shared → Prop} {s : Shared} {tp : Addr} {zs : Array Value} {Q : Value → Shared → Prop} (hT : s.heap.IsTuple tp zs)
    (h : ∀ h2, IsEnum h2 (s.heap.objs.size + 1) s.heap.objs.size 0 .none → h2.IsTupleIter s.heap.objs.size tp 0 →
      (∀ b o, s.heap.get? b = some o → h2.get? b = some o) → Q (.ref (s.heap.objs.size + 1)) { s with heap := h2 }) : wpAny (model prog w) A (call (.type "enumerate") [.ref tp]) Q E s := by
  obtain ⟨⟨cl, dc, dt, sl⟩, ht, hc, m, hd⟩ := hT
  cases (show cl = .type "tuple" from hc)
  cases (show dt = .seq zs m from hd)
  refine callType_new F.called_enumerate (by decide) (F.typeCall_enumerate_1 _) (F.newCall_enumerate_1 _) (fun ob => F.args_object_init_2 ob _) F.entry_enumerate_new (mk_enumT tp zs m dc sl) ⟨ht, ?_⟩
  generalize hg : s.heap.push { cls := .type "tuple_iterator", data := .fields #[.ref tp, .int 0 0] } = g1
  have hz : g1.objs.size = s.heap.objs.size + 1 := by rw [← hg]; exact Heap.size_push ..
  show _ ∧ _
  rw [hz]
  have he := Heap.get?_push_size g1 (o := { cls := .type "enumerate", data := .fields #[.none, .bool false, .ref s.heap.objs.size, rawInt 0, .none, .none] }) rfl
  rw [hz] at he
  have hi : g1.get? s.heap.objs.size = some { cls := .type "tuple_iterator", data := .fields #[.ref tp, .int 0 0] } := by
    rw [← hg]
    exact Heap.get?_push_size s.heap rfl
  exact ⟨⟨_, he, rfl⟩, h _ he ⟨_, Heap.get?_push_of_some _ hi, rfl, rfl⟩ fun b o x => Heap.get?_push_of_some _ (by rw [← hg]; exact Heap.get?_push_of_some _ x)⟩
/-- the tuple at a, each item in a new pair with its place -/
def IteT (K : PySem.W.Frag) (a : Addr) : It where
  go i H := ∃ (zs : List V) (z : V), SqT K H a zs ∧ zs[i]? = some z
  yld i H v H' := ∃ q z, v = .ref q ∧ H q = none ∧ H' = upd H q (.tup [.int (i : Nat), z]) ∧ ∀ zs, SqT K H a zs → zs[i]? = some z
  stop i H := ∃ zs : List V, SqT K H a zs ∧ zs.length ≤ i
theorem turn_enumT {P : Program} {w : World} {K : PySem.W.Frag} {elts : List Expr} {kk : Nat} {tpos : Pos} (a e it : Addr) :
    Turn P w K (.Tuple elts kk tpos) (IteT K a) [e, it] e (fun i h => (∃ old, IsEnum h e it (i : Nat) old) ∧ h.IsTupleIter it a i ∧ e ≠ it) := by
  constructor
  case mem => exact List.mem_cons_self
  case obj =>
    intro i h st b hb
    obtain ⟨⟨old, he⟩, ⟨o, ho, _, hd⟩, _⟩ := st
    rcases List.mem_cons.mp hb with rfl | hb
    · exact ⟨_, he, fun v q => nomatch q⟩
    · cases List.mem_singleton.mp hb
      exact ⟨o, ho, fun v q => by rw [hd] at q; cases q⟩
  case keep =>
    intro i h h' st k
    obtain ⟨⟨old, he⟩, hi, ne⟩ := st
    exact ⟨⟨old, k e List.mem_cons_self _ he⟩, hi.at fun o q => k it (List.mem_cons_of_mem _ List.mem_cons_self) o q, ne⟩
  case item =>
    intro X hP hw hK hc i pins s σ H E I hf st hg
    subst hP hw hK
    obtain ⟨⟨old, he⟩, hit, ne⟩ := st
    obtain ⟨zs, z, hq, hz⟩ := hg
    obtain ⟨its, rv, p, _⟩ := I.tuple hq
    obtain ⟨u, hu, ru⟩ := rv.get hz
    have hi : i < its.toArray.size := by
      have := (List.getElem?_eq_some_iff.mp hu).1
      simpa using this
    have le : e < s.heap.objs.size := Heap.lt_size he
    have li : it < s.heap.objs.size := by
      obtain ⟨_, q, _⟩ := hit
      exact Heap.lt_size q
    have ea : e ≠ a := fun y => by
      obtain ⟨o, ho, hcl, _⟩ := p
      rw [← y, he] at ho
      cases ho
      injection hcl with hcl
      exact absurd hcl (by decide)
    have ai : a ≠ it := fun y => by
      obtain ⟨o, ho, hcl, _⟩ := p
      obtain ⟨o2, ho2, hcl2, _⟩ := hit
      rw [y, ho2] at ho
      cases ho
      rw [hcl] at hcl2
      injection hcl2 with hcl2
      exact absurd hcl2 (by decide)
    refine wpAny_pyNext_enum_itemD (Draws.tuple (show X.A.in1.handled = none from I.ok.hd hc) it a ai its.toArray) he ⟨hit, p⟩ hi ne (by simp [ne, ea]) fun x h2 tk hx ho st2 hT hsz hk => ?_
    have ex : x = u := by
      have hx' : its[i]? = some x := by simpa using hx
      rw [hu] at hx'
      exact (Option.some.inj hx').symm
    subst ex
    refine ⟨_, rfl, wpAny_letOwnedTupleGo_enum (s := { s with heap := h2, toks := tk + 1 }) ho fun h3 he3 sb => ?_⟩
    have hT3 : h3.get? s.heap.objs.size = some { cls := .type "tuple", data := .seq #[.int i tk, x] } := (sb.2 _ (Nat.ne_of_gt le)).trans hT
    have nw : ObjOk X.prog X.w (upd H s.heap.objs.size (.tup [.int (i : Nat), z])) h3 s.heap.objs.size (.tup [.int (i : Nat), z]) :=
      ⟨show 2 ≤ sizeLine by decide, [.int i tk, x], .cons ⟨_, rfl⟩ (.cons ru .nil), ⟨_, hT3, rfl, _, rfl⟩⟩
    have I1 := I.turnedNew (t' := tk + 1) (ch := [e, it]) (h' := h3) (fun b ob hb q => (sb.2 b fun y => hb (by simp [y])).trans (hk b ob (fun y => hb (by simp [y])) (fun y => hb (by simp [y])) q)) hf (Nat.le_refl _) nw
    refine ⟨.ref s.heap.objs.size, _, I1, rfl, ⟨_, z, rfl, I.hok.fresh (Nat.le_refl _), rfl, fun ys hy => by rw [I.tuple_inj hy hq]; exact hz⟩, ⟨⟨x, ?_⟩, st2.1.at fun o q => (sb.2 it ne.symm).trans q, ne⟩, fun b hb => ?_⟩
    · rw [show ((i + 1 : Nat) : Int) = (i : Int) + 1 by omega]
      exact he3
    · have lb : b < s.heap.objs.size := by
        rcases List.mem_cons.mp hb with y | hb
        · rw [y]; exact le
        · rw [List.mem_singleton.mp hb]; exact li
      rw [upd_ne (Nat.ne_of_lt lb)]
      exact (hf b hb).1
  case done =>
    intro X hP hw hK hc i pins s σ H E I hf st hg
    subst hP hw hK
    obtain ⟨⟨old, he⟩, hit, ne⟩ := st
    obtain ⟨zs, hq, hz⟩ := hg
    obtain ⟨its, rv, p, _⟩ := I.tuple hq
    obtain ⟨f0, f1, f2, f3, f4, f5⟩ := hf it (by simp)
    have hl := rv.length
    have hT : s.TypeIs (.ref e) "enumerate" := ⟨_, he, rfl⟩
    unfold pyNext
    refine wpAny_bind (wpAny_attempt (wpAny_callSpecial?_slot (name := Str.ofString "__next__") hT F.slot_enumerate_next (wpAny_call_entry F.slot_enumerate_next hT F.entry_enumerate_next ?_ (F.args_enumerate_next_1 _))))
    show wpAny _ _ (field (.ref e) 2 >>= _) _ _ _
    refine wpAny_bind (wpAny_field he rfl (x := .ref it) rfl ?_)
    refine wpAny_bind (wpAny_nextOf_tuple_end (show X.A.in1.handled = none from I.ok.hd hc) hit (show s.heap.IsTuple a its.toArray from p) (by simp; omega) fun h2 x eb ⟨o, ho, hcl⟩ => ?_)
    exact wpAny_bind (wpAny_isInstance (T := "StopIteration") (b := true) ⟨o, ho, hcl⟩ isSubtype_stop (wpAny_pure ⟨rfl, I.turned (t' := s.toks) (fun b o hb q => eb b o hb q) f0 f1 f3 f4 f5⟩))
  case self => exact fun A i s Q E st h => let ⟨⟨_, he⟩, _⟩ := st; wpAny_pyIter_enum he h
def iEnumT (K : PySem.W.Frag) (ta : TA) : TI := fun σ H R => ta σ H fun vs H1 => ∃ a zs, vs = [.ref a] ∧ SqT K H1 a zs ∧ R (IteT K a) H1
theorem pi_enumT {X : Cx} {e : Expr} {ta : TA} {p pos tpos : Pos} {elts : List Expr} {kk : Nat} (hg : Gl X "enumerate") (hm : X.mg "enumerate" = none) (ha : PA X [e] ta) (hs : starEach [e] X.env = [(false, eval e X.env)] := by rfl) :
    PI X (.Tuple elts kk tpos) (.Call (.Name "enumerate" p) [e] [] pos) (iEnumT X.K ta) := by
  refine ⟨fun pins s σ H R I h => Call_ (ld_blt I hg hm boot_enumerate (PyProof.Rows.callWith_type1 (thn (ha.run pos pins s σ H _ I h) fun us s1 ⟨vs, H1, I1, r1, a, zs, ez, hq, q⟩ => ?_) hs rfl))⟩
  subst ez
  cases r1 with
  | cons r rr =>
    cases rr
    cases r
    obtain ⟨its, rv, p', _⟩ := I1.tuple hq
    refine call_enumT (show s1.heap.IsTuple a its.toArray from p') fun h2 he hit hk => wpAny_pyIter_enum he ?_
    refine ⟨s1.heap.objs.size + 1, [s1.heap.objs.size + 1, s1.heap.objs.size], _, _, H1, rfl, I1.kept (t' := s1.toks) hk, turn_enumT a (s1.heap.objs.size + 1) s1.heap.objs.size, ⟨⟨.none, he⟩, hit, Nat.succ_ne_self _⟩, fun b hb => ?_, q⟩
    have hle : s1.heap.objs.size ≤ b := by
      rcases List.mem_cons.mp hb with y | hb
      · rw [y]; exact Nat.le_succ _
      · rw [List.mem_singleton.mp hb]; exact Nat.le_refl _
    exact I1.fpOk hle (I1.hok.fresh hle)
end DL

/-! DL, part n: enumerate and zip, over data. -/
namespace DL
open PySem PySem.Spec L2
open PyProof.Rows hiding St
/-- the pairs of place and item -/
def pairsI (ds : List D) : List D := ds.mapIdx fun i d => .tup [.int i, d]
def pairsZ (ds es : List D) : List D := List.zipWith (fun d e => .tup [d, e]) ds es
def gEnum (g : AG) : AG := fun en w => match g en w with
  | .ok [.lst ds] w1 => .ok (pairsI ds) w1
  | .ok [.tup ds] w1 => .ok (pairsI ds) w1
  | .ok _ _ => .bad
  | .ex c fn a w1 => .ex c fn a w1
  | .bad => .bad
def gZip (g : AG) : AG := fun en w => match g en w with
  | .ok [.lst ds, .lst es] w1 => .ok (pairsZ ds es) w1
  | .ok [.tup ds, .tup es] w1 => .ok (pairsZ ds es) w1
  | .ok _ _ => .bad
  | .ex c fn a w1 => .ex c fn a w1
  | .bad => .bad
section
variable {X : Cx} {W : WX} {K : Kt} {Kf : PySem.W.Frag} {b bb : Bool} {pos p tpos : Pos} {a e : Expr} {elts : List Expr} {kk : Nat} {tA : TA} {gA : AG} {aw : Bs} {q r : Addr} {F1 H1 F H : Hp} {vs us : List V} {ds es : List D} {w : Wl} {v : V} {d : D}
/-- a list that stays while it is walked -/
def StayL (K : PySem.W.Frag) (bb : Bool) (aw : Bs) (q : Addr) (F1 H1 : Hp) (vs : List V) : Prop := ∀ F H, Stay bb aw F1 H1 F H → Same F H → H q = some (.lst vs)
theorem pairsI_get {i : Nat} (h : (pairsI ds)[i]? = some d) : ∃ d0, ds[i]? = some d0 ∧ d = .tup [.int i, d0] := by
  unfold pairsI at h
  rw [List.getElem?_mapIdx] at h
  cases z : ds[i]? with
  | none => rw [z] at h; cases h
  | some d0 =>
    rw [z] at h
    cases h
    exact ⟨d0, rfl, rfl⟩
theorem pairsZ_get {i : Nat} (h : (pairsZ ds es)[i]? = some d) : ∃ d0 e0, ds[i]? = some d0 ∧ es[i]? = some e0 ∧ d = .tup [d0, e0] := by
  unfold pairsZ at h
  rw [List.getElem?_zipWith] at h
  split at h
  · rename_i a b h1 h2
    cases h
    exact ⟨a, b, h1, h2, rfl⟩
  · cases h
theorem pairI_go {i : Nat} {x : V} {H2 : Hp} {z : V} {d0 : D} (go : Go aw F H F H w) (hT : H q = none) (r : Dv Kf aw F z d0) : Go aw F H (upd F q (.tup [.int (i : Nat), z])) (upd H q (.tup [.int (i : Nat), z])) w ∧ Dv Kf aw (upd F q (.tup [.int (i : Nat), z])) (.ref q) (.tup [.int i, d0]) :=
  ⟨go.new hT _, .tup upd_same (.cons (.int _) (.cons (r.mono (same_upd2 (go.free hT))) .nil))⟩
theorem pairZ_go {y z : V} {d0 e0 : D} (go : Go aw F H F H w) (hT : H q = none) (r0 : Dv Kf aw F y d0) (r : Dv Kf aw F z e0) : Go aw F H (upd F q (.tup [y, z])) (upd H q (.tup [y, z])) w ∧ Dv Kf aw (upd F q (.tup [y, z])) (.ref q) (.tup [d0, e0]) :=
  ⟨go.new hT _, .tup upd_same (.cons (r0.mono (same_upd2 (go.free hT))) (.cons (r.mono (same_upd2 (go.free hT))) .nil))⟩
theorem walks_enumL (hv : StayL Kf bb aw q F1 H1 vs) (dv : DvAll Kf aw F1 vs ds) : Walks Kf aw (Ite Kf q) (pairsI ds) (Stay bb aw F1 H1) := by
  intro i w F H hp go
  have h1 := hv F H hp go.sub
  have hl : (pairsI ds).length = ds.length := by simp [pairsI]
  refine ⟨fun d hd => ?_, fun hi => ⟨vs, .inl (.inl h1), by rw [dv.length, ← hl]; exact hi⟩⟩
  obtain ⟨d0, hd0, rfl⟩ := pairsI_get hd
  obtain ⟨v, e, r⟩ := dv.get hd0
  refine ⟨⟨vs, v, .inl (.inl h1), e⟩, ?_⟩
  rintro x H' ⟨T, z, rfl, hT, rfl, hx⟩
  have e2 := hx vs (.inl (.inl h1))
  rw [e] at e2
  cases e2
  exact ⟨_, pairI_go (x := .non) (H2 := H) go hT (r.mono hp.1)⟩
theorem walks_enumT (hv : SqT Kf F1 q vs) (dv : DvAll Kf aw F1 vs ds) : Walks Kf aw (IteT Kf q) (pairsI ds) (Stay bb aw F1 H1) := by
  intro i w F H hp go
  have h1 := sqT_same (hp.1.trans go.sub) hv
  have hl : (pairsI ds).length = ds.length := by simp [pairsI]
  refine ⟨fun d hd => ?_, fun hi => ⟨vs, h1, by rw [dv.length, ← hl]; exact hi⟩⟩
  obtain ⟨d0, hd0, rfl⟩ := pairsI_get hd
  obtain ⟨v, e, r⟩ := dv.get hd0
  refine ⟨⟨vs, v, h1, e⟩, ?_⟩
  rintro x H' ⟨T, z, rfl, hT, rfl, hx⟩
  have e2 := hx vs h1
  rw [e] at e2
  cases e2
  exact ⟨_, pairI_go (x := .non) (H2 := H) go hT (r.mono hp.1)⟩
theorem pairsZ_length : (pairsZ ds es).length = min ds.length es.length := by simp [pairsZ]
theorem walks_zipL (hv : StayL Kf bb aw q F1 H1 vs) (hu : StayL Kf bb aw r F1 H1 us) (dv : DvAll Kf aw F1 vs ds) (du : DvAll Kf aw F1 us es) : Walks Kf aw (Itz Kf q r) (pairsZ ds es) (Stay bb aw F1 H1) := by
  intro i w F H hp go
  have h1 := hv F H hp go.sub
  have h2 := hu F H hp go.sub
  have hl := pairsZ_length (ds := ds) (es := es)
  have l1 := dv.length
  have l2 := du.length
  refine ⟨fun d hd => ?_, fun hi => ⟨vs, us, .inl (.inl h1), .inl (.inl h2), by omega⟩⟩
  obtain ⟨d0, e0, hd0, he0, rfl⟩ := pairsZ_get hd
  obtain ⟨v, e, rv⟩ := dv.get hd0
  obtain ⟨u, e', ru⟩ := du.get he0
  refine ⟨⟨vs, us, v, u, .inl (.inl h1), .inl (.inl h2), e, e'⟩, ?_⟩
  rintro x H' ⟨T, y, z, rfl, hT, rfl, hx, hy⟩
  have e2 := hx vs (.inl (.inl h1))
  have e3 := hy us (.inl (.inl h2))
  rw [e] at e2
  rw [e'] at e3
  cases e2
  cases e3
  exact ⟨_, pairZ_go go hT (rv.mono hp.1) (ru.mono hp.1)⟩
theorem walks_zipT (hv : SqT Kf F1 q vs) (hu : SqT Kf F1 r us) (dv : DvAll Kf aw F1 vs ds) (du : DvAll Kf aw F1 us es) : Walks Kf aw (RZ.ItzT Kf q r) (pairsZ ds es) (Stay bb aw F1 H1) := by
  intro i w F H hp go
  have h1 := sqT_same (hp.1.trans go.sub) hv
  have h2 := sqT_same (hp.1.trans go.sub) hu
  have hl := pairsZ_length (ds := ds) (es := es)
  have l1 := dv.length
  have l2 := du.length
  refine ⟨fun d hd => ?_, fun hi => ⟨vs, us, h1, h2, by omega⟩⟩
  obtain ⟨d0, e0, hd0, he0, rfl⟩ := pairsZ_get hd
  obtain ⟨v, e, rv⟩ := dv.get hd0
  obtain ⟨u, e', ru⟩ := du.get he0
  refine ⟨⟨vs, us, v, u, h1, h2, e, e'⟩, ?_⟩
  rintro x H' ⟨T, y, z, rfl, hT, rfl, hx, hy⟩
  have e2 := hx vs h1
  have e3 := hy us h2
  rw [e] at e2
  rw [e'] at e3
  cases e2
  cases e3
  exact ⟨_, pairZ_go go hT (rv.mono hp.1) (ru.mono hp.1)⟩
/-- an argument that is a list and stays -/
theorem stayL_of (hb : b = false ∨ bb = true) (go : Go aw F1 H1 F1 H1 w) (h : RlA b Kf aw F1 H1 [v] [.lst ds]) : ∃ q vs, v = .ref q ∧ H1 q = some (.lst vs) ∧ StayL Kf bb aw q F1 H1 vs ∧ DvAll Kf aw F1 vs ds := by
  have dvc : Dv Kf aw F1 v (.lst ds) → ∃ q vs, v = .ref q ∧ H1 q = some (.lst vs) ∧ StayL Kf bb aw q F1 H1 vs ∧ DvAll Kf aw F1 vs ds := fun z => by
    cases z with
    | lst h1 h2 => exact ⟨_, _, rfl, go.sub _ _ h1, fun F' H' st s' => s' _ _ (st.1 _ _ h1), h2⟩
  cases b with
  | false =>
    have h' : DvAll Kf aw F1 [v] [.lst ds] := h
    cases h' with
    | cons z _ => exact dvc z
  | true =>
    have hb' : bb = true := hb.resolve_left (fun z => nomatch z)
    have h' : DqAll Kf aw F1 H1 [v] [.lst ds] := h
    cases h' with
    | cons z _ =>
      rcases z with z | ⟨ds', q, vs, e1, e2, n, h1, r⟩
      · exact dvc z
      · cases e1
        exact ⟨q, vs, e2, h1, fun F' H' st s' => st.2 hb' q _ n h1, r⟩
theorem rla_head {x : V} {xs : List V} {y : D} {ys : List D} (h : RlA b Kf aw F1 H1 (x :: xs) (y :: ys)) : RlA b Kf aw F1 H1 [x] [y] ∧ RlA b Kf aw F1 H1 xs ys := by
  cases b with
  | false =>
    have h' : DvAll Kf aw F1 (x :: xs) (y :: ys) := h
    cases h' with
    | cons z r => exact ⟨DvAll.one z, r⟩
  | true =>
    have h' : DqAll Kf aw F1 H1 (x :: xs) (y :: ys) := h
    cases h' with
    | cons z r => exact ⟨DqAll.cons z .nil, r⟩
theorem rla_one {xs : List V} {y : D} (h : RlA b Kf aw F1 H1 xs [y]) : ∃ x, xs = [x] := by
  cases b with
  | false =>
    have h' : DvAll Kf aw F1 xs [y] := h
    cases h' with
    | cons z r => cases r; exact ⟨_, rfl⟩
  | true =>
    have h' : DqAll Kf aw F1 H1 xs [y] := h
    cases h' with
    | cons z r => cases r; exact ⟨_, rfl⟩
theorem rla_two {xs : List V} {y z : D} (h : RlA b Kf aw F1 H1 xs [y, z]) : ∃ x u, xs = [x, u] := by
  cases xs with
  | nil => cases b <;> cases (show _ from h)
  | cons x xs =>
    obtain ⟨u, e⟩ := rla_one (rla_head h).2
    exact ⟨x, u, by rw [e]⟩
theorem rla_tup (h : RlA b Kf aw F1 H1 [v] [.tup ds]) : ∃ q vs, v = .ref q ∧ SqT Kf F1 q vs ∧ DvAll Kf aw F1 vs ds := by
  have dvc : Dv Kf aw F1 v (.tup ds) → ∃ q vs, v = .ref q ∧ SqT Kf F1 q vs ∧ DvAll Kf aw F1 vs ds := fun z => by
    cases z with
    | tup h1 h2 => exact ⟨_, _, rfl, SqT.of h1, h2⟩
  cases b with
  | false =>
    have h' : DvAll Kf aw F1 [v] [.tup ds] := h
    cases h' with
    | cons z _ => exact dvc z
  | true =>
    have h' : DqAll Kf aw F1 H1 [v] [.tup ds] := h
    cases h' with
    | cons z _ =>
      rcases z with z | ⟨ds', q, vs, e1, _⟩
      · exact dvc z
      · cases e1
theorem di_enum (hg : Gl X "enumerate") (hm : X.mg "enumerate" = none) (ha : DA K X W b [e] tA gA) (hb : b = false ∨ bb = true := by first | exact .inl rfl | exact .inr rfl) (hs : starEach [e] X.env = [(false, eval e X.env)] := by rfl) :
    DI K X W bb (.Tuple elts kk tpos) (.Call (.Name "enumerate" p) [e] [] pos) (fun σ H R => iEnum K tA σ H R ∨ iEnumT K tA σ H R) (gEnum gA) := by
  obtain ⟨K0, T0, L0⟩ := K
  cases ha.hK
  refine ⟨rfl, pi_or (pi_enum hg hm ha.pa hs) (pi_enumT hg hm ha.pa hs), fun f en w σ F H R o h => ?_⟩
  unfold gEnum at h
  cases z : gA en w with
  | bad => rw [z] at h; exact h.elim
  | ex c fn a w1 =>
    rw [z] at h
    exact .inl (ha.es f en w σ F H _ o (by rw [z]; exact h))
  | ok ds w1 =>
    rw [z] at h
    split at h
    · rename_i xs w2 hz
      cases hz
      refine .inl (ha.es f en w σ F H _ o ?_)
      rw [z]
      intro vs F' H' g r
      obtain ⟨x, rfl⟩ := rla_one r
      obtain ⟨q, us, rfl, h1, st, dv⟩ := stayL_of hb g.here r
      exact ⟨q, us, rfl, .inl (.inl h1), h _ F' H' g (walks_enumL st dv)⟩
    · rename_i xs w2 hz
      cases hz
      refine .inr (ha.es f en w σ F H _ o ?_)
      rw [z]
      intro vs F' H' g r
      obtain ⟨x, rfl⟩ := rla_one r
      obtain ⟨q, us, rfl, h1, dv⟩ := rla_tup r
      exact ⟨q, us, rfl, sqT_same g.sub h1, h _ F' H' g (walks_enumT h1 dv)⟩
    · exact h.elim
    · rename_i hz; cases hz
    · exact h.elim
theorem di_zip (hg : Gl X "zip") (hm : X.mg "zip" = none) (ha : DA K X W b [a, e] tA gA) (hb : b = false ∨ bb = true := by first | exact .inl rfl | exact .inr rfl)
    (hs : starEach [a, e] X.env = (false, eval a X.env) :: starEach [e] X.env := by rfl) (hpl : (backTo pos (starEach [e] X.env)).any (·.1) = false := by rfl) :
    DI K X W bb (.Tuple elts kk tpos) (.Call (.Name "zip" p) [a, e] [] pos) (RZ.iZipA K tA) (gZip gA) := by
  obtain ⟨K0, T0, L0⟩ := K
  cases ha.hK
  refine ⟨rfl, RZ.pi_zipA hg hm ha.pa hs hpl, fun f en w σ F H R o h => ?_⟩
  refine ha.es f en w σ F H _ o ?_
  unfold gZip at h
  cases z : gA en w with
  | bad => rw [z] at h; exact h
  | ex c fn a w1 => rw [z] at h; exact h
  | ok ds w1 =>
    rw [z] at h
    intro vs F' H' g r
    split at h
    · rename_i xs ys w2 hz
      cases hz
      obtain ⟨x, y, rfl⟩ := rla_two r
      obtain ⟨r1, r2⟩ := rla_head r
      obtain ⟨q, us, rfl, h1, st, dv⟩ := stayL_of hb g.here r1
      obtain ⟨q2, us2, rfl, h2, st2, dv2⟩ := stayL_of hb g.here r2
      exact ⟨q, q2, us, us2, rfl, .inl ⟨.inl (.inl h1), .inl (.inl h2), h _ F' H' g (walks_zipL st st2 dv dv2)⟩⟩
    · rename_i xs ys w2 hz
      cases hz
      obtain ⟨x, y, rfl⟩ := rla_two r
      obtain ⟨r1, r2⟩ := rla_head r
      obtain ⟨q, us, rfl, h1, dv⟩ := rla_tup r1
      obtain ⟨q2, us2, rfl, h2, dv2⟩ := rla_tup r2
      exact ⟨q, q2, us, us2, rfl, .inr ⟨sqT_same g.sub h1, sqT_same g.sub h2, h _ F' H' g (walks_zipT h1 h2 dv dv2)⟩⟩
    · exact h.elim
    · rename_i hz; cases hz
    · exact h.elim
end
end DL

/-! DL, part o: sorted, ranges as values. -/
namespace DL
open PySem PySem.Spec L2
open PyProof.Rows hiding St
open PySem.W (EachIs AllAlike Sortable dataLe)
/-! ### ranges as values -/
section
variable {X : Cx} {W : WX} {K : Kt} {Kf : PySem.W.Frag} {s : Sg} {bb : Bool} {pos p : Pos} {tg a b e : Expr} {t : TA} {g : AG} {te : TE} {ge : EG}
/-! ### sorted -/
end
end DL

/-! DL, part p: a lambda of one parameter, handed to a def. -/
namespace DL
open PySem PySem.Spec L2
open PyProof.Rows hiding St
def lamS1B (sc scope : Scope) (a : Str) : Bool :=
  decide (scope.kind = .function) && !scope.isCoroutine && !scope.isGenerator && decide (scope.names.lookup a = some .local) &&
    scope.names.all fun y => (!decide (y.2 = .local) || y.1 == a) && !decide (y.2 = .cell) && (!decide (y.2 = .free) || decide (sc.names.lookup y.1 = some .cell) || decide (sc.names.lookup y.1 = some .free))
theorem lamS1_by {sc scope : Scope} {a : Str} (h : lamS1B sc scope a = true) : LamS1 sc scope a := by
  unfold lamS1B at h
  simp only [Bool.and_eq_true, Bool.or_eq_true, Bool.not_eq_true', decide_eq_true_eq, decide_eq_false_iff_not, List.all_eq_true, beq_iff_eq] at h
  obtain ⟨⟨⟨⟨h1, h2⟩, h3⟩, h4⟩, h5⟩ := h
  refine ⟨h1, h2, h3, h4, fun y hy e => ((h5 y hy).1.1).resolve_left (fun z => z e), fun y hy => (h5 y hy).1.2, fun y hy e => ?_⟩
  rcases (h5 y hy).2 with (z | z) | z
  · exact absurd e z
  · exact .inl z
  · exact .inr z
section
variable {X : Cx} {pins : List (Addr × Obj)} {σ : L2.St} {H HZ : Hp} {s s1 : Shared} {a : Str} {scope : Scope} {f c' : Addr}
/-- the lambda's frame: its parameter bound, all else as its maker sees it -/
theorem lam1_start {A : Around} {outer : List Env} {E : XK} {h₁ : Heap} {tk j : Nat} {v : V} {u : Value} (I : Inv X pins σ H s) (L : LamS1 X.env.scope scope a) (hN : X.N.Nodup) (hj : X.N[j]? = some a) (ru : RelV v u) (e0 : Env0 X.prog X.w X.K X.mg X.base A outer s1 HZ)
    (hd : A.handled = none) (un : Un (frs X.stack) [] H HZ s.heap s1.heap) (hns : h₁.Ns s1.heap.objs.size fun y => ([(a, u)] : List (Str × Value)).reverse.lookup y) (kp : ∀ b o, s1.heap.get? b = some o → h₁.get? b = some o) :
    Inv (LamX.lamCx X A outer s1 HZ E scope f c') [] (σ.set j (some v)) HZ { s1 with heap := h₁, toks := tk } := by
  have has := L.has I.ok
  have back : ∀ {y c}, (cloFrom X.env.cells scope.names []).lookup y = some c → X.env.cells.lookup y = some c := fun {y c} e => by
    rcases cloFrom_mem (PySem.mem_of_lookup e) with hm | ⟨m1, m2⟩
    · cases hm
    · obtain ⟨c1, hc⟩ := has _ m1 rfl
      have hc : X.env.cells.lookup y = some c1 := hc
      have : c = c1 := by
        rw [m2, hc]
        rfl
      rw [this]
      exact hc
  have seen : ∀ {y}, scope.names.lookup y = some .free → ∃ c, (cloFrom X.env.cells scope.names []).lookup y = some c := fun {y} hl =>
    mem_lookup (cloFrom_has (cells := X.env.cells) (acc := []) (show (y, NameKind.free) ∈ scope.names from PySem.mem_of_lookup hl))
  have kept : ∀ {c : Addr} {z : Option Value}, H c = none → s.heap.IsCell c z → h₁.IsCell c z := fun {c z} n ⟨o, ho, hz⟩ => by
    obtain ⟨sl, q⟩ := un.any ho n (by simp)
    exact ⟨_, kp _ _ q, hz⟩
  have noEx : ∀ b : Addr, b ∉ (LamX.lamCx X A outer s1 HZ E scope f c').ex := fun b z => absurd (show b ∈ ([] : List Addr) from z) (by simp)
  constructor
  case ok =>
    constructor
    case mod => exact e0.mod
    all_goals first
      | exact L.kind
      | exact rfl
      | exact Nat.le_refl _
      | exact e0.bs
      | exact e0.bsz
      | exact e0.funs
      | exact e0.frf
      | exact Around.frames_deeper e0.frames
      | exact .inr ⟨rfl, rfl⟩
      | exact fun _ => hd
      | exact fun b z => absurd z (noEx b)
      | exact fun b _ _ => noEx b
      | exact fun y z c e1 e2 => I.ok.inj y z c (back e1) (back e2)
      | skip
    · intro y hy
      rcases (show scope.names.lookup y = some .cell ∨ scope.names.lookup y = some .free from hy) with hy | hy
      · exact absurd rfl (L.nocell _ (PySem.mem_of_lookup hy))
      · exact seen hy
    · intro y c z _
      exact absurd (show false = true from z) (by decide)
  case os => exact rfl
  case bare => exact e0.bare
  case base => exact Un.kept kp
  case loc =>
    refine ⟨_, hns, fun i y w e1 e2 e3 => ?_⟩
    have e3 : Vis scope y := e3
    by_cases ei : i = j
    · subst ei
      have e1 : X.N[i]? = some y := e1
      rw [hj] at e1
      cases e1
      rw [List.getElem?_set] at e2
      rw [if_pos rfl] at e2
      split at e2
      · cases e2
        exact ⟨u, ru, .inl ⟨L.par, by simp⟩⟩
      · cases e2
    · have ny : y ≠ a := fun z => ei (by
        have e1 : X.N[i]? = some y := e1
        rw [z] at e1
        exact (List.getElem?_inj (List.getElem?_eq_some_iff.mp e1).1 hN).mp (by rw [e1, hj]))
      rw [get_set_ne ei] at e2
      rcases e3 with k | k | k
      · exact absurd (L.one _ (PySem.mem_of_lookup k) rfl) ny
      · exact absurd rfl (L.nocell _ (PySem.mem_of_lookup k))
      · obtain ⟨m, hn, hl⟩ := I.loc
        obtain ⟨w', r, q⟩ := hl i y w e1 e2 ((L.free _ (PySem.mem_of_lookup k) rfl).elim (fun k => .inr (.inl k)) (fun k => .inr (.inr k)))
        obtain ⟨c2, h2⟩ := seen k
        refine ⟨w', r, .inr ⟨.inr k, c2, h2, ?_⟩⟩
        rcases q with ⟨k', _⟩ | ⟨_, c3, e', z⟩
        · have k' : X.env.scope.names.lookup y = some .local := k'
          rcases L.free _ (PySem.mem_of_lookup k) rfl with k2 | k2
          · rw [show X.env.scope.names.lookup y = _ from k2] at k'
            cases k'
          · rw [show X.env.scope.names.lookup y = _ from k2] at k'
            cases k'
        · rw [back h2] at e'
          cases e'
          exact kept (I.freeC y _ (back h2)) z
  case cell =>
    intro y c e
    obtain ⟨w', z⟩ := I.cell y c (back e)
    exact ⟨w', kept (I.freeC y c (back e)) z⟩
  case free => exact e0.hok.fresh (Nat.le_refl _)
  case freeC =>
    intro y c e
    obtain ⟨z, o, ho, hz⟩ := I.cell y c (back e)
    exact un.free c o ho (I.freeC y c (back e)) (by simp)
  case pin => exact fun q hq => absurd (show q ∈ ([] : List (Addr × Obj)) ++ [] from hq) (by simp)
  case hok => exact e0.hok.kept kp
  case len =>
    rw [List.length_set]
    exact I.len
/-- the lambda is made -/
theorem lam_mk {T : List (Addr × Str)} {c P : Addr} {params : Arguments} {body : Expr} {pos : Pos} {E Q : Value → Shared → Prop} (I : Inv X pins σ H s) (B : LamX.TabB X.base X.mg c P) (hcode : X.env.code = .ref c) (hm : (P, X.env.qual ++ "<lambda>") ∈ T)
    (hu : ∀ p ∈ T, p.1 = P → p.2 = X.env.qual ++ "<lambda>") (hT : LamX.Tabs T H) (hdef : defaultsOf params X.env = ([], [])) (L : LamS1 X.env.scope scope a)
    (h : ∀ (f c' : Addr) (pm ctv : Value) (H1 : Hp) (s' : Shared), Inv X pins σ H1 s' → Grow T H H1 → s'.heap.get? f = some (PySem.W.kla_obj "<lambda>" (X.env.qual ++ "<lambda>") params body scope (cloFrom X.env.cells scope.names []) pm c' ctv) →
      H1 f = none → f ∉ frs X.stack → H1 c' = some (LamX.CodeO c' (X.env.qual ++ "<lambda>")) → Q (.ref f) s') : wpAny (model X.prog X.w) X.A (eval (.Lambda params body scope pos) X.env) Q E s := by
  obtain ⟨ps, hP, ht, known⟩ := hT _ hm
  have clo := closure_ok (env := X.env) (L.has I.ok)
  have gk := I.mod.glob.keeps I.bk
  have ck := B.code.keeps I.bk
  have bk : s.heap.BuiltinsAt X.mg P := B.bm.keeps I.bk
  have oP : s.heap.get? P = some { cls := .none, data := .fields ps } := I.hok P _ hP
  have out : ∀ f, s.heap.objs.size ≤ f → f ∉ frs X.stack := fun f hf z => (List.mem_cons.mp (I.stkSub _ z)).elim (fun e => absurd I.lt (by rw [← e]; exact Nat.not_lt.mpr hf)) (I.nofs hf)
  refine PySem.W.kla_eval hdef ?_
  cases hc : codeAmong pos ps.toList with
  | some cv =>
    obtain ⟨c', rfl, hco⟩ := known pos cv hc
    refine PySem.W.kla_makeFunctionHit (c := c) (P := P) clo I.ok.glob gk hcode ck oP ht hc bk fun ctv h2 tk hx hz => ?_
    exact h h2.objs.size c' _ ctv H _ (I.kept fun b o e => Heap.get?_push_of_some _ (hx b o e)) ⟨LamX.ExtN.refl H, fun _ n => n, hT⟩ (Heap.get?_push_size h2 rfl) (I.hok.fresh hz) (out _ hz) hco
  | none =>
    refine PySem.W.kla_makeFunction (c := c) (P := P) (ps := ps) clo I.ok.glob gk hcode ck oP ht hc B.gP bk fun c' ctv h2 tk hx hge hlt hrec htb => ?_
    obtain ⟨c2, oc, vs, t, e2, ho, hd, hv⟩ := hrec
    cases e2
    have sz : s.heap.objs.size ≤ h2.objs.size := Nat.le_trans hge (Nat.le_of_lt hlt)
    have n0 : H c' = none := I.hok.fresh hge
    have keep : ∀ b o, H b = some o → (∀ qs, o ≠ .tbl qs) → upd (upd H P (.tbl (ps ++ #[rawInt pos.line, rawInt pos.col, .ref c']))) c' (LamX.CodeO c' (X.env.qual ++ "<lambda>")) b = some o := fun b o e n => by
      rw [upd_ne (ne_of_none e n0), upd_ne (fun z => n ps (Option.some.inj (e.symm.trans (by rw [z]; exact hP))))]
      exact e
    refine h h2.objs.size c' ((X.mg "__name__").getD .none) ctv _ _
      (LamX.inv_table (t' := tk) (more := #[rawInt pos.line, rawInt pos.col, .ref c']) (h' := h2.push (PySem.W.kla_obj "<lambda>" (X.env.qual ++ "<lambda>") params body scope (cloFrom X.env.cells scope.names []) ((X.mg "__name__").getD .none) c' ctv)) I hP
        (fun b o hb e => Heap.get?_push_of_some _ (hx b o hb e)) (Heap.get?_push_of_some _ htb) hge ⟨oc, vs, t, Heap.get?_push_of_some _ ho, hd, hv⟩)
      ⟨keep, fun b n => ?_, fun p hp => ?_⟩ (Heap.get?_push_size h2 rfl) ?_ (out _ sz) upd_same
    · exact ne_upd (ne_upd n)
    · by_cases hb : p.1 = P
      · rw [hu p hp hb, hb]
        refine ⟨ps ++ #[rawInt pos.line, rawInt pos.col, .ref c'], by rw [upd_ne (ne_of_none hP n0), upd_same], by simpa using PySem.TriplesOk_snoc pos.line pos.col (.ref c') _ ht, fun p2 cv z => ?_⟩
        rcases LamX.among_app _ ht (by simpa using z) with z | z
        · obtain ⟨c0, e1, e2⟩ := known p2 cv z
          exact ⟨c0, e1, keep _ _ e2 LamX.codeO_ne⟩
        · exact ⟨c', z, upd_same⟩
      · obtain ⟨qs, a1, a2, a3⟩ := hT p hp
        refine ⟨qs, by rw [upd_ne (ne_of_none a1 n0), upd_ne hb]; exact a1, a2, fun p2 cv z => ?_⟩
        obtain ⟨c0, e1, e2⟩ := a3 p2 cv z
        exact ⟨c0, e1, keep _ _ e2 LamX.codeO_ne⟩
    · rw [upd_ne (Nat.ne_of_gt hlt), upd_ne (Nat.ne_of_gt (Nat.lt_of_lt_of_le (Heap.lt_size oP) sz))]
      exact I.hok.fresh sz
end
end DL

/-! DL, part q: a def that gets a lambda as its last argument. -/
namespace DL
open PySem PySem.Spec L2
open PyProof.Rows hiding St
def runL (m : Nat) (gs : SG) (ds : List D) (w : Wl) : Res := match gs (ds.map .dat ++ .hol :: List.replicate (m - (ds.length + 1)) .non) w with
  | .rt d w1 => .ok d w1
  | .nx _ w1 => .ok .non w1
  | .ex c fn a _ w1 => .ex c fn a w1
  | _ => .bad
/-- the code table of a def that makes lambdas -/
def LTab (T : List (Addr × Str)) (mg : Str → Option Value) (base : Heap) (fd : FuncData) (q : Str) : Prop := ∃ c P, fd.code = .ref c ∧ LamX.TabB base mg c P ∧ (P, q) ∈ T ∧ ∀ p ∈ T, p.1 = P → p.2 = q
section
variable {X : Cx} {W : WX} {K : Kt} {Kf : PySem.W.Frag} {k j k2 : Nat} {x a : Str} {G : (D → Wl → Res) → List D → Wl → Res} {s1 s2 s3 : Sg} {e1 e2 body : Expr} {t1 t2 tb : TE} {g1 g2 gb : EG} {params : Arguments} {scope : Scope} {c P : Addr} {jj : Nat} {p lpos pos : Pos}
/-- the reading that says just what is asked -/
def tSem (X : Cx) (e : Expr) : TE := fun σ H Q => ∀ pins s, Inv X pins σ H s → wpAny (model X.prog X.w) X.A (eval e X.env) (EP X pins σ Q) X.xe s
theorem pe_sem {e : Expr} : PE X e (tSem X e) := ⟨fun pins s _ _ _ I h => h pins s I⟩
end
end DL

/-! DL, part r: a new generator, handed to a def. -/
namespace DL
open PySem PySem.Spec L2
open PyProof.Rows hiding St
/-- the def of the module's name x makes a new list -/
def ClN (P : Program) (w : World) (K : Kt) (mg : Str → Option Value) (base : Heap) (k : Nat) (x : Str) (n : Nat) (G : List D → Wl → Res) : Prop :=
  ∃ (fd : FuncData) (ps : List Str), FG P w K mg base k (He.ga K x) fd ps (spN K n G) ∧ mg x = some (.ref (He.ga K x)) ∧ PySem.W.keepIn K (.ref (He.ga K x)) = true ∧ Binds K fd ps []
/-- what GR answers with the new generator that GW makes -/
def eWell (n : Nat) (GR GW : List D → Wl → Res) (g : AG) : EG := fun en w => match g en w with
  | .ok ds w1 => if ds.length = n then (match GW ds w1 with
    | .ok (.lst es) w2 => (match allInts es with
      | some ns => (match GR [.well] ns with
        | .ok (.bl b) _ => .ok (.bl b) w2
        | _ => .bad)
      | none => .bad)
    | _ => .bad) else .bad
  | .ex c fn a w1 => .ex c fn a w1
  | .bad => .bad
section
variable {X : Cx} {W : WX} {K : Kt} {k j j2 n : Nat} {f : Addr} {fd : FuncData} {ps : List Str} {GR GW : List D → Wl → Res} {x y : Str} {p p2 pos pos2 : Pos} {e : Expr} {es : List Expr} {t : TA} {g : AG} {sp : Sp}
theorem pe_callG (F : FG X.prog X.w X.K X.mg X.base k f fd ps sp) (hr : Rg k X.A) (tk : Takes X W) (hg : Gl X x) (hm : X.mg x = some (.ref f)) (hk : PySem.W.keepIn X.K (.ref f) = true) (hb : Binds X.K fd ps [])
    (ha : PA X (e :: es) t) (hdb : (x == ("__debug__" : Str)) = false) (he : starEach (e :: es) X.env = (false, eval e X.env) :: starEach es X.env) (hpl : (backTo pos (starEach es X.env)).any (·.1) = false) : PE X (.Call (.Name x p) (e :: es) [] pos) (tCallG sp W t) := by
  refine ⟨fun pins s σ H Q I h => ?_⟩
  refine wpAny_Call_Name_kw (ld_glob I hg hm (PySem.W.callWith_K (h₀ := X.base) I.ok.mod.kin hk (thn (ha.run pos pins s σ H _ I h) fun us s1 ⟨vs, H1, I1, r, q⟩ => ⟨I1.kIn, ?_⟩) he hpl) hdb)
  have hl : us.length = ps.length := r.length.symm.trans (F.len _ _ _ _ q)
  have bb := hb s1 us I1.kIn (by rw [List.append_nil]; exact hl)
  rw [List.append_nil] at bb
  exact run_fg (args := ⟨us, []⟩) F hr tk bb I1 r q
theorem de_well (CR : Cl X.prog X.w K X.mg X.base j x 1 GR) (CW : ClN X.prog X.w K X.mg X.base j2 y n GW) (hr : Rg k X.A) (tk : Takes X W) (hj : j ≤ k) (hj2 : j2 ≤ k) (hg : Gl X x) (hg2 : Gl X y) (ha : DA K X W false (e :: es) t g)
    (hdb : (x == ("__debug__" : Str)) = false := by decide) (hdb2 : (y == ("__debug__" : Str)) = false := by decide)
    (he : starEach (e :: es) X.env = (false, eval e X.env) :: starEach es X.env := by rfl) (hpl : (backTo pos2 (starEach es X.env)).any (·.1) = false := by rfl)
    (he2 : starEach [.Call (.Name y p2) (e :: es) [] pos2] X.env = (false, eval (.Call (.Name y p2) (e :: es) [] pos2) X.env) :: starEach [] X.env := by rfl) (hpl2 : (backTo pos (starEach [] X.env)).any (·.1) = false := by rfl) :
    DE K X W .st (.Call (.Name x p) [.Call (.Name y p2) (e :: es) [] pos2] [] pos) (tCallG (spD K 1 GR) W (tCons (tCallG (spN K n GW) W t) tNil)) (eWell n GR GW g) := by
  obtain ⟨K0, T0, L0⟩ := K
  cases ha.hK
  obtain ⟨fd, ps, FR, m1, k1, b1⟩ := CR
  obtain ⟨fd2, ps2, FW, m2, k2, b2⟩ := CW
  refine ⟨rfl, pe_callG (FR.mono hj) hr tk hg m1 k1 b1 (pa_cons (pe_callG (FW.mono hj2) hr tk hg2 m2 k2 b2 ha.pa hdb2 he hpl) pa_nil he2) hdb he2 hpl2, fun f en w σ F H Q o h => ?_⟩
  show t σ H fun vs H1 => spN ⟨X.K, T0, L0⟩ n GW vs H1 (fun v H2 => spD ⟨X.K, T0, L0⟩ 1 GR [v] H2 Q (WE W σ)) (WE W σ)
  refine ha.es f en w σ F H _ o ?_
  unfold eWell at h
  cases q : g en w with
  | bad => rw [q] at h; exact h
  | ex c fn a w1 => rw [q] at h; exact h
  | ok ds w1 =>
    rw [q] at h
    dsimp only at h
    intro vs F1 H1 g1 r1
    by_cases hl : ds.length = n
    · rw [if_pos hl] at h
      have o1 := o.step g1
      refine ⟨⟨f.aw, F1, H1⟩, ds, w1, rfl, o1.here, o1.awF, o1.tT, o1.tabs, r1, hl, ?_⟩
      cases q2 : GW ds w1 with
      | bad => rw [q2] at h; exact h.elim
      | ex c fn a w2 => rw [q2] at h; exact h.elim
      | ok d w2 =>
        rw [q2] at h
        cases d <;> first
          | exact h.elim
          | skip
        rename_i es'
        dsimp only at h
        cases q3 : allInts es' with
        | none => rw [q3] at h; exact h.elim
        | some ns =>
          rw [q3] at h
          dsimp only at h
          rintro v F2 H2 g2 ⟨ds', a, us, e1, rfl, n0, hv, fa, dv⟩
          cases e1
          have o2 := o1.step g2
          have ev := vals_ints dv q3
          subst ev
          have eT : f.aw.T = T0 := o2.tT
          refine ⟨⟨⟨some a, f.aw.T⟩, F2, H2⟩, [.well], ns, rfl, ⟨Same.refl _, fun _ _ _ _ h => h, fun _ h => h, fun h => h, g2.sub, g2.nt, fun _ _ h => h, fun q hq => by cases hq; exact hv⟩, fun q hq => by cases hq; exact fa, eT, o2.tabs, .cons (.well rfl) .nil, rfl, ?_⟩
          cases q4 : GR [.well] ns with
          | bad => rw [q4] at h; exact h.elim
          | ex c fn a w3 => rw [q4] at h; exact h.elim
          | ok d w3 =>
            rw [q4] at h
            cases d <;> first
              | exact h.elim
              | skip
            rename_i b
            intro v F3 H3 g3 r3
            cases r3
            have hq : ∀ q, f.aw.a = some q → H1 q ≠ none := fun q hq z => by
              rw [g1.wl q hq] at z
              cases z
            exact h (.bl b) F3 H3 (g1.trans (g2.well n0 hq g3)) (.bl b)
    · rw [if_neg hl] at h
      exact h.elim
end
end DL

/-! DL, part s: list(range), gcd, isinstance. -/
namespace DL
open PySem PySem.Spec L2
open PyProof.Rows hiding St
def oGcd : List D → Wl → Res := fun ds w => match ds with
  | [.int i, .int j] => .ok (.int (Nat.gcd i.natAbs j.natAbs : Nat)) w
  | _ => .bad
section
variable {X : Cx} {W : WX} {K : Kt} {Kf : PySem.W.Frag} {s s1 s2 : Sg} {pos pos2 p p2 : Pos} {a b e : Expr} {es : List Expr} {ta tb : TE} {ga gb : EG} {t : TA} {g : AG}
theorem cs_gcd : CS Kf .st rGcd oGcd := by
  intro aw F H Q E vs ds w go r hw
  unfold oGcd at hw
  split at hw
  · obtain ⟨v, u, rfl, q1, q2⟩ := r.two
    have e1 := q1.int
    have e2 := q2.int
    subst e1 e2
    exact ⟨_, _, rfl, Wn.val hw go (.int _)⟩
  · exact hw.elim
theorem de_gcd {x : Str} (hg : Gl X x) (hm : X.mg x = some (.builtin "math.gcd")) (ha : DA K X W true (a :: es) t g) (hdb : (x == ("__debug__" : Str)) = false := by decide) (he : starEach (a :: es) X.env = (false, eval a X.env) :: starEach es X.env := by rfl)
    (hpl : (backTo pos (starEach es X.env)).any (·.1) = false := by rfl) : DE K X W .st (.Call (.Name x p) (a :: es) [] pos) (tCB rGcd t) (eCall oGcd g) := by
  obtain ⟨K0, T0, L0⟩ := K
  cases ha.hK
  exact ⟨rfl, pe_callBfun cr_gcd hg hm ha.pa hdb he hpl, es_call cs_gcd ha.es⟩
end
end DL

/-! DL, part t: a def that gets a def as its last argument. -/
namespace DL
open PySem PySem.Spec L2
open PyProof.Rows hiding St
section
variable {X : Cx} {W : WX} {K : Kt} {k j k2 : Nat} {x y : Str} {G : (D → Wl → Res) → List D → Wl → Res} {Gf : List D → Wl → Res} {e1 e2 e3 : Expr} {tA : TA} {gA : AG} {p pos : Pos}
end
end DL

/-! DL, part u: the end of a law, its def's promise asked where the caller stands. -/
namespace DL
open PySem PySem.Spec L2
open PyProof.Rows hiding St
section
variable {h h' : Heap} {a : Addr} {so : Obj} {ns : List Int} {off : Bool} {tabs : List Addr} {b : Addr} {o : Obj} {vs : List Value}
/-- what is tracked when the law begins: the empty code tables; the script, unless it is frozen anyway -/
def firstHp (a : Addr) (so : Obj) (ns : List Int) (off : Bool) (tabs : List Addr) : Hp := fun b =>
  if b ∈ tabs then some (.tbl #[]) else if b = a ∧ off = false then some (.frz so (.lst (ns.map V.int))) else none
theorem first_cases (z : firstHp a so ns off tabs b ≠ none) : (b ∈ tabs ∧ firstHp a so ns off tabs b = some (.tbl #[])) ∨ (b ∉ tabs ∧ b = a ∧ off = false ∧ firstHp a so ns off tabs b = some (.frz so (.lst (ns.map V.int)))) := by
  unfold firstHp at z ⊢
  by_cases h1 : b ∈ tabs
  · exact .inl ⟨h1, if_pos h1⟩
  · by_cases h2 : b = a ∧ off = false
    · exact .inr ⟨h1, h2.1, h2.2, by rw [if_neg h1, if_pos h2]⟩
    · rw [if_neg h1, if_neg h2] at z
      exact absurd rfl z
/-- an object that is neither a list's nor an empty table's is not tracked -/
theorem first_none (hs : h.get? a = some { cls := .type "list", data := .seq vs.toArray }) (ht : ∀ t ∈ tabs, h.get? t = some { cls := .none, data := .fields #[] }) (e : h.get? b = some o)
    (n1 : ∀ v n, o.data ≠ .seq v n) (n2 : o.data ≠ .fields #[]) : firstHp a so ns off tabs b = none := by
  cases q : firstHp a so ns off tabs b with
  | none => rfl
  | some u =>
    rcases first_cases (by rw [q]; exact fun y => nomatch y) with ⟨m, _⟩ | ⟨_, rfl, _⟩
    · rw [ht b m] at e
      cases e
      exact absurd rfl n2
    · rw [hs] at e
      cases e
      exact absurd rfl (n1 _ _)
theorem first_ns {m : Str → Option Value} (hs : h.get? a = some { cls := .type "list", data := .seq vs.toArray }) (ht : ∀ t ∈ tabs, h.get? t = some { cls := .none, data := .fields #[] }) (n : h.Ns b m) : (hidT h (firstHp a so ns off tabs)).Ns b m := by
  obtain ⟨o, es, ep, e, d, r⟩ := n
  exact ⟨o, es, ep, hidT_get e (first_none hs ht e (fun v k y => by rw [d] at y; cases y) fun y => by rw [d] at y; cases y), d, r⟩
end
/-- the law's def runs at the caller and says True -/
theorem end_run {P : Program} {w : World} {K : PySem.W.Frag} {mg mb : Str → Option Value} {k : Nat} {fa a : Addr} {cs : List (Addr × Addr)} {fd : FuncData} {x : Str} {sp : Sp} {s : Shared} {vs : List Value} {ns : List Int}
    (kin : K.In s.heap) (gl : s.heap.Ns mainGlobals mg) (bl : s.heap.Ns builtinsNs mb) (boot : ∀ y : Str, y ≠ "__name__" → mb y = bootBuiltins y) (nl : s.heap.NoLimit) (gens : s.gens = #[])
    (tb : ∀ p ∈ cs, s.heap.get? p.2 = some { cls := .none, data := .fields #[] }) (tk : ∀ p ∈ cs, K.lookup p.2 = none) (hd : ∀ p ∈ cs, PySem.W.CodeHd s.heap p.1 p.2)
    (bmod : ∃ bm ob, mg "__builtins__" = some (.ref bm) ∧ bm ≠ builtinsNs ∧ s.heap.get? bm = some ob ∧ ob.cls = .type "module" ∧ ob.dict = some builtinsNs ∧ ob.data = .plain)
    (scr : s.heap.get? a = some { cls := .type "list", data := .seq vs.toArray }) (hni : IntsAre vs ns) (len : ns.length ≤ sizeLine) (hr : Rg k callerA)
    (F : ∀ base : Heap, K.In base → base.Ns mainGlobals mg → (∀ p ∈ cs, LamX.TabB base mg p.1 p.2) → FG P w K mg base k fa fd [x] sp) (bind : ∀ (s : Shared) (u : Value), BindsTo s fd ⟨[u], []⟩ [(x, u)])
    (law : ∀ H : Hp, (∀ p ∈ cs, H p.2 = some (.tbl #[])) → SqL K H a (ns.map V.int) → (∀ b ps, H b = some (.tbl ps) → b ∈ cs.map (·.2)) → sp [.ref a] H (fun v _ => v = .bl true) fun _ _ _ => False) :
    codeAny (model P w) callerA (.call (.ref fa) ⟨[.ref a], []⟩) (fun r s' => r = .ok (.ret (.bool true)) ∧ OldK s.heap s'.heap ∧ s'.os = s.os ∧ AllBare s'.gens) s := by
  have ht : ∀ t ∈ cs.map (·.2), s.heap.get? t = some { cls := .none, data := .fields #[] } := fun t m => by
    obtain ⟨p, hp, rfl⟩ := List.mem_map.mp m
    exact tb p hp
  have ma : a ∉ cs.map (·.2) := fun m => by
    have e := ht a m
    rw [scr] at e
    exact absurd (congrArg Obj.data (Option.some.inj e)) (fun y => nomatch y)
  obtain ⟨so, hso⟩ : ∃ so : Obj, so = { cls := .type "list", data := .seq vs.toArray } := ⟨_, rfl⟩
  obtain ⟨off, hoff⟩ : ∃ off : Bool, off = (K.lookup a).isSome := ⟨_, rfl⟩
  obtain ⟨H, hH⟩ : ∃ H : Hp, H = firstHp a so ns off (cs.map (·.2)) := ⟨_, rfl⟩
  have hc : ∀ b, H b ≠ none → (b ∈ cs.map (·.2) ∧ H b = some (.tbl #[])) ∨ (b ∉ cs.map (·.2) ∧ b = a ∧ off = false ∧ H b = some (.frz so (.lst (ns.map V.int)))) := fun b z => by
    rw [hH] at z ⊢
    exact first_cases z
  have tracked : ∀ p ∈ cs, H p.2 = some (.tbl #[]) := fun p hp => by
    rw [hH]
    exact if_pos (List.mem_map.mpr ⟨p, hp, rfl⟩)
  have onlyT : ∀ b ps, H b = some (.tbl ps) → b ∈ cs.map (·.2) := fun b ps e => by
    rcases hc b (by rw [e]; exact fun y => nomatch y) with ⟨m, _⟩ | ⟨_, _, _, e2⟩
    · exact m
    · rw [e] at e2
      cases e2
  have inBase : ∀ {b : Addr} {o : Obj}, s.heap.get? b = some o → (∀ v n, o.data ≠ .seq v n) → o.data ≠ .fields #[] → (hidT s.heap H).get? b = some o := fun {b o} e n1 n2 => hidT_get e (by rw [hH]; exact first_none scr ht e n1 n2)
  have nsIn : ∀ {b : Addr} {m : Str → Option Value}, s.heap.Ns b m → (hidT s.heap H).Ns b m := fun {b m} n => by
    rw [hH]
    exact first_ns scr ht n
  have kBase : K.In (hidT s.heap H) := fun b o e => hidT_get (kin b o e) (by
    cases q : H b with
    | none => rfl
    | some u =>
      rcases hc b (by rw [q]; exact fun y => nomatch y) with ⟨m, _⟩ | ⟨_, rfl, hf, _⟩
      · obtain ⟨p, hp, rfl⟩ := List.mem_map.mp m
        rw [tk p hp] at e
        cases e
      · rw [hoff, e] at hf
        cases hf)
  have tabs : ∀ p ∈ cs, LamX.TabB (hidT s.heap H) mg p.1 p.2 := fun p hp => by
    constructor
    case code =>
      obtain ⟨o, us, x1, x2, x3, x4, x5, x6, x7, e, c1, d1, r⟩ := hd p hp
      exact ⟨o, us, x1, x2, x3, x4, x5, x6, x7, inBase e (fun v n y => by rw [d1] at y; cases y) (fun y => by rw [d1] at y; cases y; exact absurd r.1 (by simp)), c1, d1, r⟩
    case bm =>
      obtain ⟨bm, ob, b1, b2, b3, b4, b5, b6⟩ := bmod
      refine ⟨bm, ob, b1, b2, fun y => ?_, fun y => ?_, inBase b3 (fun v n z => by rw [b6] at z; cases z) (fun z => by rw [b6] at z; cases z), b4, b5, b6⟩
      · obtain ⟨o, es, ep, e, d, _⟩ := gl
        rw [← y, b3] at e
        cases e
        rw [b6] at d
        cases d
      · rw [y, tb p hp] at b3
        cases b3
        cases b6
    case gP =>
      intro y
      obtain ⟨o, es, ep, e, d, _⟩ := gl
      rw [y, tb p hp] at e
      cases e
      cases d
  have hok : HOk P w H s.heap := fun b u e => by
    rcases hc b (by rw [e]; exact fun y => nomatch y) with ⟨m, e2⟩ | ⟨_, rfl, _, e2⟩
    · rw [e] at e2
      cases e2
      exact ht b m
    · rw [e] at e2
      cases e2
      refine ⟨by rw [hso]; exact scr, by rw [List.length_map]; exact len, vs, _, L2.vals_ints hni, scr⟩
  have seq : SqL K H a (ns.map V.int) := by
    cases q : K.lookup a with
    | none => exact .inl (.inr ⟨so, by rw [hH]; exact (if_neg ma).trans (if_pos ⟨rfl, by rw [hoff, q]; rfl⟩)⟩)
    | some o =>
      have e := kin a o q
      rw [scr] at e
      cases e
      exact .inr ⟨_, vs.toArray, _, q, rfl, rfl, rfl, by rw [List.size_toArray, hni.length]; exact len, by simpa using L2.vals_ints hni⟩
  have ev : Env0 P w K mg (hidT s.heap H) callerA [] s H :=
    ⟨rfl, ⟨kBase, nsIn gl, ⟨mb, nsIn bl, boot⟩, nl.elim fun mc z => ⟨mc, nsIn z.1, z.2⟩⟩, fun b o e => of_hidT e, Nat.le_of_eq (hidT_size _ _), trivial, fun b m => absurd (show b ∈ ([] : List Addr) from m) List.not_mem_nil, hok, .of_eq gens⟩
  refine codeAny_mono ((F _ kBase (nsIn gl) tabs).run callerA [] s H ⟨[.ref a], []⟩ [.ref a] [.ref a] _ _ hr ev (bind s (.ref a)) (.cons rfl .nil) (law H tracked seq onlyT)) fun r s' z => ?_
  match r, z with
  | .error e, z =>
    obtain ⟨_, _, _, _, _, _, _, _, _, _, _, _, bad⟩ := (show L2.CX P w [] H s (fun _ _ _ => False) e s' from z)
    exact bad.elim
  | .ok .next, z => exact False.elim z
  | .ok .brk, z => exact False.elim z
  | .ok .cont, z => exact False.elim z
  | .ok (.ret u), z =>
    obtain ⟨v, H2, os, bare, un, hok2, ru, qv⟩ := z
    cases (show v = .bl true from qv)
    cases (show u = Value.bool true from ru)
    refine ⟨rfl, ?_, os, bare⟩
    have same : ∀ b o, b ∉ cs.map (·.2) → s.heap.get? b = some o → s'.heap.get? b = some o := fun b o m e => by
      cases q : H b with
      | none => exact un.keep b o e q (fun y => absurd (show b ∈ ([] : List Addr) from y) List.not_mem_nil) List.not_mem_nil
      | some u =>
        rcases hc b (by rw [q]; exact fun y => nomatch y) with ⟨m2, _⟩ | ⟨_, _, _, e2⟩
        · exact absurd m2 m
        · have e3 := (hok2 b _ (un.frzs b so _ e2)).1
          have e4 := (hok b _ e2).1
          rw [e] at e4
          cases e4
          exact e3
    have more : ∀ p ∈ cs, ∃ xs : Array Value, s'.heap.get? p.2 = some { cls := .none, data := .fields xs } := fun p hp => by
      obtain ⟨xs, e⟩ := un.tbls p.2 #[] (tracked p hp)
      exact ⟨_, hok2 p.2 _ e⟩
    constructor
    case old =>
      intro b o e
      by_cases m : b ∈ cs.map (·.2)
      · obtain ⟨p, hp, rfl⟩ := List.mem_map.mp m
        obtain ⟨xs, e2⟩ := more p hp
        rw [tb p hp] at e
        cases e
        exact .inr (.inl ⟨((hd p hp).tab (tb p hp)).isCodeTable, rfl, #[], xs, rfl, by rw [Array.empty_append]; exact e2⟩)
      · exact .inl (same b o m e)
    case there =>
      intro b o e
      by_cases m : b ∈ cs.map (·.2)
      · obtain ⟨p, hp, rfl⟩ := List.mem_map.mp m
        obtain ⟨xs, e2⟩ := more p hp
        exact ⟨_, e2⟩
      · exact ⟨o, same b o m e⟩
end DL

/-! DL, part v: the head's facts without the code tables; from a law's def to its row. -/
namespace DL
open PySem PySem.Spec L2
open PyProof.Rows hiding St
/-- each def of the row: its function, its code, the code's empty table -/
def TabsOf (q : Program) (mg : Str → Option Value) (h : Heap) : Prop := ∀ d ∈ recsOf q, ∃ a o fd c P, mg d.name = some (.ref a) ∧ h.get? a = some o ∧ o.data = .func fd ∧ fd.code = .ref c ∧ h.IsCode c P #[] ∧ h.TableAt c P #[]
theorem walk_own {l : PySem.W.OpenLaw} {n k : Nat} {q : Program} {loose : List Str} {XP : (Str → Option Value) → Heap → Prop} {YP : World → Heap → Prop} {d : DefRec} {x : Str} (hn : l.most = some n) (hn2 : n ≤ sizeLine) (hdf : d.params.defaults = []) (hr : Rg k callerA)
    (F : ∀ (w : World) (mg : Str → Option Value) (fa : Addr) (h : Heap), YP w h → h.Ns mainGlobals mg → mg d.name = some (.ref fa) → TabsOf q mg h → ∃ (K : PySem.W.Frag) (fd : FuncData) (cs : List (Addr × Addr)) (sp : Sp), K.In h ∧
      (∀ p ∈ cs, h.get? p.2 = some { cls := .none, data := .fields #[] }) ∧ (∀ p ∈ cs, K.lookup p.2 = none) ∧ (∀ p ∈ cs, PySem.W.CodeHd h p.1 p.2) ∧ (∀ (s : Shared) (u : Value), BindsTo s fd ⟨[u], []⟩ [(x, u)]) ∧
      (∀ (H : Hp) (a : Addr) (ns : List Int), ns.length ≤ n → (∀ z ∈ ns, Builtin.Int.intBits z ≤ 1048576) → (∀ p ∈ cs, H p.2 = some (.tbl #[])) → SqL K H a (ns.map V.int) → (∀ b ps, H b = some (.tbl ps) → b ∈ cs.map (·.2)) → sp [.ref a] H (fun v _ => v = .bl true) fun _ _ _ => False) ∧
      ∀ base : Heap, K.In base → base.Ns mainGlobals mg → (∀ p ∈ cs, LamX.TabB base mg p.1 p.2) → FG l.prog w K mg base k fa fd [x] sp) :
    PySem.W.WalkO q loose XP YP l.row.toRowW d [] (fun f vs => PySem.call f vs) := by
  refine Att.attach_callB hn hdf fun w s₀ s mg mb fa o pm cd doc a vs ns G Y ho hd hcd hmg hobj hni hlen hbits hg => ?_
  obtain ⟨K, fd, cs, sp, kin, tb, tk, ch, bind, law, hF⟩ := F w mg fa _ Y G.T.g hmg G.T.tab
  exact end_run kin G.T.g G.T.b G.T.builtins G.T.nolimit hg tb tk ch G.T.bmain hobj hni (Nat.le_trans hlen hn2) hr hF bind fun H h1 h2 h3 => law H a ns hlen hbits h1 h2 h3
/-! ### the Hook -/
end DL

/-! DL, part w: the code tables of the defs that make lambdas; the law's promise at the beginning. -/
namespace DL
open PySem PySem.Spec L2
open PyProof.Rows hiding St
abbrev qnL (x : Str) : Str := (x ++ ".<locals>.") ++ "<lambda>"
def csOf (K : PySem.W.Frag) (xs : List Str) : List (Addr × Addr) := xs.filterMap (codeAt K)
def TTof (K : PySem.W.Frag) (xs : List Str) : List (Addr × Str) := xs.filterMap fun x => (codeAt K x).map fun p => (p.2, qnL x)
section
variable {K : PySem.W.Frag} {h : Heap} {mg : Str → Option Value} {q : Program} {xs : List Str} {x : Str} {base : Heap}
theorem codeAt_some {c P : Addr} (e : codeAt K x = some (c, P)) : ∃ oc od fd osl o2 d2 vs s2, K.lookup (He.ga K x) = some ⟨oc, od, .func fd, osl⟩ ∧ fd.code = .ref c ∧ K.lookup c = some ⟨o2, d2, .fields vs, s2⟩ ∧ vs[11]? = some (.ref P) := by
  unfold codeAt at e
  split at e
  · rename_i oc od fd osl e1
    split at e
    · rename_i c' e2
      split at e
      · rename_i o2 d2 vs s2 e3
        split at e
        · rename_i P' e4
          cases e
          exact ⟨oc, od, fd, osl, o2, d2, vs, s2, e1, e2, e3, e4⟩
        · cases e
      · cases e
    · cases e
  · cases e
/-- what the head says of the tables -/
theorem lam_facts (X : K.In h) (nt : NoTab K) (tb : TabsOf q mg h) (gl : mg x = some (.ref (He.ga K x))) (hx : ∃ d ∈ recsOf q, d.name = x) {c P : Addr} (e : codeAt K x = some (c, P)) :
    h.get? P = some { cls := .none, data := .fields #[] } ∧ K.lookup P = none ∧ PySem.W.CodeHd h c P := by
  obtain ⟨oc, od, fd, osl, o2, d2, vs, s2, e1, e2, e3, e4⟩ := codeAt_some e
  obtain ⟨d, hd, rfl⟩ := hx
  obtain ⟨a, o, fd', c', P', f1, f2, f3, f4, f5, f6⟩ := tb d hd
  rw [gl] at f1
  cases f1
  rw [X _ _ e1] at f2
  cases f2
  cases f3
  rw [e2] at f4
  cases f4
  have ch := PySem.W.CodeHd.of f5 f6
  obtain ⟨⟨oc', vs', g1, g2, g3, g4⟩, gP⟩ := f6
  rw [X _ _ e3] at g1
  cases g1
  cases g3
  rw [e4] at g4
  cases g4
  refine ⟨gP, ?_, ch⟩
  cases q : K.lookup P with
  | none => rfl
  | some ob =>
    have z := X _ _ q
    rw [gP] at z
    cases z
    exact absurd (nt _ _ q) (by decide)
theorem cs_mem {p : Addr × Addr} (m : p ∈ csOf K xs) : ∃ x ∈ xs, codeAt K x = some p := by
  unfold csOf at m
  obtain ⟨x, hx, e⟩ := List.mem_filterMap.mp m
  exact ⟨x, hx, e⟩
theorem TT_mem {p : Addr × Str} (m : p ∈ TTof K xs) : ∃ x ∈ xs, ∃ c, codeAt K x = some (c, p.1) ∧ p.2 = qnL x := by
  unfold TTof at m
  obtain ⟨x, hx, e⟩ := List.mem_filterMap.mp m
  cases z : codeAt K x with
  | none => rw [z] at e; cases e
  | some r =>
    rw [z] at e
    cases e
    exact ⟨x, hx, r.1, z, rfl⟩
theorem inj_of_nodup {α β : Type} {f : α → β} : ∀ {l : List α} {a b : α}, (l.map f).Nodup → a ∈ l → b ∈ l → f a = f b → a = b
  | [], _, _, _, h, _, _ => by cases h
  | y :: l, a, b, n, ha, hb, e => by
    rw [List.map_cons, List.nodup_cons] at n
    have ha := List.mem_cons.mp ha
    have hb := List.mem_cons.mp hb
    rcases ha with e1 | h1
    · rcases hb with e2 | h2
      · rw [e1, e2]
      · exact absurd (by rw [← e1, e]; exact List.mem_map_of_mem h2) n.1
    · rcases hb with e2 | h2
      · exact absurd (by rw [← e2, ← e]; exact List.mem_map_of_mem h1) n.1
      · exact inj_of_nodup n.2 h1 h2 e
theorem ltab_of (ap : apart K xs = true) (hx : x ∈ xs) (B : ∀ p ∈ csOf K xs, LamX.TabB base mg p.1 p.2) {y qual : Str} {params : Arguments} {body : List Stmt} {scope : Scope} {dvs : List V} {kws : List (Str × V)} {fd : FuncData}
    (F : FunD K y qual params body scope dvs kws (He.ga K x) fd) : LTab (TTof K xs) mg base fd (qnL x) := by
  unfold apart at ap
  obtain ⟨a1, a2⟩ := Bool.and_eq_true_iff.mp ap
  have a2 := of_decide_eq_true a2
  have s1 := List.all_eq_true.mp a1 (tabAt K x) (List.mem_map_of_mem hx)
  unfold tabAt at s1
  cases z : codeAt K x with
  | none => rw [z] at s1; cases s1
  | some r =>
    obtain ⟨c, P⟩ := r
    obtain ⟨oc, od, fd2, osl, o2, d2, vs, s2, e1, e2, e3, e4⟩ := codeAt_some z
    obtain ⟨oc', od', dV, kV, doc, pm, an, cdv, ct, osl', rfl, lk, _⟩ := F.ex
    rw [e1] at lk
    cases lk
    refine ⟨c, P, e2, B (c, P) (List.mem_filterMap.mpr ⟨x, hx, z⟩), List.mem_filterMap.mpr ⟨x, hx, by rw [z]; rfl⟩, fun p hp ep => ?_⟩
    obtain ⟨y', hy, c2, ey, e5⟩ := TT_mem hp
    have : y' = x := inj_of_nodup a2 hy hx (by unfold tabAt; rw [ey, z, ep]; rfl)
    rw [e5, this]
theorem tabs_of {H : Hp} (t : ∀ p ∈ csOf K xs, H p.2 = some (.tbl #[])) : LamX.Tabs (TTof K xs) H := fun p hp => by
  obtain ⟨x, hx, c, e, _⟩ := TT_mem hp
  exact LamX.TabS.nil (t (c, p.1) (List.mem_filterMap.mpr ⟨x, hx, e⟩))
end
/-- the law's promise when it begins -/
theorem law_sp {K : Kt} {G : List D → Wl → Res} {H : Hp} {a : Addr} {ns : List Int} {w' : Wl} (hs : SqL K H a (ns.map V.int)) (ht : LamX.Tabs K.T H) (hG : G [.scr ns] [] = .ok (.bl true) w') : spD K 1 G [.ref a] H (fun v _ => v = .bl true) fun _ _ _ => False := by
  obtain ⟨F0, hF, h1, h2⟩ : ∃ F0 : Hp, SqL K F0 a (ns.map V.int) ∧ Same F0 H ∧ ∀ (b : Addr) (ps : Array Value), F0 b ≠ some (.tbl ps) := by
    rcases hs with (r | ⟨o, r⟩) | k
    · refine ⟨fun b => if b = a then some (.lst (ns.map V.int)) else none, .inl (.inl (if_pos rfl)), fun b o e => ?_, fun b ps e => ?_⟩
      · dsimp only at e
        by_cases z : b = a
        · rw [if_pos z] at e
          cases e
          rw [z]
          exact r
        · rw [if_neg z] at e
          cases e
      · dsimp only at e
        by_cases z : b = a
        · rw [if_pos z] at e
          cases e
        · rw [if_neg z] at e
          cases e
    · refine ⟨fun b => if b = a then some (.frz o (.lst (ns.map V.int))) else none, .inl (.inr ⟨o, if_pos rfl⟩), fun b u e => ?_, fun b ps e => ?_⟩
      · dsimp only at e
        by_cases z : b = a
        · rw [if_pos z] at e
          cases e
          rw [z]
          exact r
        · rw [if_neg z] at e
          cases e
      · dsimp only at e
        by_cases z : b = a
        · rw [if_pos z] at e
          cases e
        · rw [if_neg z] at e
          cases e
    · exact ⟨fun _ => none, .inr k, (fun b o e => by cases e), (fun b ps e => by cases e)⟩
  refine ⟨⟨⟨none, K.T⟩, F0, H⟩, [.scr ns], [], rfl, ⟨Same.refl _, fun _ _ _ _ h => h, fun _ h => h, fun h => h, h1, h2, fun _ _ h => h, (fun a e => by cases e)⟩, (fun a e => by cases e), rfl, ht, .cons (.scr hF) .nil, rfl, ?_⟩
  rw [hG]
  intro v F' H' g r
  cases r
  rfl
end DL

/-! DL, part x: what the laws have in common: the generator of draws, its beginning, the law itself. -/
namespace DL
open PySem PySem.Spec L2
open PyProof.Rows hiding St
def gTake : SG :=
  (sSeq (sIf (eBin oGt (eBin oIx (eVar 0) (eC (.int 0))) (eC (.int 0))) (sSeq (sTake 0 2 (eC (.int 0)) (eBin oIx (eVar 0) (eC (.int 0))) (eVar 1))
  (sRet (eVar 2))) sPass)
  (sSeq (sPut 0 (eC (.int 2)) (eBin oAdd (eBin oIx (eVar 0) (eC (.int 2))) (eC (.int 1))))
  (sSeq (sSet 3 (eBin oAdd (eC (.int 40609)) (eBin oMul (eC (.int 2)) (eBin oMod (eCall oInt (aCons (eBin oFdiv (eBin oIx (eVar 0) (eC (.int 1))) (eC (.int 31))) aNil)) (eC (.int 9001))))))
  (sSeq (sPut 0 (eC (.int 1)) (eBin oMod (eCall oInt (aCons (eBin oAdd (eBin oAdd (eBin oMul (eBin oIx (eVar 0) (eC (.int 1))) (eVar 3)) (eBin oMul (eC (.int 52361)) (eBin oIx (eVar 0) (eC (.int 2))))) (eC (.int 13))) aNil)) (eC (.int 2147483549))))
  (sRet (eBin oMod (eCall oInt (aCons (eBin oFdiv (eBin oIx (eVar 0) (eC (.int 1))) (eC (.int 251))) aNil)) (eVar 1)))))))
def GTake : List D → Wl → Res := fun ds w => runG 4 gTake ds w
theorem log_lt {i : Int} {n : Nat} (h0 : 0 ≤ i) (h : i < 2 ^ n) (hn : 0 < n) : i.natAbs.log2 < n := by
  have : i.natAbs < 2 ^ n := by
    have e : (i.natAbs : Int) = i := Int.natAbs_of_nonneg h0
    have : (i.natAbs : Int) < ((2 ^ n : Nat) : Int) := by rw [e]; push_cast; exact h
    exact Int.ofNat_lt.mp this
  by_cases z : i.natAbs = 0
  · rw [z]
    exact hn
  · exact (Nat.log2_lt z).mpr this
theorem take_ok {k : Nat} {w : Wl} {m : Int} (h : Wk (k + 1) w) (h0 : 0 < m) (h1 : m < 1073741824) : ∃ d w', GTake [.well, .int m] w = .ok (.int d) w' ∧ 0 ≤ d ∧ d < m ∧ Wk k w' := by
  obtain ⟨a, b, c, rfl, ha, hb, hb2, hc, hc2⟩ := h
  by_cases z : 0 < a
  · refine ⟨a % m, [a / m, b, c], ?_, Int.emod_nonneg _ (by omega), Int.emod_lt_of_pos _ h0, a / m, b, c, rfl, Int.ediv_nonneg ha (by omega), hb, hb2, hc, by omega⟩
    · simp [GTake, runG, gTake, sSeq, Out.seq, sIf, Res.thn, eBin, Res.bind, eVar, eC, oIx, oGt, oRel, oI, sTake, sRet, atI, ixN, z, h0, h1]
  · have f0 : 0 ≤ b / 31 % 9001 := Int.emod_nonneg _ (by omega)
    have f1 : b / 31 % 9001 < 9001 := Int.emod_lt_of_pos _ (by omega)
    have m1 : CMulW 2 (b / 31 % 9001) := by
      have h1 := log_lt (i := b / 31 % 9001) (n := 64) f0 (by omega) (by omega)
      have h2 := log_lt (i := 2) (n := 64) (by omega) (by omega) (by omega)
      unfold CMulW
      omega
    have m2 : CMulW b (40609 + 2 * (b / 31 % 9001)) := by
      have h1 := log_lt (i := b) (n := 64) hb (by omega) (by omega)
      have h2 := log_lt (i := 40609 + 2 * (b / 31 % 9001)) (n := 64) (by omega) (by omega) (by omega)
      unfold CMulW
      omega
    have m3 : CMulW 52361 (c + 1) := by
      have h1 := log_lt (i := 52361) (n := 64) (by omega) (by omega) (by omega)
      have h2 := log_lt (i := c + 1) (n := 64) (by omega) (by omega) (by omega)
      unfold CMulW
      omega
    have m4 : ∀ i j : Int, 0 < j → j < 2 ^ 64 → CDivW i j := fun i j h1 h2 => ⟨h1, by
      have := log_lt (i := j) (n := 64) (by omega) h2 (by omega)
      omega⟩
    have d1 := m4 b 31 (by omega) (by omega)
    have d2 := m4 ((b * (40609 + 2 * (b / 31 % 9001)) + 52361 * (c + 1) + 13) % 2147483549) 251 (by omega) (by omega)
    refine ⟨(b * (40609 + 2 * (b / 31 % 9001)) + 52361 * (c + 1) + 13) % 2147483549 / 251 % m, [a, (b * (40609 + 2 * (b / 31 % 9001)) + 52361 * (c + 1) + 13) % 2147483549, c + 1], ?_, Int.emod_nonneg _ (by omega), Int.emod_lt_of_pos _ h0, a, _, c + 1, rfl, ha, Int.emod_nonneg _ (by omega), Int.emod_lt_of_pos _ (by omega), by omega, by omega⟩
    simp [GTake, runG, gTake, sSeq, Out.seq, sIf, sPass, Res.thn, eBin, Res.bind, eVar, eC, oIx, oGt, oRel, oI, sTake, sRet, atI, ixN, z, h0, h1, sPut, sSet, eCall, aCons, aNil, AR.cons, oInt, oAdd, oOr, oAddI, oMul, oMod, oFdiv, m1, m2, m3, d1, d2]

/-- one step of the stirring -/
def gStir : SG := (sSet 3 (eBin oMod (eCall oInt (aCons (eBin oAdd (eBin oAdd (eBin oMul (eVar 3) (eC (.int 60493))) (eBin oMul (eBin oMod (eCall oInt (aCons (eVar 4) aNil)) (eC (.int 2147483549))) (eC (.int 5)))) (eC (.int 11))) aNil)) (eC (.int 2147483549))))
def gWell (c0 : Int) : SG :=
  (sSeq (sSet 2 (eIf (eBin oLt (eVar 1) (eCall oLen (aCons (eVar 0) aNil))) (eCall oInt (aCons (eBin oIx (eVar 0) (eVar 1)) aNil)) (eBin oAdd (eBin oAdd (eC (.int 6007)) (eBin oMul (eC (.int 1009)) (eVar 1))) (eBin oMod (eCall oInt (aCons (eCall oSum (aCons (eSl (eVar 0) pNone (pSome (eC (.int 2)))) aNil)) aNil)) (eC (.int 1000003))))))
  (sSeq (sSet 3 (eBin oAdd (eC (.int c0)) (eBin oMul (eC (.int 499)) (eVar 1))))
  (sSeq (sFor (gSeq (eSl (eVar 0) pNone (pSome (eC (.int 9))))) (bName 4) gStir)
  (sSeq (sSet 3 (eBin oMod (eCall oInt (aCons (eBin oAdd (eBin oAdd (eBin oMul (eVar 3) (eC (.int 197))) (eBin oMul (eBin oMod (eCall oInt (aCons (eVar 2) aNil)) (eC (.int 2147483549))) (eC (.int 30011)))) (eC (.int 5))) aNil)) (eC (.int 2147483549))))
  (sRetF (eLst (aCons (eIf (eOr (eBin oLt (eVar 2) (eC (.int 0))) (eBin oGe (eVar 2) (eBin oPow (eC (.int 10)) (eC (.int 18))))) (eCall oAbs (aCons (eVar 2) aNil)) (eC (.int 0))) (aCons (eVar 3) (aCons (eC (.int 0)) aNil)))))))))
theorem mulSmall {i j : Int} (hi : 0 ≤ i) (hi2 : i < 2 ^ 64) (hj : 0 ≤ j) (hj2 : j < 2 ^ 64) : CMulW i j := by
  have h1 := log_lt (i := i) (n := 64) hi (by exact hi2) (by omega)
  have h2 := log_lt (i := j) (n := 64) hj (by exact hj2) (by omega)
  unfold CMulW
  omega
theorem stir_loop : ∀ (ns : List Int) (ds : List Sl) (st : Int) (s0 s1 s2 s4 : Sl) (w : Wl), 0 ≤ st → st < 2147483549 → ∃ st' s4', 0 ≤ st' ∧ st' < 2147483549 ∧ forG (bName 4) gStir (ns.map .int) [s0, s1, s2, .dat (.int st), s4] w = .nx [s0, s1, s2, .dat (.int st'), s4'] w
  | [], _, st, s0, s1, s2, s4, w, h0, h1 => ⟨st, s4, h0, h1, rfl⟩
  | n :: ns, ds, st, s0, s1, s2, s4, w, h0, h1 => by
    have f0 : 0 ≤ n % 2147483549 := Int.emod_nonneg _ (by omega)
    have f1 : n % 2147483549 < 2147483549 := Int.emod_lt_of_pos _ (by omega)
    have m1 : CMulW st 60493 := mulSmall h0 (by omega) (by omega) (by omega)
    have m2 : CMulW (n % 2147483549) 5 := mulSmall f0 (by omega) (by omega) (by omega)
    obtain ⟨st', s4', a, b, e⟩ := stir_loop ns ds ((st * 60493 + n % 2147483549 * 5 + 11) % 2147483549) s0 s1 s2 (.dat (.int n)) w (Int.emod_nonneg _ (by omega)) (Int.emod_lt_of_pos _ (by omega))
    refine ⟨st', s4', a, b, ?_⟩
    rw [← e]
    simp [forG, bName, gStir, sSet, Res.thn, eBin, Res.bind, eVar, eC, eCall, aCons, aNil, AR.cons, oInt, oAdd, oOr, oAddI, oI, oMul, oMod, m1, m2]
theorem allInts_map : ∀ ns : List Int, allInts (ns.map D.int) = some ns
  | [] => rfl
  | n :: ns => by
    rw [List.map_cons]
    simp only [allInts, allInts_map ns, Option.map_some]
theorem at_in {ns : List Int} {i : Int} (h0 : 0 ≤ i) (h : i < ns.length) : ∃ n, atI ns i = some n := by
  have hi : i.toNat < ns.length := by omega
  refine ⟨ns[i.toNat], ?_⟩
  unfold atI
  have e : ixN ns.length i = some i.toNat := by
    unfold ixN
    simp [h0, h]
  rw [e]
  exact List.getElem?_eq_getElem hi
theorem own_ok (ns : List Int) (turn : Int) (w : Wl) (h0 : 0 ≤ turn) (h1 : turn < 1000) : ∃ own, (sSet 2 (eIf (eBin oLt (eVar 1) (eCall oLen (aCons (eVar 0) aNil))) (eCall oInt (aCons (eBin oIx (eVar 0) (eVar 1)) aNil)) (eBin oAdd (eBin oAdd (eC (.int 6007)) (eBin oMul (eC (.int 1009)) (eVar 1))) (eBin oMod (eCall oInt (aCons (eCall oSum (aCons (eSl (eVar 0) pNone (pSome (eC (.int 2)))) aNil)) aNil)) (eC (.int 1000003))))))
    [.dat (.scr ns), .dat (.int turn), .non, .non, .non] w = .nx [.dat (.scr ns), .dat (.int turn), .dat (.int own), .non, .non] w := by
  by_cases z : turn < ns.length
  · obtain ⟨n, e⟩ := at_in h0 z
    refine ⟨n, ?_⟩
    simp [sSet, Res.thn, eIf, bIf, eBin, Res.bind, eVar, eC, eCall, aCons, aNil, AR.cons, oLt, oOr, oRel, oI, oLen, oLen1, z, oIx, e, oInt]
  · have m1 : CMulW 1009 turn := mulSmall (by omega) (by omega) h0 (by omega)
    refine ⟨6007 + 1009 * turn + (cutI ns none (some 2)).sum % 1000003, ?_⟩
    simp [sSet, Res.thn, eIf, bIf, eBin, Res.bind, eVar, eC, eCall, aCons, aNil, AR.cons, oLt, oOr, oRel, oI, oLen, oLen1, z, oInt, oAdd, oAddI, oMul, m1, oMod, oSum, oSum1, eSl, pNone, pSome, allInts_map]
theorem well_ok (c0 : Int) (hc0 : 0 ≤ c0) (hc1 : c0 < 10 ^ 9) (ns : List Int) (turn : Int) (w : Wl) (h0 : 0 ≤ turn) (h1 : turn < 1000) : ∃ a b, runN 5 (gWell c0) [.scr ns, .int turn] w = .ok (.lst [.int a, .int b, .int 0]) w ∧ Wk (10 ^ 8) [a, b, 0] := by
  obtain ⟨own, e1⟩ := own_ok ns turn w h0 h1
  have m1 : CMulW 499 turn := mulSmall (by omega) (by omega) h0 (by omega)
  obtain ⟨st, s4, l0, l1, e3⟩ := stir_loop (cutI ns none (some 9)) [] (c0 + 499 * turn) (.dat (.scr ns)) (.dat (.int turn)) (.dat (.int own)) .non w (by omega) (by omega)
  have e2 : (sSet 3 (eBin oAdd (eC (.int c0)) (eBin oMul (eC (.int 499)) (eVar 1)))) [.dat (.scr ns), .dat (.int turn), .dat (.int own), .non, .non] w = .nx [.dat (.scr ns), .dat (.int turn), .dat (.int own), .dat (.int (c0 + 499 * turn)), .non] w := by
    simp [sSet, Res.thn, eBin, Res.bind, eVar, eC, oAdd, oOr, oAddI, oI, oMul, m1]
  have e4 : (sFor (gSeq (eSl (eVar 0) pNone (pSome (eC (.int 9))))) (bName 4) gStir) [.dat (.scr ns), .dat (.int turn), .dat (.int own), .dat (.int (c0 + 499 * turn)), .non] w = .nx [.dat (.scr ns), .dat (.int turn), .dat (.int own), .dat (.int st), s4] w := by
    rw [← e3]
    simp [sFor, AR.thn, gSeq, eSl, Res.bind, eVar, eC, pNone, pSome, D.items]
  have f0 : 0 ≤ own % 2147483549 := Int.emod_nonneg _ (by omega)
  have f1 : own % 2147483549 < 2147483549 := Int.emod_lt_of_pos _ (by omega)
  have m2 : CMulW st 197 := mulSmall l0 (by omega) (by omega) (by omega)
  have m3 : CMulW (own % 2147483549) 30011 := mulSmall f0 (by omega) (by omega) (by omega)
  have pw : CPow 10 18 := by decide
  have sz : 3 ≤ sizeLine := by decide
  refine ⟨if own < 0 ∨ 10 ^ 18 ≤ own then (if own < 0 then -own else own) else 0, (st * 197 + own % 2147483549 * 30011 + 5) % 2147483549, ?_, _, _, _, rfl, ?_, Int.emod_nonneg _ (by omega), Int.emod_lt_of_pos _ (by omega), by omega, by omega⟩
  · unfold runN
    have eS : ([D.scr ns, D.int turn].map Sl.dat ++ List.replicate (5 - [D.scr ns, D.int turn].length) Sl.non) = [.dat (.scr ns), .dat (.int turn), .non, .non, .non] := rfl
    rw [eS]
    unfold gWell
    simp only [sSeq, Out.seq, e1, e2, e4]
    by_cases z1 : own < 0
    · simp [sSet, Res.thn, eIf, bIf, eBin, Res.bind, eVar, eC, eCall, aCons, aNil, AR.cons, oLt, oOr, oRel, oI, oInt, oAdd, oAddI, oMul, m2, m3, oMod, sRetF, eLst, eOr, oGe, oPow, pw, oAbs, z1, sz]
    · by_cases z2 : (1000000000000000000 : Int) ≤ own
      · simp [sSet, Res.thn, eIf, bIf, eBin, Res.bind, eVar, eC, eCall, aCons, aNil, AR.cons, oLt, oOr, oRel, oI, oInt, oAdd, oAddI, oMul, m2, m3, oMod, sRetF, eLst, eOr, oGe, oPow, pw, oAbs, z1, z2, sz]
      · simp [sSet, Res.thn, eIf, bIf, eBin, Res.bind, eVar, eC, eCall, aCons, aNil, AR.cons, oLt, oOr, oRel, oI, oInt, oAdd, oAddI, oMul, m2, m3, oMod, sRetF, eLst, eOr, oGe, oPow, pw, oAbs, z1, z2, sz]
  · split
    · split <;> omega
    · omega
/-! ### the law -/
def eTurn (GR GW : List D → Wl → Res) : EG := eWell 2 GR GW (aCons (eVar 0) (aCons (eVar 1) aNil))
theorem turn_ok {GR GW : List D → Wl → Res} {c0 : Int} (hW : ∀ ds w, ds.length = 2 → GW ds w = runN 5 (gWell c0) ds w) (h0 : 0 ≤ c0) (h1 : c0 < 10 ^ 9) (hR : ∀ w, Wk (10 ^ 8) w → ∃ w', GR [.well] w = .ok (.bl true) w') (ns : List Int) (i : Int) (hi : 0 ≤ i) (hi2 : i < 1000) (w : Wl) :
    eTurn GR GW [.dat (.scr ns), .dat (.int i)] w = .ok (.bl true) w := by
  obtain ⟨a, b, e, k⟩ := well_ok c0 h0 h1 ns i w hi hi2
  obtain ⟨w', eR⟩ := hR _ k
  have eW := (hW [.scr ns, .int i] w rfl).trans e
  simp [eTurn, eWell, aCons, aNil, AR.cons, eVar, eW, allInts, eR]
theorem turns_ok {GR GW : List D → Wl → Res} {c0 : Int} (hW : ∀ ds w, ds.length = 2 → GW ds w = runN 5 (gWell c0) ds w) (h0 : 0 ≤ c0) (h1 : c0 < 10 ^ 9) (hR : ∀ w, Wk (10 ^ 8) w → ∃ w', GR [.well] w = .ok (.bl true) w') (ns : List Int) (w : Wl) :
    ∀ is : List Int, (∀ i ∈ is, 0 ≤ i ∧ i < 1000) → lcG (bName 1) eYes (eTurn GR GW) [.dat (.scr ns), .non] (is.map .int) w = .ok (List.replicate is.length (.bl true)) w
  | [], _ => rfl
  | i :: is, h => by
    have hi := h i List.mem_cons_self
    have e := turn_ok hW h0 h1 hR ns i hi.1 hi.2 w
    have ih := turns_ok hW h0 h1 hR ns w is fun j hj => h j (List.mem_cons_of_mem _ hj)
    simp [lcG, bName, eYes, e, ih, AR.cons, List.replicate_succ]
theorem allBls_rep : ∀ n : Nat, allBls (List.replicate n (D.bl true)) = some (List.replicate n true)
  | 0 => rfl
  | n + 1 => by
    rw [List.replicate_succ, List.replicate_succ]
    simp only [allBls, allBls_rep n, Option.map_some]
theorem lawG_ok {GR GW : List D → Wl → Res} {c0 : Int} (hW : ∀ ds w, ds.length = 2 → GW ds w = runN 5 (gWell c0) ds w) (h0 : 0 ≤ c0) (h1 : c0 < 10 ^ 9) (hR : ∀ w, Wk (10 ^ 8) w → ∃ w', GR [.well] w = .ok (.bl true) w') (ns : List Int) (w : Wl) {g : EG} {n : Int}
    (hg : g [.dat (.scr ns), .non] w = .ok (.int n) w) (hn : 0 ≤ n) (hn2 : n < 1000) : runG 2 (sRet (eCall oAll (aCons (eLc (gRng1 (aCons g aNil)) (bName 1) eYes (eTurn GR GW) [1]) aNil))) [.scr ns] w = .ok (.bl true) w := by
  have e1 : dInts 0 1 n.toNat = ((List.range n.toNat).map fun i => ((i : Nat) : Int)).map D.int := by
    unfold dInts
    rw [List.map_map]
    refine List.map_congr_left fun i _ => ?_
    show D.int (0 + (i : Int) * 1) = D.int i
    congr 1
    omega
  have e2 := turns_ok hW h0 h1 hR ns w ((List.range n.toNat).map fun i => ((i : Nat) : Int)) fun i hi => by
    obtain ⟨j, hj, rfl⟩ := List.mem_map.mp hi
    have := List.mem_range.mp hj
    omega
  have sm : small n = true := by
    unfold small
    simp
    omega
  have sz : n.toNat ≤ sizeLine := Nat.le_trans (by omega) (show 1000 ≤ sizeLine by decide)
  have eS : ([D.scr ns].map Sl.dat ++ List.replicate (2 - [D.scr ns].length) Sl.non) = [.dat (.scr ns), .non] := rfl
  have eL : (dInts 0 1 n.toNat).length = n.toNat := by simp [dInts]
  have ew : wipeE [.dat (.scr ns), .non] [1] = [.dat (.scr ns), .non] := rfl
  unfold runG
  rw [eS]
  simp only [sRet, Res.thn, eCall, aCons, aNil, eLc, gRng1, hg, AR.cons, sm, if_true, eL, sz, ew]
  rw [e1, e2]
  simp [oAll, oAll1, allBls_rep, AR.cons]
/-- max(2, min(len(script), k)) -/
theorem many_ok (ns : List Int) (k : Int) (w : Wl) (hk : 2 ≤ k) (hk2 : k < 1000) : ∃ n, (eCall oMax (aCons (eC (.int 2)) (aCons (eCall oMin (aCons (eCall oLen (aCons (eVar 0) aNil)) (aCons (eC (.int k)) aNil))) aNil))) [.dat (.scr ns), .non] w = .ok (.int n) w ∧ 0 ≤ n ∧ n < 1000 := by
  by_cases z : k < ns.length
  · by_cases z2 : (2 : Int) < k
    · exact ⟨k, by simp [eCall, aCons, aNil, AR.cons, eC, eVar, oLen, oLen1, oMin, oMax, z, z2], by omega, hk2⟩
    · exact ⟨2, by simp [eCall, aCons, aNil, AR.cons, eC, eVar, oLen, oLen1, oMin, oMax, z, z2], by omega, by omega⟩
  · by_cases z2 : (2 : Int) < ns.length
    · exact ⟨ns.length, by simp [eCall, aCons, aNil, AR.cons, eC, eVar, oLen, oLen1, oMin, oMax, z, z2], by omega, by omega⟩
    · exact ⟨2, by simp [eCall, aCons, aNil, AR.cons, eC, eVar, oLen, oLen1, oMin, oMax, z, z2], by omega, by omega⟩
end DL

/-! DL, part y: what printed functions answer on data that stand for lists, pairs and so on. -/
namespace DL
open PySem PySem.Spec L2
open PyProof.Rows hiding St

section
variable {α β : Type} {b : BG} {gt ge : EG} {gi : AG} {S en : List Sl} {w : Wl} {vs : List Nat}
theorem lc_ev (enc : α → D) (p : α → Bool) (f : α → D) : ∀ xs : List α, (∀ x ∈ xs, ∃ S', b (enc x) S = some S' ∧ gt S' w = .ok (.bl (p x)) w ∧ (p x = true → ge S' w = .ok (f x) w)) → lcG b gt ge S (xs.map enc) w = .ok ((xs.filter p).map f) w
  | [], _ => rfl
  | x :: xs, h => by
    obtain ⟨S', h1, h2, h3⟩ := h x List.mem_cons_self
    have ih := lc_ev enc p f xs fun y hy => h y (List.mem_cons_of_mem _ hy)
    cases hp : p x with
    | true =>
      have h3 := h3 hp
      rw [hp] at h2
      simp [lcG, h1, h2, h3, ih, hp, AR.cons]
    | false =>
      rw [hp] at h2
      simp [lcG, h1, h2, ih, hp]
theorem eLc_ev (enc : α → D) (p : α → Bool) (f : α → D) (xs : List α) (hg : gi en w = .ok (xs.map enc) w) (hl : xs.length ≤ sizeLine)
    (h : ∀ x ∈ xs, ∃ S', b (enc x) (wipeE en vs) = some S' ∧ gt S' w = .ok (.bl (p x)) w ∧ (p x = true → ge S' w = .ok (f x) w)) : eLc gi b gt ge vs en w = .ok (.lst ((xs.filter p).map f)) w := by
  unfold eLc
  rw [hg]
  simp only [List.length_map, hl, if_true, lc_ev enc p f xs h]
theorem eLcY_ev (enc : α → D) (f : α → D) (xs : List α) (hg : gi en w = .ok (xs.map enc) w) (hl : xs.length ≤ sizeLine)
    (h : ∀ x ∈ xs, ∃ S', b (enc x) (wipeE en vs) = some S' ∧ ge S' w = .ok (f x) w) : eLc gi b eYes ge vs en w = .ok (.lst (xs.map f)) w := by
  have := eLc_ev (b := b) (gt := eYes) (ge := ge) (vs := vs) enc (fun _ => true) f xs hg hl fun x hx => by
    obtain ⟨S', h1, h2⟩ := h x hx
    exact ⟨S', h1, rfl, fun _ => h2⟩
  rwa [List.filter_eq_self.mpr fun _ _ => rfl] at this
theorem allBls_map (p : α → Bool) : ∀ xs : List α, allBls (xs.map fun x => D.bl (p x)) = some (xs.map p)
  | [] => rfl
  | x :: xs => by
    rw [List.map_cons]
    simp only [allBls, allBls_map p xs, Option.map_some, List.map_cons]
theorem all_ev (enc : α → D) (p : α → Bool) (xs : List α) (hg : gi en w = .ok (xs.map enc) w) (hl : xs.length ≤ sizeLine)
    (h : ∀ x ∈ xs, ∃ S', b (enc x) (wipeE en vs) = some S' ∧ ge S' w = .ok (.bl (p x)) w) : eCall oAll (aCons (eLc gi b eYes ge vs) aNil) en w = .ok (.bl (xs.all p)) w := by
  have e := eLcY_ev (b := b) (ge := ge) (vs := vs) enc (fun x => .bl (p x)) xs hg hl h
  simp [eCall, aCons, aNil, AR.cons, e, oAll, oAll1, allBls_map, List.all_map, Function.comp_def]
theorem any_ev (enc : α → D) (p : α → Bool) (xs : List α) (hg : gi en w = .ok (xs.map enc) w) (hl : xs.length ≤ sizeLine)
    (h : ∀ x ∈ xs, ∃ S', b (enc x) (wipeE en vs) = some S' ∧ ge S' w = .ok (.bl (p x)) w) : eCall oAny (aCons (eLc gi b eYes ge vs) aNil) en w = .ok (.bl (xs.any p)) w := by
  have e := eLcY_ev (b := b) (ge := ge) (vs := vs) enc (fun x => .bl (p x)) xs hg hl h
  simp [eCall, aCons, aNil, AR.cons, e, oAny, oAny1, allBls_map, List.any_map, Function.comp_def]
/-- tuple of a comprehension -/
theorem tup_ev {w1 : Wl} {g : EG} {ds : List D} (h : g en w = .ok (.lst ds) w1) : eCall oTup (aCons g aNil) en w = .ok (.tup ds) w1 := by
  simp [eCall, aCons, aNil, AR.cons, h, oTup, oTup1]
theorem seq_lst {g : EG} {ds : List D} (h : g en w = .ok (.lst ds) w) : gSeq g en w = .ok ds w := by simp [gSeq, h, D.items]
end

/-! ### equality of data -/
theorem Shp.sh {k : Nat} {d : D} (h : Shp k d) (hk : k ≤ 64 := by decide) : d.sh = true := by
  obtain ⟨a, b, c⟩ := h
  have : d.toP.depth ≤ 64 := Nat.le_trans c hk
  simp [D.sh, a, SeqAt.shaped, b, this]
theorem shp_int (i : Int) (k : Nat) : Shp k (.int i) := ⟨rfl, rfl, Nat.zero_le _⟩
theorem shp_bl (b : Bool) (k : Nat) : Shp k (.bl b) := ⟨rfl, rfl, Nat.zero_le _⟩
theorem shps {k : Nat} : ∀ {ds : List D}, (∀ d ∈ ds, Shp k d) → arePs ds = true ∧ PyData.canLayAll0 (toPs ds) = true ∧ PyData.depthAll (toPs ds) ≤ k
  | [], _ => ⟨rfl, rfl, Nat.zero_le _⟩
  | d :: ds, h => by
    obtain ⟨a, b, c⟩ := h d List.mem_cons_self
    obtain ⟨a', b', c'⟩ := shps (k := k) (ds := ds) fun x hx => h x (List.mem_cons_of_mem _ hx)
    refine ⟨?_, ?_, ?_⟩
    · show (d.isP && arePs ds) = true
      rw [a, a']; rfl
    · show (d.toP.canLay0 && PyData.canLayAll0 (toPs ds)) = true
      rw [b, b']; rfl
    · show max d.toP.depth (PyData.depthAll (toPs ds)) ≤ k
      omega
theorem shp_tup {k : Nat} {ds : List D} (h : ∀ d ∈ ds, Shp k d) : Shp (k + 1) (.tup ds) := by
  obtain ⟨a, b, c⟩ := shps h
  exact ⟨a, b, Nat.succ_le_succ c⟩
theorem shp_lst {k : Nat} {ds : List D} (h : ∀ d ∈ ds, Shp k d) : Shp (k + 1) (.lst ds) := by
  obtain ⟨a, b, c⟩ := shps h
  exact ⟨a, b, Nat.succ_le_succ c⟩
theorem shp_map {α : Type} {k : Nat} {enc : α → D} (h : ∀ x, Shp k (enc x)) (xs : List α) : ∀ d ∈ xs.map enc, Shp k d := fun d hd => by
  obtain ⟨x, _, rfl⟩ := List.mem_map.mp hd
  exact h x
theorem shp_two {k : Nat} {d e : D} (h : Shp k d) (h' : Shp k e) : ∀ x ∈ [d, e], Shp k x := fun x hx => by
  simp only [List.mem_cons, List.not_mem_nil, or_false] at hx
  rcases hx with rfl | rfl
  · exact h
  · exact h'
section
variable {α β γ : Type} [DecidableEq α] [DecidableEq β] [DecidableEq γ] {enc : α → D} {en2 : β → D} {en3 : γ → D}
theorem eqs_int : Eqs D.int := fun x y => by
  show (x == y) = decide (x = y)
  cases h : decide (x = y) <;> simp_all
theorem Eqs.pair (h : Eqs enc) (h2 : Eqs en2) : Eqs fun p : α × β => D.tup [enc p.1, en2 p.2] := fun p q => by
  show ((enc p.1).eqv (enc q.1) && ((en2 p.2).eqv (en2 q.2) && true)) = _
  rw [h, h2]
  obtain ⟨a, b⟩ := p
  obtain ⟨c, d⟩ := q
  by_cases e : a = c <;> by_cases e2 : b = d <;> simp [e, e2]
theorem isIn_iff (h : Eqs enc) (x : α) : ∀ xs : List α, isIn (enc x) (xs.map enc) = true ↔ x ∈ xs
  | [] => by simp [isIn]
  | y :: ys => by
    have : isIn (enc x) ((y :: ys).map enc) = ((enc y).eqv (enc x) || isIn (enc x) (ys.map enc)) := rfl
    rw [this, h, Bool.or_eq_true, isIn_iff h x ys, List.mem_cons, decide_eq_true_iff]
    constructor
    · rintro (e | e)
      · exact .inl e.symm
      · exact .inr e
    · rintro (e | e)
      · exact .inl e.symm
      · exact .inr e
theorem isIn_map (h : Eqs enc) (x : α) (xs : List α) [Decidable (x ∈ xs)] : isIn (enc x) (xs.map enc) = decide (x ∈ xs) := by
  rw [Bool.eq_iff_iff, decide_eq_true_iff, isIn_iff h]
theorem eqv_dec (h : Eqs enc) (x y : α) [Decidable (x = y)] : (enc x).eqv (enc y) = decide (x = y) := (h x y).trans ((@decide_eq_decide _ _ _ _).mpr Iff.rfl)
theorem oEq_ev {w : Wl} {k m : Nat} (h : Eqs enc) (x y : α) [Decidable (x = y)] (hx : Shp k (enc x)) (hy : Shp m (enc y)) (hk : k ≤ 64 := by decide) (hm : m ≤ 64 := by decide) : oEq (enc x) (enc y) w = .ok (.bl (decide (x = y))) w := by
  simp only [oEq, hx.sh hk, hy.sh hm, Bool.and_self, if_true, eqv_dec h x y]
theorem oNe_ev {w : Wl} {k m : Nat} (h : Eqs enc) (x y : α) [Decidable (x = y)] (hx : Shp k (enc x)) (hy : Shp m (enc y)) (hk : k ≤ 64 := by decide) (hm : m ≤ 64 := by decide) : oNe (enc x) (enc y) w = .ok (.bl (!decide (x = y))) w := by
  simp only [oNe, hx.sh hk, hy.sh hm, Bool.and_self, if_true, eqv_dec h x y]
theorem oInT_ev {w : Wl} {k : Nat} (h : Eqs enc) (x : α) (xs : List α) [Decidable (x ∈ xs)] (hx : ∀ z, Shp k (enc z)) (hk : k ≤ 63 := by decide) : oIn (enc x) (.tup (xs.map enc)) w = .ok (.bl (decide (x ∈ xs))) w := by
  have h1 : (enc x).sh = true := (hx x).sh (by omega)
  have h2 : (D.tup (xs.map enc)).sh = true := (shp_tup (shp_map hx xs)).sh (by omega)
  simp [oIn, D.items, h1, h2, isIn_map h]
theorem oInL_ev {w : Wl} {k : Nat} (h : Eqs enc) (x : α) (xs : List α) [Decidable (x ∈ xs)] (hx : ∀ z, Shp k (enc z)) (hk : k ≤ 63 := by decide) : oIn (enc x) (.lst (xs.map enc)) w = .ok (.bl (decide (x ∈ xs))) w := by
  have h1 : (enc x).sh = true := (hx x).sh (by omega)
  have h2 : (D.lst (xs.map enc)).sh = true := (shp_lst (shp_map hx xs)).sh (by omega)
  simp [oIn, D.items, h1, h2, isIn_map h]
theorem oNotInT_ev {w : Wl} {k : Nat} (h : Eqs enc) (x : α) (xs : List α) [Decidable (x ∈ xs)] (hx : ∀ z, Shp k (enc z)) (hk : k ≤ 63 := by decide) : oNotIn (enc x) (.tup (xs.map enc)) w = .ok (.bl (!decide (x ∈ xs))) w := by
  have h1 : (enc x).sh = true := (hx x).sh (by omega)
  have h2 : (D.tup (xs.map enc)).sh = true := (shp_tup (shp_map hx xs)).sh (by omega)
  simp [oNotIn, D.items, h1, h2, isIn_map h]
theorem oNotInL_ev {w : Wl} {k : Nat} (h : Eqs enc) (x : α) (xs : List α) [Decidable (x ∈ xs)] (hx : ∀ z, Shp k (enc z)) (hk : k ≤ 63 := by decide) : oNotIn (enc x) (.lst (xs.map enc)) w = .ok (.bl (!decide (x ∈ xs))) w := by
  have h1 : (enc x).sh = true := (hx x).sh (by omega)
  have h2 : (D.lst (xs.map enc)).sh = true := (shp_lst (shp_map hx xs)).sh (by omega)
  simp [oNotIn, D.items, h1, h2, isIn_map h]
end
/-! ### sets: ascending tuples of indexes -/
def encI (s : IS) : D := .tup (s.map .int)
theorem eqs_set : Eqs encI := eqs_int.tup
theorem shp_set (s : IS) : Shp 1 (encI s) := shp_tup (shp_map (fun x => shp_int x 0) s)
def encSs (ss : List IS) : D := .tup (ss.map encI)
theorem dInts_map (n : Nat) : dInts 0 1 n = ((List.range n).map fun i => ((i : Nat) : Int)).map D.int := by
  unfold dInts
  rw [List.map_map]
  refine List.map_congr_left fun i _ => ?_
  show D.int (0 + (i : Int) * 1) = D.int i
  congr 1
  omega
def upto (n : Nat) : IS := (List.range n).map fun i => ((i : Nat) : Int)
theorem rng_ev {g : AG} {en : List Sl} {w : Wl} {n : Int} (h : g en w = .ok [.int n] w) (hn : small n = true) : gRng1 g en w = .ok ((upto n.toNat).map .int) w := by
  simp only [gRng1, h, hn, if_true, dInts_map, upto]
theorem mem_upto {n : Nat} {i : Int} : i ∈ upto n ↔ 0 ≤ i ∧ i < n := by
  unfold upto
  rw [List.mem_map]
  constructor
  · rintro ⟨j, hj, rfl⟩
    have := List.mem_range.mp hj
    omega
  · intro h
    exact ⟨i.toNat, List.mem_range.mpr (by omega), by omega⟩
/-! ### the text of data -/
theorem low_app {x y : Str} (hx : Low x) (hy : Low y) : Low (x ++ y) := fun c h => by
  rw [mem_cps_append] at h
  exact h.elim (hx c) (hy c)
theorem low_join {xs : List Str} (h : ∀ x ∈ xs, Low x) : Low (Str.join ", " xs) := fun c hc => by
  rw [mem_join] at hc
  rcases hc with ⟨t, ht, hc⟩ | ⟨_, hc⟩
  · exact h t ht c hc
  · rw [signs_sep] at hc
    simp only [List.mem_cons, List.not_mem_nil, or_false] at hc
    omega
theorem low_ok {x : Str} (h : Low x) : PyData.strOk x = true := by
  unfold PyData.strOk
  rw [Array.all_eq_true_iff_forall_mem]
  intro c hc
  have := h c (by simpa using hc)
  simp
  omega
end DL

/-! DL, part z: statements of printed functions, loops, draws. -/
namespace DL
open PySem PySem.Spec L2
open PyProof.Rows hiding St
section
variable {α β : Type} {b : BG} {gt ge g : EG} {gi : AG} {S en en1 en2 : List Sl} {w w1 w2 : Wl} {vs : List Nat} {body h k : SG} {d : D} {i : Nat}
theorem run_rt {m : Nat} {gs : SG} {ds : List D} (hh : gs (ds.map .dat ++ List.replicate (m - ds.length) .non) w = .rt d w1) : runG m gs ds w = .ok d w1 := by
  simp only [runG, hh]
theorem run_nx {m : Nat} {gs : SG} {ds : List D} (hh : gs (ds.map .dat ++ List.replicate (m - ds.length) .non) w = .nx en1 w1) : runG m gs ds w = .ok .non w1 := by
  simp only [runG, hh]
theorem seq_nx (hh : h en w = .nx en1 w1) : sSeq h k en w = k en1 w1 := by simp only [sSeq, hh, Out.seq]
theorem set_seq (hh : g en w = .ok d w1) : sSeq (sSet i g) k en w = k (en.set i (.dat d)) w1 := by simp only [sSeq, sSet, hh, Res.thn, Out.seq]
theorem drop_seq (hh : g en w = .ok d w1) : sSeq (sDrop g) k en w = k en w1 := by simp only [sSeq, sDrop, hh, Res.thn, Out.seq]
theorem own_seq {ds : List D} (hh : g en w = .ok (.lst ds) w1) : sSeq (sOwn i g) k en w = k (en.set i (.own ds)) w1 := by simp only [sSeq, sOwn, hh, Res.thn, Out.seq]
theorem asg_seq (hh : g en w = .ok d w1) (hb : b d en = some en1) : sSeq (sAsg g b) k en w = k en1 w1 := by simp only [sSeq, sAsg, hh, hb, Res.thn, Out.seq]
theorem ifF_seq (hh : g en w = .ok (.bl false) w1) : sSeq (sIf g h sPass) k en w = k en w1 := by simp only [sSeq, sIf, hh, Res.thn, sPass, Out.seq]
theorem ifT_seq (hh : g en w = .ok (.bl true) w1) : sSeq (sIf g h body) k en w = sSeq h k en w1 := by simp only [sSeq, sIf, hh, Res.thn]
theorem ifF (hh : g en w = .ok (.bl false) w1) : sIf g h body en w = body en w1 := by simp only [sIf, hh, Res.thn]
theorem ifT (hh : g en w = .ok (.bl true) w1) : sIf g h body en w = h en w1 := by simp only [sIf, hh, Res.thn]
theorem ret_ev (hh : g en w = .ok d w1) : sRet g en w = .rt d w1 := by simp only [sRet, hh, Res.thn]
theorem set_ev (hh : g en w = .ok d w1) : sSet i g en w = .nx (en.set i (.dat d)) w1 := by simp only [sSet, hh, Res.thn]
theorem for_ev {ds : List D} (hg : gi en w = .ok ds w1) : sFor gi b body en w = forG b body ds en w1 := by simp only [sFor, hg, AR.thn]
theorem bin_ev {o : D → D → Wl → Res} {ga gb : EG} {e : D} (h1 : ga en w = .ok d w1) (h2 : gb en w1 = .ok e w2) : eBin o ga gb en w = o d e w2 := by simp only [eBin, h1, h2, Res.bind]
theorem un_ev {o : D → Wl → Res} {ga : EG} (h1 : ga en w = .ok d w1) : eUn o ga en w = o d w1 := by simp only [eUn, h1, Res.bind]
theorem tru_ev {ga : EG} {c : Bool} (h1 : ga en w = .ok (.bl c) w1) : eUn oTru ga en w = .ok (.bl c) w1 := un_ev h1
theorem not_ev {ga : EG} {c : Bool} (h1 : ga en w = .ok (.bl c) w1) : eNot ga en w = .ok (.bl (!c)) w1 := by simp only [eNot, h1, bNot]
theorem or_F {ga gb : EG} (h1 : ga en w = .ok (.bl false) w1) : eOr ga gb en w = gb en w1 := by simp only [eOr, h1, bIf]
theorem or_T {ga gb : EG} (h1 : ga en w = .ok (.bl true) w1) : eOr ga gb en w = .ok (.bl true) w1 := by simp only [eOr, h1, bIf]
theorem and_T {ga gb : EG} (h1 : ga en w = .ok (.bl true) w1) : eAnd ga gb en w = gb en w1 := by simp only [eAnd, h1, bIf]
theorem and_F {ga gb : EG} (h1 : ga en w = .ok (.bl false) w1) : eAnd ga gb en w = .ok (.bl false) w1 := by simp only [eAnd, h1, bIf]
theorem and_ev {ga gb : EG} {c e : Bool} (h1 : ga en w = .ok (.bl c) w) (h2 : gb en w = .ok (.bl e) w) : eAnd ga gb en w = .ok (.bl (c && e)) w := by
  cases c
  · exact and_F h1
  · exact (and_T h1).trans h2
theorem if_T {gc ga gb : EG} (h1 : gc en w = .ok (.bl true) w1) : eIf gc ga gb en w = ga en w1 := by simp only [eIf, h1, bIf]
theorem if_F {gc ga gb : EG} (h1 : gc en w = .ok (.bl false) w1) : eIf gc ga gb en w = gb en w1 := by simp only [eIf, h1, bIf]
theorem cons_ev {ga : EG} {gr : AG} {ds : List D} (h1 : ga en w = .ok d w1) (h2 : gr en w1 = .ok ds w2) : aCons ga gr en w = .ok (d :: ds) w2 := by simp only [aCons, h1, h2, AR.cons]
theorem one_ev {ga : EG} (h1 : ga en w = .ok d w1) : aCons ga aNil en w = .ok [d] w1 := by simp only [aCons, h1, aNil, AR.cons]
theorem call_ev {o : List D → Wl → Res} {ga : AG} {ds : List D} (h1 : ga en w = .ok ds w1) : eCall o ga en w = o ds w1 := by simp only [eCall, h1]
theorem etup_ev {ga : AG} {ds : List D} (h1 : ga en w = .ok ds w1) (hl : ds.length ≤ sizeLine) : eTup ga en w = .ok (.tup ds) w1 := by simp only [eTup, h1, hl, if_true]
theorem elst_ev {ga : AG} {ds : List D} (h1 : ga en w = .ok ds w1) (hl : ds.length ≤ sizeLine) : eLst ga en w = .ok (.lst ds) w1 := by simp only [eLst, h1, hl, if_true]
theorem efn_ev {n : Nat} {G : List D → Wl → Res} {ga : AG} {ds : List D} (h1 : ga en w = .ok ds w1) (hn : ds.length = n) : eFn n G ga en w = G ds w1 := by simp only [eFn, h1, hn, if_true]
theorem len_ev {ga : EG} {ds : List D} (h1 : ga en w = .ok (.lst ds) w1) : eCall oLen (aCons ga aNil) en w = .ok (.int ds.length) w1 := call_ev (one_ev h1)
theorem lenT_ev {ga : EG} {ds : List D} (h1 : ga en w = .ok (.tup ds) w1) : eCall oLen (aCons ga aNil) en w = .ok (.int ds.length) w1 := call_ev (one_ev h1)
theorem for_cons {ds : List D} (hb : b d en = some en1) (h1 : body en1 w = .nx en2 w2) : forG b body (d :: ds) en w = forG b body ds en2 w2 := by simp only [forG, hb, h1]
theorem for_rt {ds : List D} {z : D} (hb : b d en = some en1) (h1 : body en1 w = .rt z w2) : forG b body (d :: ds) en w = .rt z w2 := by simp only [forG, hb, h1]
/-- a loop that goes to its end: what holds of the rest, the slots and the generator -/
theorem for_inv (enc : α → D) (I : List α → List Sl → Wl → Prop) (hs : ∀ x xs en w, I (x :: xs) en w → ∃ en1 en2 w2, b (enc x) en = some en1 ∧ body en1 w = .nx en2 w2 ∧ I xs en2 w2) :
    ∀ (xs : List α) (en : List Sl) (w : Wl), I xs en w → ∃ en' w', forG b body (xs.map enc) en w = .nx en' w' ∧ I [] en' w'
  | [], en, w, h => ⟨en, w, rfl, h⟩
  | x :: xs, en, w, h => by
    obtain ⟨en1, en2, w2, h1, h2, h3⟩ := hs x xs en w h
    obtain ⟨en', w', h4, h5⟩ := for_inv enc I hs xs en2 w2 h3
    refine ⟨en', w', ?_, h5⟩
    simp only [List.map_cons, forG, h1, h2, h4]
/-- draws in a comprehension's condition -/
theorem lc_draw (enc : α → D) (P : α → Prop) (J : Nat → Wl → Prop) : ∀ (xs : List α) (k : Nat) (w : Wl), J (xs.length + k) w →
      (∀ x ∈ xs, ∃ S', b (enc x) S = some S' ∧ (∀ w, ge S' w = .ok (enc x) w) ∧ ∀ j w, J (j + 1) w → ∃ c w1, gt S' w = .ok (.bl c) w1 ∧ (c = true → P x) ∧ J j w1) →
      ∃ (zs : List α) (w' : Wl), lcG b gt ge S (xs.map enc) w = .ok (zs.map enc) w' ∧ zs.Sublist xs ∧ (∀ z ∈ zs, P z) ∧ J k w'
  | [], k, w, hJ, _ => ⟨[], w, rfl, .slnil, by simp, by simpa using hJ⟩
  | x :: xs, k, w, hJ, h => by
    obtain ⟨S', h1, h2, h3⟩ := h x List.mem_cons_self
    obtain ⟨c, w1, h4, h5, h6⟩ := h3 (xs.length + k) w (by rw [List.length_cons, Nat.add_right_comm] at hJ; exact hJ)
    obtain ⟨zs, w', e, s, p, j⟩ := lc_draw enc P J xs k w1 h6 fun y hy => h y (List.mem_cons_of_mem _ hy)
    cases c with
    | true =>
      refine ⟨x :: zs, w', ?_, s.cons_cons x, ?_, j⟩
      · simp only [List.map_cons, lcG, h1, h4, h2, e, AR.cons]
      · intro z hz
        rcases List.mem_cons.mp hz with rfl | hz
        · exact h5 rfl
        · exact p z hz
    | false =>
      refine ⟨zs, w', ?_, s.cons x, p, j⟩
      simp only [List.map_cons, lcG, h1, h4, e]
theorem eLc_draw (enc : α → D) (P : α → Prop) (J : Nat → Wl → Prop) (xs : List α) (k : Nat) (hg : gi en w = .ok (xs.map enc) w1) (hl : xs.length ≤ sizeLine) (hJ : J (xs.length + k) w1)
      (h : ∀ x ∈ xs, ∃ S', b (enc x) (wipeE en vs) = some S' ∧ (∀ w, ge S' w = .ok (enc x) w) ∧ ∀ j w, J (j + 1) w → ∃ c w1, gt S' w = .ok (.bl c) w1 ∧ (c = true → P x) ∧ J j w1) :
      ∃ (zs : List α) (w' : Wl), eLc gi b gt ge vs en w = .ok (.lst (zs.map enc)) w' ∧ zs.Sublist xs ∧ (∀ z ∈ zs, P z) ∧ J k w' := by
  obtain ⟨zs, w', e, r⟩ := lc_draw enc P J xs k w1 hJ h
  refine ⟨zs, w', ?_, r⟩
  simp only [eLc, hg, List.length_map, hl, if_true, e]
end
/-! ### set families -/
/-- lists of whole numbers, compared place by place -/
theorem lex_cons (a : Int) (s t : IS) : HT.lexLt (a :: s) (a :: t) = HT.lexLt s t := by
  rw [HT.lexLt_cons, if_pos rfl]
theorem lex_lt {a b : Int} (h : a < b) (s t : IS) : HT.lexLt (a :: s) (b :: t) = true := by
  rw [HT.lexLt_cons, if_neg (by omega)]
  exact decide_eq_true h
theorem setsFrom_lex : ∀ (k : Nat) (lo : Int), (setsFrom lo k).Pairwise fun s t => HT.lexLt s t = true
  | 0, _ => List.Pairwise.nil
  | k + 1, lo => by
    have ih := setsFrom_lex k (lo + 1)
    have hd : ∀ t ∈ setsFrom (lo + 1) k, ∃ a r, t = a :: r ∧ lo < a := fun t ht => by
      obtain ⟨h1, _, h3⟩ := (mem_setsFrom k (lo + 1) t).mp ht
      cases t with
      | nil => exact absurd rfl h1
      | cons a r => exact ⟨a, r, rfl, by have := h3 a List.mem_cons_self; omega⟩
    rw [setsFrom]
    refine List.pairwise_cons.mpr ⟨fun t ht => ?_, List.pairwise_append.mpr ⟨?_, ih, fun s hs t ht => ?_⟩⟩
    · rcases List.mem_append.mp ht with ht | ht
      · obtain ⟨u, hu, rfl⟩ := List.mem_map.mp ht
        obtain ⟨a, r, rfl, _⟩ := hd u hu
        rw [lex_cons]
        rfl
      · obtain ⟨a, r, rfl, h⟩ := hd t ht
        exact lex_lt h _ _
    · rw [List.pairwise_map]
      exact ih.imp fun h => by rw [lex_cons]; exact h
    · obtain ⟨u, _, rfl⟩ := List.mem_map.mp hs
      obtain ⟨a, r, rfl, h⟩ := hd t ht
      exact lex_lt h _ _
end DL

/-! DL, part zb: data that can be shown. -/
namespace DL
open PySem PySem.Spec L2
open PyProof.Rows hiding St
theorem shw_bl (b : Bool) (k : Nat) : Shw k 5 (.bl b) := by
  refine ⟨shp_bl b k, rfl, by cases b <;> decide, fun c hc => ?_⟩
  cases b with
  | true =>
    have e : (PyData.bool true).shown.cps.toList = [84, 114, 117, 101] := by decide
    rw [show (D.bl true).toP = PyData.bool true from rfl, e] at hc
    simp only [List.mem_cons, List.not_mem_nil, or_false] at hc
    omega
  | false =>
    have e : (PyData.bool false).shown.cps.toList = [70, 97, 108, 115, 101] := by decide
    rw [show (D.bl false).toP = PyData.bool false from rfl, e] at hc
    simp only [List.mem_cons, List.not_mem_nil, or_false] at hc
    omega
theorem shws {k b : Nat} : ∀ {ds : List D}, (∀ d ∈ ds, Shw k b d) → PyData.showableAll (toPs ds) = true ∧ ((PyData.shownAll (toPs ds)).map (·.length)).sum ≤ ds.length * b ∧ (PyData.shownAll (toPs ds)).length = ds.length ∧ ∀ t ∈ PyData.shownAll (toPs ds), Low t
  | [], _ => ⟨rfl, Nat.zero_le _, rfl, fun t ht => by rw [show PyData.shownAll (toPs []) = [] from rfl] at ht; cases ht⟩
  | d :: ds, h => by
    have h0 := h d List.mem_cons_self
    obtain ⟨a, b', c, e⟩ := shws (k := k) (b := b) (ds := ds) fun x hx => h x (List.mem_cons_of_mem _ hx)
    have es : PyData.shownAll (toPs (d :: ds)) = d.toP.shown :: PyData.shownAll (toPs ds) := rfl
    refine ⟨?_, ?_, ?_, fun t ht => ?_⟩
    · show (d.toP.showable && PyData.showableAll (toPs ds)) = true
      rw [h0.show_, a]; rfl
    · rw [es, List.map_cons, List.sum_cons, List.length_cons, Nat.add_mul]
      have := h0.len
      omega
    · rw [es, List.length_cons, List.length_cons, c]
    · rw [es] at ht
      rcases List.mem_cons.mp ht with rfl | ht
      · exact h0.low
      · exact e t ht
theorem low_lst {xs : List Str} (h : ∀ x ∈ xs, Low x) : Low (listText xs) := by
  rw [listText_eq_join]
  refine low_app (low_app ?_ (low_join h)) ?_
  · intro c hc
    rw [signs_lbrack] at hc
    simp only [List.mem_cons, List.not_mem_nil, or_false] at hc
    omega
  · intro c hc
    rw [signs_rbrack] at hc
    simp only [List.mem_cons, List.not_mem_nil, or_false] at hc
    omega
theorem shw_lst {k b : Nat} {ds : List D} (h : ∀ d ∈ ds, Shw k b d) : Shw (k + 1) (ds.length * (b + 2) + 3) (.lst ds) := by
  obtain ⟨a, b', c, e⟩ := shws h
  refine ⟨shp_lst fun d hd => (h d hd).shp, a, ?_, low_lst e⟩
  have := listText_len_le (PyData.shownAll (toPs ds))
  show (listText (PyData.shownAll (toPs ds))).length ≤ _
  rw [Nat.mul_add]
  omega
theorem repr_ok {k b : Nat} {d : D} (h : Shw k b d) (hk : k ≤ 60) (hb : b ≤ 16777216) : ∃ s : Str, PyData.strOk s = true ∧ ∀ w, oRepr [d] w = .ok (.str s) w := by
  refine ⟨d.toP.shown, low_ok h.low, fun w => ?_⟩
  have h1 : d.toP.shown.length ≤ sizeLine := Nat.le_trans h.len (Nat.le_trans hb (by decide))
  have h2 : d.toP.depth ≤ 60 := Nat.le_trans h.shp.2.2 hk
  simp only [oRepr, oRepr1, h.shp.1, h.show_, h1, h2, decide_true, Bool.and_self, if_true]
theorem sh_str {s : Str} (h : PyData.strOk s = true) : (D.str s).sh = true := by
  simp only [D.sh, D.isP, D.toP, SeqAt.shaped, PyData.canLay0, PyData.depth, h]
  rfl
theorem eqv_str (s : Str) : (D.str s).eqv (.str s) = true := by
  show (s == s) = true
  simp
theorem oEq_str {s : Str} (h : PyData.strOk s = true) (w : Wl) : oEq (.str s) (.str s) w = .ok (.bl true) w := by
  simp only [oEq, sh_str h, eqv_str s, Bool.and_self, if_true]
theorem reprEq_ev {k b : Nat} {d : D} {ga gb : EG} {en : List Sl} {w w1 w2 : Wl} (h : Shw k b d) (h1 : ga en w = .ok d w1) (h2 : gb en w1 = .ok d w2) (hk : k ≤ 60 := by decide) (hb : b ≤ 16777216 := by decide) :
    eBin oEq (eCall oRepr (aCons ga aNil)) (eCall oRepr (aCons gb aNil)) en w = .ok (.bl true) w2 := by
  obtain ⟨s, s1, s2⟩ := repr_ok h hk hb
  exact (bin_ev (d := .str s) (e := .str s) ((call_ev (one_ev h1)).trans (s2 _)) ((call_ev (one_ev h2)).trans (s2 _))).trans (oEq_str s1 _)
theorem par_seq {i j : Nat} {g : AG} {k : SG} {en : List Sl} {w w1 : Wl} {d e : D} (h : g en w = .ok [d, e] w1) : sSeq (sPar i j g) k en w = k ((en.set i (.dat d)).set j (.dat e)) w1 := by
  simp only [sSeq, sPar, h, AR.thn, Out.seq]
theorem addT_ev {ga gb : EG} {en : List Sl} {w w1 w2 : Wl} {xs ys : List D} (h1 : ga en w = .ok (.tup xs) w1) (h2 : gb en w1 = .ok (.tup ys) w2) (h : xs.length + ys.length ≤ sizeLine) : eBin oAdd ga gb en w = .ok (.tup (xs ++ ys)) w2 := by
  refine (bin_ev h1 h2).trans ?_
  simp only [oAdd, oOr, oAddI, oI, oAddS, oAddT, h, if_true]
theorem addL_ev {ga gb : EG} {en : List Sl} {w w1 w2 : Wl} {xs ys : List D} (h1 : ga en w = .ok (.lst xs) w1) (h2 : gb en w1 = .ok (.lst ys) w2) (h : xs.length + ys.length ≤ sizeLine) : eBin oAdd ga gb en w = .ok (.lst (xs ++ ys)) w2 := by
  refine (bin_ev h1 h2).trans ?_
  simp only [oAdd, oOr, oAddI, oI, oAddS, oAddT, oAddL, h, if_true]
theorem efnk_ev {n m : Nat} {pm : List Nat} {G : List D → Wl → Res} {g gk : AG} {en : List Sl} {w w1 w2 : Wl} {ds es zs : List D} (h1 : g en w = .ok ds w1) (h2 : gk en w1 = .ok es w2) (h3 : ds.length = n) (h4 : es.length = m) (h5 : permL (ds ++ es) pm = zs) (h6 : zs.length = n + m) :
    eFnK n m pm G g gk en w = G zs w2 := by
  unfold eFnK
  rw [h1]
  simp only [h2, h3, h4, h5, h6, and_self, if_true]
end DL

/-! DL, part zc: a, b, c = x, y, [] with new lists that are the body's own. -/
namespace DL
open PySem PySem.Spec L2
open PyProof.Rows hiding St
/-- values of which some are new lists, still unfrozen, no two of them one -/
inductive MAll (K : PySem.W.Frag) (aw : Bs) (H F' H' : Hp) : List Bool → List V → List D → Prop
  | nil : MAll K aw H F' H' [] [] []
  | dat {bs vs ds v d} : Dv K aw F' v d → MAll K aw H F' H' bs vs ds → MAll K aw H F' H' (false :: bs) (v :: vs) (d :: ds)
  | own {bs vs ds a us es} : H a = none → H' a = some (.lst us) → F' a = none → DvAll K aw F' us es → (∀ i : Nat, bs[i]? = some true → vs[i]? ≠ some (.ref a)) → MAll K aw H F' H' bs vs ds → MAll K aw H F' H' (true :: bs) (.ref a :: vs) (.lst es :: ds)
def WnM (bs : List Bool) (K : PySem.W.Frag) (aw : Bs) (F H : Hp) (Q : List V → Hp → Prop) (E : XK) : AR → Prop
  | .ok ds w => ∀ vs F' H', Go aw F H F' H' w → MAll K aw H F' H' bs vs ds → Q vs H'
  | .ex c fn a w => ∀ cls dx F' H', Go aw F H F' H' w → Xr K aw F' c fn a cls dx → E cls dx H'
  | .bad => False
def EM (K : Kt) (W : WX) (bs : List Bool) (t : TA) (g : AG) : Prop :=
  ∀ (f : Fx) (en : List Sl) (w : Wl) (σ : St) (F H : Hp) (Q : List V → Hp → Prop), Ok K f en w σ F H → WnM bs K f.aw F H Q (WE W σ) (g en w) → t σ H Q
structure DM (K : Kt) (X : Cx) (W : WX) (bs : List Bool) (es : List Expr) (t : TA) (g : AG) : Prop where
  hK : X.K = K.K
  pa : PA X es t
  es : EM K W bs t g
section
variable {X : Cx} {W : WX} {K : Kt} {Kf : PySem.W.Frag} {s : Sg} {pos : Pos} {e : Expr} {es : List Expr} {te : TE} {ge : EG} {t : TA} {g : AG} {aw : Bs} {F H F1 H1 F' H' : Hp} {w w1 : Wl} {bs : List Bool} {vs : List V} {ds : List D}
theorem MAll.back (h : MAll Kf aw H1 F' H' bs vs ds) (hh : ∀ a, H a ≠ none → H1 a ≠ none) : MAll Kf aw H F' H' bs vs ds := by
  induction h with
  | nil => exact .nil
  | dat r _ ih => exact .dat r ih
  | @own _ _ _ a _ _ n q f r d _ ih => exact .own (Classical.byContradiction fun hn => hh a hn n) q f r d ih
theorem MAll.news (h : MAll Kf aw H1 F' H' bs vs ds) {a : Addr} (ha : H1 a ≠ none) : ∀ i : Nat, bs[i]? = some true → vs[i]? ≠ some (.ref a) := by
  induction h with
  | nil => intro i hi; simp at hi
  | dat r _ ih =>
    intro i hi
    cases i with
    | zero => simp at hi
    | succ i => simpa using ih i (by simpa using hi)
  | @own _ _ _ b _ _ n q f r d _ ih =>
    intro i hi
    cases i with
    | zero =>
      intro z
      simp at z
      rw [z] at n
      exact ha n
    | succ i => simpa using ih i (by simpa using hi)
theorem dm_nil (hK : X.K = K.K := by rfl) : DM K X W [] [] tNil aNil := by
  obtain ⟨K0, T0, L0⟩ := K
  cases hK
  exact ⟨rfl, pa_nil, fun f en w σ F H Q o h => h [] F H o.here .nil⟩
theorem dm_dat (ha : DE K X W s e te ge) (hr : DM K X W bs es t g) (hs : s ≠ .wk := by decide) (hst : starEach (e :: es) X.env = (false, eval e X.env) :: starEach es X.env := by rfl) : DM K X W (false :: bs) (e :: es) (tCons te t) (aCons ge g) := by
  obtain ⟨K0, T0, L0⟩ := K
  cases ha.hK
  refine ⟨rfl, pa_cons ha.pe hr.pa hst, fun f en w σ F H Q o h => ?_⟩
  refine ha.es.toSt hs f en w σ F H _ o ?_
  unfold aCons at h
  cases q : ge en w with
  | bad => rw [q] at h; exact h
  | ex c fn a w1 => rw [q] at h; exact h
  | ok d w1 =>
    rw [q] at h
    intro v F1 H1 g1 r1
    refine hr.es f en w1 σ F1 H1 _ (o.step g1) ?_
    unfold AR.cons at h
    dsimp only at h
    cases q2 : g en w1 with
    | bad => rw [q2] at h; exact h
    | ex c fn a w2 =>
      rw [q2] at h
      exact fun cls dx F' H' g' x => h cls dx F' H' (g1.trans g') x
    | ok ds w2 =>
      rw [q2] at h
      exact fun vs F' H' g' r' => h (v :: vs) F' H' (g1.trans g') (.dat (r1.mono g'.ff) (r'.back g1.ne))
theorem dm_own (ha : DE K X W .fr e te ge) (hr : DM K X W bs es t g) (hst : starEach (e :: es) X.env = (false, eval e X.env) :: starEach es X.env := by rfl) : DM K X W (true :: bs) (e :: es) (tCons te t) (aCons ge g) := by
  obtain ⟨K0, T0, L0⟩ := K
  cases ha.hK
  refine ⟨rfl, pa_cons ha.pe hr.pa hst, fun f en w σ F H Q o h => ?_⟩
  refine ha.es f en w σ F H _ o ?_
  unfold aCons at h
  cases q : ge en w with
  | bad => rw [q] at h; exact h
  | ex c fn a w1 => rw [q] at h; exact h
  | ok d w1 =>
    rw [q] at h
    intro v F1 H1 g1 r1
    obtain ⟨es1, a, us, rfl, rfl, n, q1, hf, r⟩ := r1
    refine hr.es f en w1 σ F1 H1 _ (o.step g1) ?_
    unfold AR.cons at h
    dsimp only at h
    have na : some a ≠ f.aw.a := (fresh0 o n).2.1
    have h1 : H1 a ≠ none := by rw [q1]; exact fun z => nomatch z
    cases q2 : g en w1 with
    | bad => rw [q2] at h; exact h
    | ex c fn a w2 =>
      rw [q2] at h
      exact fun cls dx F' H' g' x => h cls dx F' H' (g1.trans g') x
    | ok ds w2 =>
      rw [q2] at h
      exact fun vs F' H' g' r' => h (.ref a :: vs) F' H' (g1.trans g') (.own n (g'.hh a _ na (fun ps z => nomatch z) q1) (g'.fr a (.of q1) hf) (r.mono g'.ff) (r'.news h1) (r'.back g1.ne))
end
def slM : Bool → D → Sl
  | false, d => .dat d
  | true, .lst es => .own es
  | true, _ => .non
section
variable {X : Cx} {W : WX} {K : Kt} {Kf : PySem.W.Frag} {f : Fx} {en : List Sl} {w w1 : Wl} {σ : St} {F H H0 : Hp} {v : V} {d : D} {b : Bool} {bs : List Bool} {vs : List V} {ds : List D}
/-- all that is still to be stored is unlike what is stored -/
def Frs (f : Fx) (en : List Sl) (σ : St) (bs : List Bool) (vs : List V) : Prop := ∀ (i : Nat) (a : Addr), bs[i]? = some true → vs[i]? = some (.ref a) → f.H0 a = none ∧ ∀ (j : Nat) (es : List D), en[j]? = some (.own es) → σ[j]? ≠ some (some (.ref a))
theorem setM (o : Ok K f en w σ F H) (m : MAll K.K f.aw H0 F H (b :: bs) (v :: vs) (d :: ds)) (fr : Frs f en σ (b :: bs) (v :: vs)) (i : Nat) :
    Ok K f (en.set i (slM b d)) w (σ.set i (some v)) F H ∧ Frs f (en.set i (slM b d)) (σ.set i (some v)) bs vs ∧ MAll K.K f.aw H0 F H bs vs ds := by
  cases m with
  | dat r m =>
    refine ⟨o.setDat r, fun k a hk ha => ?_, m⟩
    obtain ⟨h1, h2⟩ := fr (k + 1) a (by simpa using hk) (by simpa using ha)
    refine ⟨h1, fun j es hj => ?_⟩
    rcases set_get hj with ⟨rfl, e1, hl⟩ | ⟨ne, hj⟩
    · cases e1
    · rw [get_set_ne ne]
      exact h2 j es hj
  | @own _ _ _ a us es n q hf r dd m =>
    obtain ⟨h1, h2⟩ := fr 0 a rfl rfl
    refine ⟨o.setOwn q h1 hf r fun j es _ hj => h2 j es hj, fun k c hk hc => ?_, m⟩
    obtain ⟨h3, h4⟩ := fr (k + 1) c (by simpa using hk) (by simpa using hc)
    refine ⟨h3, fun j es hj => ?_⟩
    rcases set_get hj with ⟨rfl, e1, hl⟩ | ⟨ne, hj⟩
    · rw [get_set (by rw [o.len]; exact hl)]
      intro z
      have e2 : a = c := by cases z; rfl
      rw [← e2] at hc
      exact dd k hk hc
    · rw [get_set_ne ne]
      exact h4 j es hj
theorem frs0 {F0 : Hp} (o : Ok K f en w σ F0 H0) (g : Go f.aw F0 H0 F H w1) : ∀ {bs vs ds}, MAll K.K f.aw H0 F H bs vs ds → Frs f en σ bs vs := fun {bs vs ds} m => by
  induction m with
  | nil => intro i a hi; simp at hi
  | dat r _ ih =>
    intro i a hi ha
    cases i with
    | zero => simp at hi
    | succ i => exact ih i a (by simpa using hi) (by simpa using ha)
  | @own _ _ _ c us es n q hf r dd m ih =>
    intro i a hi ha
    cases i with
    | zero =>
      have e2 : c = a := by simpa using ha
      rw [← e2]
      obtain ⟨z0, _, zn⟩ := fresh0 o n
      exact ⟨z0, zn⟩
    | succ i => exact ih i a (by simpa using hi) (by simpa using ha)
theorem em_thn {R : List V → Hp → Prop} {tA : TA} {gA : AG} {Dn : Ends} {k : List D → Wl → Out} (ha : EM K W bs tA gA) (o : Ok K f en w σ F H) (h : WnS K f Dn W ((gA en w).thn en k))
    (hk : ∀ ds w1 vs F1 H1, Go f.aw F H F1 H1 w1 → Ok K f en w1 σ F1 H1 → MAll K f.aw H F1 H1 bs vs ds → WnS K f Dn W (k ds w1) → R vs H1) : tA σ H R := by
  refine ha f en w σ F H R o ?_
  unfold AR.thn at h
  cases q : gA en w with
  | bad => rw [q] at h; exact h
  | ex c fn a w1 =>
    rw [q] at h
    exact fun cls dx F' H' g x => h cls dx σ F' H' (o.step g) x
  | ok d w1 =>
    rw [q] at h
    exact fun v F1 H1 g r => hk d w1 v F1 H1 g (o.step g) r h
theorem mall_len {aw : Bs} {H F' H' : Hp} : ∀ {bs vs ds}, MAll Kf aw H F' H' bs vs ds → vs.length = bs.length ∧ ds.length = bs.length := fun {bs vs ds} m => by
  induction m with
  | nil => exact ⟨rfl, rfl⟩
  | dat _ _ ih => exact ⟨congrArg (· + 1) ih.1, congrArg (· + 1) ih.2⟩
  | own _ _ _ _ _ _ ih => exact ⟨congrArg (· + 1) ih.1, congrArg (· + 1) ih.2⟩
def sPM2 (b c : Bool) (i j : Nat) (g : AG) : SG := fun en w => (g en w).thn en fun ds w1 => match ds with
  | [d, e] => .nx ((en.set i (slM b d)).set j (slM c e)) w1
  | _ => .bad
theorem ds_parM (b c : Bool) (i j : Nat) {pos : Pos} {x y : Str} {a b' : Expr} {tA : TA} {gA : AG} {px py pt : Pos} {kt k2 pt2} (hc : X.calm = true) (hN : X.N.Nodup) (ha : DM K X W [b, c] [a, b'] tA gA) (hi : X.N[i]? = some x := by rfl) (hj : X.N[j]? = some y := by rfl) (hij : i ≠ j := by decide)
    (hx : X.env.scope.names.lookup x = some .local := by rfl) (hy : X.env.scope.names.lookup y = some .local := by rfl)
    (hw : swappedStores [.Tuple [.Name x px, .Name y py] kt pt] (.Tuple [a, b'] k2 pt2) X.env = pure (some [x, y]) := by rfl)
    (hs : swapsWithSole [.Tuple [.Name x px, .Name y py] kt pt] (.Tuple [a, b'] k2 pt2) pos.line X.env = pure false := by rfl) :
    DS K X W (.Assign [.Tuple [.Name x px, .Name y py] kt pt] (.Tuple [a, b'] k2 pt2) pos) (tPar i j tA) (sPM2 b c i j gA) := by
  obtain ⟨K0, T0, L0⟩ := K
  cases ha.hK
  refine ⟨ps_par hc hN hi hj hij hx hy ha.pa hw hs, fun f en w σ F H Dn o h => ?_⟩
  refine em_thn (R := fun vs H1 => ∃ v w, vs = [v, w] ∧ Dn.nx ((σ.set i (some v)).set j (some w)) H1) ha.es o h fun ds w1 us F1 H1 g1 o1 m h1 => ?_
  have fr := frs0 o g1 m
  have hlu := mall_len m
  match us, ds, hlu with
  | [u, v], [d, e], _ =>
    obtain ⟨o2, f2, m2⟩ := setM o1 m fr i
    obtain ⟨o3, f3, m3⟩ := setM o2 m2 f2 j
    exact ⟨_, _, rfl, h1 _ F1 H1 o3⟩
end
end DL

/-! DL, part zd: the head's facts where names come from math. -/
namespace DL
open PySem PySem.Spec L2
open PyProof.Rows hiding St
theorem imp_ok {K : PySem.W.Frag} {h : Heap} {mg : Str → Option Value} (X : K.In h) (G : h.Ns mainGlobals mg) {x : Str} {id : String} {ims : List (Str × String)} (c : ims.all (impOk K) = true) (m : (x, id) ∈ ims) : mg x = some (.builtin id) :=
  PySem.W.mg_of X G (He.eqO_ok (List.all_eq_true.mp c (x, id) m))
theorem intsAre_ok : ∀ {us : List Value} {is : List Int}, intsAre us is = true → Vals (is.map V.int) us
  | [], [], _ => .nil
  | .int j t :: r, i :: is, h => by
    simp only [intsAre, Bool.and_eq_true, decide_eq_true_eq] at h
    exact .cons ⟨t, by rw [h.1]⟩ (intsAre_ok h.2)
  | [], _ :: _, h => nomatch h
  | .int _ _ :: _, [], h => nomatch h
def ConT (K : PySem.W.Frag) (a : Addr) (is : List Int) : Prop :=
  ∃ (o : Obj) (its : Array Value) (n : Nat), K.lookup a = some o ∧ o.cls = .type "tuple" ∧ o.data = .seq its n ∧ its.size ≤ sizeLine ∧ Vals (is.map V.int) its.toList
theorem con_ok {K : PySem.W.Frag} {h : Heap} {mg : Str → Option Value} (X : K.In h) (G : h.Ns mainGlobals mg) {x : Str} {is : List Int} {cs : List (Str × List Int)} (c : cs.all (conOk K) = true) (m : (x, is) ∈ cs) : mg x = some (.ref (He.ga K x)) ∧ ConT K (He.ga K x) is := by
  have h := List.all_eq_true.mp c (x, is) m
  unfold conOk at h
  obtain ⟨h1, h2⟩ := Bool.and_eq_true_iff.mp h
  refine ⟨PySem.W.mg_of X G (He.eqO_ok h1), ?_⟩
  dsimp only at h2
  cases q : K.lookup (He.ga K x) with
  | none => rw [q] at h2; cases h2
  | some o =>
    rw [q] at h2
    obtain ⟨h3, h4⟩ := Bool.and_eq_true_iff.mp h2
    have h3 := of_decide_eq_true h3
    unfold conData at h4
    split at h4
    · rename_i its n e
      obtain ⟨h5, h6⟩ := Bool.and_eq_true_iff.mp h4
      exact ⟨o, its, n, q, h3, e, of_decide_eq_true h5, intsAre_ok h6⟩
    · cases h4
section
variable {X : Cx} {W : WX} {K : Kt} {pos : Pos}
theorem de_con {x : Str} {is : List Int} (hg : Gl X x) (hm : X.mg x = some (.ref (He.ga K.K x)) ∧ ConT K.K (He.ga K.K x) is) (hd : (x == ("__debug__" : Str)) = false := by decide) (hK : X.K = K.K := by rfl) : DE K X W .st (.Name x pos) (tC (.ref (He.ga K.K x))) (eC (.con (is.map .int))) := by
  obtain ⟨K0, T0, L0⟩ := K
  cases hK
  exact ⟨rfl, pe_glob hg hm.1 rfl hd, es_c fun aw F => .con (.inr hm.2) (dv_ints is)⟩
end
end DL

/-! DL, part ze: a body's own dict, its keys tuples of ints. -/
namespace DL
open PySem PySem.Spec L2
open PyProof.Rows hiding St
def putD (kvs : Kvs) (k : List Int) (d : D) : Kvs := if (kvs.any fun kv => decide (kv.1 = k)) = true then kvs.map (fun kv => if kv.1 = k then (kv.1, d) else kv) else kvs ++ [(k, d)]
def keyOf : D → Option (List Int)
  | .tup ds => allInts ds
  | _ => none
section
variable {Kf : PySem.W.Frag} {aw : Bs} {F H : Hp} {us : List (List Key × V)} {kvs : Kvs} {k : List Int} {v : V} {d : D}
theorem KVs.repl (h : KVs Kf aw F us kvs) (k : List Int) (r : Dv Kf aw F v d) : KVs Kf aw F (us.map fun kv => if kv.1 = k.map Sum.inl then (kv.1, v) else kv) (kvs.map fun kv => if kv.1 = k then (kv.1, d) else kv) := by
  induction h with
  | nil => exact .nil
  | @cons k' v' d' us kvs r' _ ih =>
    rw [List.map_cons, List.map_cons]
    by_cases e : k' = k
    · subst e
      rw [if_pos rfl, if_pos rfl]
      exact .cons r ih
    · have e' : ¬ k'.map (Sum.inl : Int → Key) = k.map Sum.inl := fun z => e (inl_inj z)
      rw [if_neg e, if_neg e']
      exact .cons r' ih
theorem KVs.snoc (h : KVs Kf aw F us kvs) (k : List Int) (r : Dv Kf aw F v d) : KVs Kf aw F (us ++ [(k.map Sum.inl, v)]) (kvs ++ [(k, d)]) := by
  induction h with
  | nil => exact .cons r .nil
  | cons r' _ ih => exact .cons r' ih
theorem KVs.put (h : KVs Kf aw F us kvs) (k : List Int) (r : Dv Kf aw F v d) : KVs Kf aw F (putK us (k.map Sum.inl) v) (putD kvs k d) := by
  unfold putK putD
  rw [h.any k]
  split
  · exact h.repl k r
  · exact h.snoc k r
/-- a key as it stands -/
theorem key_at (h : Dv Kf aw F v d) (hk : keyOf d = some k) : ∃ b, v = .ref b ∧ F b = some (.tup ((k.map Sum.inl).map kV)) := by
  cases h <;> first
    | (cases hk; done)
    | skip
  rename_i a vs ds h1 h2
  have hk' : allInts ds = some k := hk
  have e := vals_ints h2 hk'
  subst e
  refine ⟨a, rfl, ?_⟩
  rw [h1, List.map_map]
  rfl
end
/-! ### the state -/
section
variable {K : Kt} {Kf : PySem.W.Frag} {f : Fx} {en : List Sl} {w w1 : Wl} {σ : St} {F H : Hp} {a p : Addr} {us us' : List (List Key × V)} {kvs lvs : Kvs} {i : Nat}
theorem tabs_dT {T : List (Addr × Str)} (t : LamX.Tabs T H) (hp : H p = some (.dT us)) : LamX.Tabs T (upd H p (.dT us')) := fun q hq => by
  obtain ⟨ps, h1, h2, h3⟩ := t q hq
  refine ⟨ps, by rw [upd_ne (ne_of h1 hp fun z => nomatch z)]; exact h1, h2, fun pos cv hc => ?_⟩
  obtain ⟨c, e1, e2⟩ := h3 pos cv hc
  exact ⟨c, e1, by rw [upd_ne (ne_of e2 hp (fun z => by unfold LamX.CodeO at z; cases z))]; exact e2⟩
theorem Go.wrD {aw : Bs} {F0 H0 : Hp} (g : Go aw F0 H0 F H w) (n : H0 p = none) (fp : F p = none) (np : some p ≠ aw.a) (hp : H p = some (.dT us)) : Go aw F0 H0 F (upd H p (.dT us')) w := by
  refine ⟨g.ff, fun b u nb k q => ?_, fun b nb => ne_upd (g.ne b nb), fun t => tabs_dT (g.tb t) hp, fun b u q => ?_, g.nt, g.fr, fun c ea => ?_⟩
  · rw [upd_ne (fun z => by rw [z, n] at q; cases q)]
    exact g.hh b u nb k q
  · rw [upd_ne (fun z => by rw [z, fp] at q; cases q)]
    exact g.sub b u q
  · rw [upd_ne (fun z => np (by rw [ea, z]))]
    exact g.wl c ea
theorem Ok.setDic (o : Ok K f en w σ F H) (h1 : H a = some (.dT us)) (h2 : f.H0 a = none) (h3 : F a = none) (r : KVs K f.aw F us kvs)
    (hn : ∀ (j : Nat) (ls : Kvs), j ≠ i → en[j]? = some (.dic ls) → σ[j]? ≠ some (some (.ref a))) : Ok K f (en.set i (.dic kvs)) w (σ.set i (some (.ref a))) F H := by
  refine ⟨o.go, o.base, by rw [List.length_set, List.length_set]; exact o.len, fun j e hj => ?_, fun j es hj => ?_, o.tT, o.tabs, fun j hj => ?_, fun j k es us b hj hk q1 q2 => ?_, fun j ls hj => ⟨?_, fun k ms hk z => ?_⟩⟩
  · rcases set_get hj with ⟨rfl, e1, hl⟩ | ⟨ne, hj⟩
    · cases e1
    · rw [get_set_ne ne]
      exact o.dat j e hj
  · rcases set_get hj with ⟨rfl, e1, hl⟩ | ⟨ne, hj⟩
    · cases e1
    · rw [get_set_ne ne]
      exact o.own j es hj
  · rcases set_get hj with ⟨rfl, e1, hl⟩ | ⟨ne, hj⟩
    · cases e1
    · rw [get_set_ne ne]
      exact o.hol j hj
  · rcases set_get hj with ⟨rfl, e1, hl⟩ | ⟨ne, hj⟩
    · cases e1
    · rcases set_get hk with ⟨rfl, e2, hl2⟩ | ⟨ne2, hk⟩
      · cases e2
      · rw [get_set_ne ne] at q1
        rw [get_set_ne ne2] at q2
        exact o.inj j k es us b hj hk q1 q2
  · rcases set_get hj with ⟨rfl, e1, hl⟩ | ⟨ne, hj⟩
    · cases e1
      exact ⟨a, us, get_set (by rw [o.len]; exact hl), h1, h2, h3, r⟩
    · rw [get_set_ne ne]
      exact (o.dic j ls hj).1
  · rcases set_get hj with ⟨rfl, e1, hl⟩ | ⟨ne, hj⟩
    · rcases set_get hk with ⟨rfl, e2, hl2⟩ | ⟨ne2, hk⟩
      · rfl
      · rw [get_set (by rw [o.len]; exact hl), get_set_ne ne2] at z
        exact absurd z (hn k ms ne2 hk)
    · rcases set_get hk with ⟨ek, e2, hl2⟩ | ⟨ne2, hk⟩
      · rw [ek, get_set (by rw [o.len]; exact hl2), get_set_ne ne] at z
        exact absurd z.symm (hn j ls ne hj)
      · rw [get_set_ne ne, get_set_ne ne2] at z
        exact (o.dic j ls hj).2 k ms hk z
theorem Ok.newDic (o : Ok K f en w σ F H) (hp : H p = none) (i : Nat) : Ok K f (en.set i (.dic [])) w (σ.set i (some (.ref p))) F (upd H p (.dT [])) := by
  obtain ⟨z0, _, _⟩ := fresh0 o hp
  have o1 := o.step (o.here.laid hp (.dT []))
  refine o1.setDic upd_same z0 (o.here.free hp) .nil fun j ls _ hj z => ?_
  obtain ⟨⟨b, vs, e1, e2, _⟩, _⟩ := o.dic j ls hj
  rw [z] at e1
  cases e1
  rw [hp] at e2
  cases e2
theorem Ok.putDic (o : Ok K f en w σ F H) (hi : en[i]? = some (.dic kvs)) (hs : σ[i]? = some (some (.ref a))) (h1 : H a = some (.dT us)) (r : KVs K f.aw F us' lvs) : Ok K f (en.set i (.dic lvs)) w σ F (upd H a (.dT us')) := by
  obtain ⟨⟨a', us0, e, h1', h2, h3, _⟩, inj⟩ := o.dic i kvs hi
  rw [hs] at e
  cases e
  have na : some a ≠ f.aw.a := fun z => (o.base a z.symm).1 h2
  refine ⟨o.go.wrD h2 h3 na h1, o.base, by rw [List.length_set]; exact o.len, fun j e hj => ?_, fun j es' hj => ?_, o.tT, tabs_dT o.tabs h1, fun j hj => ?_, fun j k es' us' b hj hk q1 q2 => ?_, fun j ls hj => ⟨?_, fun k ms hk z => ?_⟩⟩
  · rcases set_get hj with ⟨rfl, e1, hl⟩ | ⟨ne, hj⟩
    · cases e1
    · exact o.dat j e hj
  · rcases set_get hj with ⟨rfl, e1, hl⟩ | ⟨ne, hj⟩
    · cases e1
    · obtain ⟨b, vs', e1, q1, q2, q3, r'⟩ := o.own j es' hj
      exact ⟨b, vs', e1, by rw [upd_ne (fun z => by rw [z, h1] at q1; cases q1)]; exact q1, q2, q3, r'⟩
  · rcases set_get hj with ⟨rfl, e1, hl⟩ | ⟨ne, hj⟩
    · cases e1
    · obtain ⟨l, e1, e2, e3, e4, gl⟩ := o.hol j hj
      exact ⟨l, e1, e2, e3, e4, gl.wrD (e4 ▸ h2) h3 (e3 ▸ na) h1⟩
  · rcases set_get hj with ⟨rfl, e1, hl⟩ | ⟨ne, hj⟩
    · cases e1
    · rcases set_get hk with ⟨rfl, e2, hl2⟩ | ⟨ne2, hk⟩
      · cases e2
      · exact o.inj j k es' us' b hj hk q1 q2
  · rcases set_get hj with ⟨rfl, e1, hl⟩ | ⟨ne, hj⟩
    · cases e1
      exact ⟨a, _, hs, upd_same, h2, h3, r⟩
    · obtain ⟨⟨b, vs', e1, q1, q2, q3, r'⟩, inj2⟩ := o.dic j ls hj
      have nb : b ≠ a := fun z => ne (inj j ls hj (by rw [e1, z, hs]))
      exact ⟨b, vs', e1, by rw [upd_ne nb]; exact q1, q2, q3, r'⟩
  · have back : ∀ (m : Nat) (e : Kvs), (en.set i (.dic lvs))[m]? = some (.dic e) → ∃ e', en[m]? = some (.dic e') := fun m e hm => by
      rcases set_get hm with ⟨rfl, _, _⟩ | ⟨_, hm⟩
      · exact ⟨_, hi⟩
      · exact ⟨_, hm⟩
    obtain ⟨e1, hj⟩ := back j ls hj
    obtain ⟨e2, hk⟩ := back k ms hk
    exact (o.dic j e1 hj).2 k e2 hk z
end
/-! ### rules -/
section
variable {X : Cx} {W : WX} {K : Kt} {s s1 s2 : Sg} {pos pos' apos cpos p2 : Pos} {x : Str} {e g' : Expr} {te tg : TE} {ge gg : EG} {i : Nat}
/-- x = {} -/
def sDNew (i : Nat) : SG := fun en w => .nx (en.set i (.dic [])) w
theorem ds_dnew (i : Nat) (hN : X.N.Nodup) (hi : X.N[i]? = some x := by rfl) (hx : Loc X.env.scope x := by first | exact Or.inl rfl | exact Or.inr rfl) (hsw : swapsWith (.Dict [] [] p2) (some (.Name x pos')) pos.line X.env = pure false := by rfl)
    (hf : X.fn x = true ∨ X.env.scope.names.lookup x = some .local := by first | exact .inl rfl | exact .inr rfl) : DS K X W (.Assign [.Name x pos'] (.Dict [] [] p2) pos) (tAsg tDNewT (gName i)) (sDNew i) :=
  ⟨ps_set hN hi hx pe_dnewT hsw hf, fun f en w σ F H Dn o h => fun p hp => h _ F _ (o.newDic hp i)⟩
/-- x[k] = e, x the body's own dict -/
def sDPut (i : Nat) (gk gv : EG) : SG := fun en w => match en[i]? with
  | some (.dic kvs) => (gv en w).thn en fun d w1 => (gk en w1).thn en fun y w2 => match keyOf y with
    | some k => if kvs.length < sizeLine then .nx (en.set i (.dic (putD kvs k d))) w2 else .bad
    | none => .bad
  | _ => .bad
theorem ds_dput (i : Nat) {kE vE : Expr} {tk tv : TE} {gk gv : EG} {pn : Pos} (hu : X.A.units + 65 < cLine) (hN : X.N[i]? = some x := by rfl) (hv : Vis X.env.scope x := by first | exact Or.inl rfl | exact Or.inr (Or.inl rfl) | exact Or.inr (Or.inr rfl))
    (hk : DE K X W s1 kE tk gk) (he : DE K X W s2 vE tv gv) (h1 : s1 ≠ .wk := by decide) (h2 : s2 ≠ .wk := by decide)
    (hd : (x == ("__debug__" : Str)) = false := by decide) (hcd : (x == ("__classdict__" : Str)) = false := by decide) (hs : swapsWith vE (some (.Subscript (.Name x pn) kE pos')) pos.line X.env = pure false := by rfl) :
    DS K X W (.Assign [.Subscript (.Name x pn) kE pos'] vE pos) (L2.sDPut (tVar i) tk tv) (sDPut i gk gv) := by
  obtain ⟨K0, T0, L0⟩ := K
  cases hk.hK
  refine ⟨ps_dput (by omega) (pe_var hN hv hd hcd) hk.pe he.pe hs, fun f en w σ F H Dn o h => ?_⟩
  unfold sDPut at h
  cases q : en[i]? with
  | none => rw [q] at h; exact h.elim
  | some sl =>
    cases sl with
    | non => rw [q] at h; exact h.elim
    | dat _ => rw [q] at h; exact h.elim
    | own _ => rw [q] at h; exact h.elim
    | hol => rw [q] at h; exact h.elim
    | dic kvs =>
      rw [q] at h
      dsimp only at h
      refine es_thn (R := fun v H1 => tVar i σ H1 fun x H2 => tk σ H2 fun y H3 => ∃ a H4, x = .ref a ∧ DPut H3 a y v H4 ∧ Dn.nx σ H4) (he.es.toSt h2) o h fun d w1 v F1 H1 g1 o1 r1 h' => ?_
      obtain ⟨⟨a, us, e1, e2, e3, e4, r⟩, _⟩ := o1.dic i kvs q
      refine ⟨_, e1, ?_⟩
      refine es_thn (R := fun y H3 => ∃ a' H4, V.ref a = .ref a' ∧ DPut H3 a' y v H4 ∧ Dn.nx σ H4) (hk.es.toSt h1) o1 h' fun y w2 yv F2 H2 g2 o2 r2 h'' => ?_
      cases hk' : keyOf y with
      | none => rw [hk'] at h''; exact h''.elim
      | some k =>
        rw [hk'] at h''
        dsimp only at h''
        split at h''
        · rename_i hl
          obtain ⟨⟨a2, us2, f1, f2, f3, f4, r'⟩, _⟩ := o2.dic i kvs q
          have ea : a2 = a := by rw [e1] at f1; cases f1; rfl
          subst ea
          obtain ⟨b, ey, hb⟩ := key_at (show Dv _ f.aw F2 yv y from r2) hk'
          have hv' : Dv X.K f.aw F2 v d := (show Dv X.K f.aw F1 v d from r1).mono g2.ff
          refine ⟨a2, _, rfl, .inr ⟨us2, k.map Sum.inl, b, f2, ey, o2.go.sub _ _ hb, by rw [r'.length]; exact hl, rfl⟩, h'' _ F2 _ (o2.putDic q f1 f2 (r'.put k hv'))⟩
        · exact h''.elim
/-- x[k] -/
def eDIx (i : Nat) (gk : EG) : EG := fun en w => match en[i]? with
  | some (.dic kvs) => (gk en w).bind fun y w1 => match keyOf y with
    | some k => (match getK kvs k with
      | some d => .ok d w1
      | none => .bad)
    | none => .bad
  | _ => .bad
/-- x.get(k, e) -/
def eDGet (i : Nat) (gk gd : EG) : EG := fun en w => match en[i]? with
  | some (.dic kvs) => (gk en w).bind fun y w1 => (gd en w1).bind fun z w2 => match keyOf y with
    | some k => .ok ((getK kvs k).getD z) w2
    | none => .bad
  | _ => .bad
theorem de_dix (i : Nat) {kE : Expr} {tk : TE} {gk : EG} {pn : Pos} (hu : X.A.units + 65 < cLine) (hk : DE K X W s1 kE tk gk) (h1 : s1 ≠ .wk := by decide) (hns : NoSl kE := by intro _ _; rfl) (hN : X.N[i]? = some x := by rfl) (hv : Vis X.env.scope x := by first | exact Or.inl rfl | exact Or.inr (Or.inl rfl) | exact Or.inr (Or.inr rfl))
    (hd : (x == ("__debug__" : Str)) = false := by decide) (hcd : (x == ("__classdict__" : Str)) = false := by decide) : DE K X W .st (.Subscript (.Name x pn) kE pos) (tDGet (tVar i) tk) (eDIx i gk) := by
  obtain ⟨K0, T0, L0⟩ := K
  cases hk.hK
  refine ⟨rfl, pe_dget (by omega) (pe_var hN hv hd hcd) hk.pe hns, fun f en w σ F H Q o h => ?_⟩
  unfold eDIx at h
  cases q : en[i]? with
  | none => rw [q] at h; exact h.elim
  | some sl =>
    cases sl with
    | non => rw [q] at h; exact h.elim
    | dat _ => rw [q] at h; exact h.elim
    | own _ => rw [q] at h; exact h.elim
    | hol => rw [q] at h; exact h.elim
    | dic kvs =>
      rw [q] at h
      dsimp only at h
      obtain ⟨⟨a, us, e1, e2, e3, e4, r⟩, _⟩ := o.dic i kvs q
      refine ⟨_, e1, ?_⟩
      refine hk.es.bindS h1 o h fun y w1 yv F1 H1 g1 o1 r1 h' => ?_
      cases hk' : keyOf y with
      | none => rw [hk'] at h'; exact h'.elim
      | some k =>
        rw [hk'] at h'
        dsimp only at h'
        obtain ⟨⟨a2, us2, f1, f2, f3, f4, r'⟩, _⟩ := o1.dic i kvs q
        have ea : a2 = a := by rw [e1] at f1; cases f1; rfl
        subst ea
        obtain ⟨b, ey, hb⟩ := key_at r1 hk'
        rcases r'.val k with ⟨g0, _⟩ | ⟨d, v, g0, gv, rv⟩
        · rw [g0] at h'; exact h'.elim
        · rw [g0] at h'
          exact ⟨a2, v, rfl, .inr ⟨us2, k.map Sum.inl, b, .inl f2, ey, o1.go.sub _ _ hb, gv.symm⟩, h' v F1 H1 o1.here rv⟩
theorem de_dget (i : Nat) {kE dE : Expr} {tk td : TE} {gk gd : EG} {pn : Pos} (hu : X.A.units + 65 < cLine) (hk : DE K X W s1 kE tk gk) (hdE : DE K X W s2 dE td gd) (h1 : s1 ≠ .wk := by decide) (h2 : s2 ≠ .wk := by decide) (hN : X.N[i]? = some x := by rfl) (hv : Vis X.env.scope x := by first | exact Or.inl rfl | exact Or.inr (Or.inl rfl) | exact Or.inr (Or.inr rfl))
    (m : M2 X (.Name x pn) "get" apos kE dE cpos := by exact ⟨rfl, rfl, rfl, rfl⟩) (hd : (x == ("__debug__" : Str)) = false := by decide) (hcd : (x == ("__classdict__" : Str)) = false := by decide) :
    DE K X W .st (.Call (.Attribute (.Name x pn) "get" apos) [kE, dE] [] cpos) (tDGet2 (tVar i) tk td) (eDGet i gk gd) := by
  obtain ⟨K0, T0, L0⟩ := K
  cases hk.hK
  refine ⟨rfl, pe_dget2 (by omega) (pe_var hN hv hd hcd) hk.pe hdE.pe m, fun f en w σ F H Q o h => ?_⟩
  unfold eDGet at h
  cases q : en[i]? with
  | none => rw [q] at h; exact h.elim
  | some sl =>
    cases sl with
    | non => rw [q] at h; exact h.elim
    | dat _ => rw [q] at h; exact h.elim
    | own _ => rw [q] at h; exact h.elim
    | hol => rw [q] at h; exact h.elim
    | dic kvs =>
      rw [q] at h
      dsimp only at h
      obtain ⟨⟨a, us, e1, e2, e3, e4, r⟩, _⟩ := o.dic i kvs q
      refine ⟨_, e1, a, rfl, .inr ⟨us, .inl e2⟩, ?_⟩
      refine hk.es.bindS h1 o h fun y w1 yv F1 H1 g1 o1 r1 h' => ?_
      refine hdE.es.bindS h2 o1 h' fun z w2 zv F2 H2 g2 o2 r2 h'' => ?_
      cases hk' : keyOf y with
      | none => rw [hk'] at h''; exact h''.elim
      | some k =>
        rw [hk'] at h''
        dsimp only at h''
        obtain ⟨⟨a2, us2, f1, f2, f3, f4, r'⟩, _⟩ := o2.dic i kvs q
        have ea : a2 = a := by rw [e1] at f1; cases f1; rfl
        subst ea
        obtain ⟨b, ey, hb⟩ := key_at (r1.mono g2.ff) hk'
        rcases r'.val k with ⟨g0, gn⟩ | ⟨d, v, g0, gv, rv⟩
        · rw [g0] at h''
          exact ⟨none, .inr ⟨us2, k.map Sum.inl, b, .inl f2, ey, o2.go.sub _ _ hb, gn.symm⟩, h'' zv F2 H2 o2.here r2⟩
        · rw [g0] at h''
          exact ⟨some v, .inr ⟨us2, k.map Sum.inl, b, .inl f2, ey, o2.go.sub _ _ hb, gv.symm⟩, h'' v F2 H2 o2.here rv⟩
end
end DL

/-! DL, part zf: x = {k: v for .. in .. if ..}, the keys tuples of ints. -/
namespace DL
open PySem PySem.Spec L2
open PyProof.Rows hiding St
/-! ### the hand layer's side -/
section
variable {X : Cx} {pins : List (Addr × Obj)} {σ : L2.St} {H : Hp} {s : Shared}
theorem dT_store {E : Value → Shared → Prop} {q b : Addr} {us : List (List Key × V)} {ks : List Key} {v : V} {r : Value} {Q : Unit → Shared → Prop} (hu : X.A.units + 65 < cLine) (I : Inv X pins σ H s) (hq : H q = some (.dT us)) (hl : us.length < sizeLine)
    (hb : H b = some (.tup (ks.map kV))) (rv : RelV v r) (h : ∀ s', Inv X pins σ (upd H q (.dT (putK us ks v))) s' → Q () s') : wpAny (model X.prog X.w) X.A (dictSet q (.ref b) r) Q E s := by
  obtain ⟨z, hd, xs, rel, md⟩ := dt_of I.hok hq
  have hz : xs.length ≤ sizeLine := by
    rw [← Paired.length rel]
    exact z
  have hl2 : (putK us ks v).length ≤ sizeLine := by
    have := length_putK us ks v
    omega
  refine wpAny_dictSet_heap (hsz := hz) (show (tupleKind (mixKind X.prog X.w)).room X.A from (by show X.A.units < cLine; omega)) (key_of I.hok hb) md fun h' md' sb => h _ ?_
  obtain ⟨o, es, ep, e1, e2, e3, e4, _, e5⟩ := md'
  refine d_write I (by rw [hq]; exact True.intro) sb ⟨o, e1⟩ ⟨hl2, hd, _, (rel.put ks hb rv).keeps fun c ys ec => ?_, o, es, ep, e1, e2, e3, e4, e5⟩
  rw [upd_ne (ne_of ec hq (fun y => nomatch y))]
  exact ec
/-- the reading of the comprehension: p is the new dict -/
def tDcT (wi : TI) (g : TG) (tt : TT) (tk tv : TE) (vs : List Nat) : TE := fun σ H Q => wi σ H fun J H1 => ∀ p, H1 p = none → ∃ Wf : Nat → Nat → Hp → Prop, (∃ m, Wf 0 m (upd H1 p (.dT []))) ∧ ∀ n m Hn, Wf n m Hn →
  (J.stop n Hn ∧ Q (.ref p) Hn) ∨ (J.go n Hn ∧ ∃ Nx : Hp → Prop, (∀ Hm, Nx Hm → ∃ m', m' < m ∧ Wf (n + 1) m' Hm) ∧ ∀ x Hm, J.yld n Hn x Hm → g x (wipe σ vs) Hm fun σ2 H2 => wipe σ2 vs = wipe σ vs ∧ tt σ2 H2 fun yes H3 =>
    if yes = true then tk σ2 H3 fun y H4 => tv σ2 H4 fun z H5 => ∃ us ks b, y = .ref b ∧ H5 b = some (.tup (ks.map kV)) ∧ H5 p = some (.dT us) ∧ us.length < sizeLine ∧ Nx (upd H5 p (.dT (putK us ks z))) else Nx H3)
theorem dcT_core {Q : VK} {ke ve tg it : Expr} {cs : List Expr} {scope : Scope} {own : List (Str × Nat)} {pos pos' : Pos} {wi : TI} {g : TG} {tt : TT} {tk tv : TE} {us0 : Option (Value → Sem Unit)} {Qf : Value → Shared → Prop} (hu : X.A.units + 65 < cLine)
    (hc : X.calm = true) (hN : X.N.Nodup) (I : Inv X pins σ H s) (hi : PI X tg it wi) (ok : BlkOk X.N X.env.scope scope own)
    (hg : ∀ (s1 : Shared) (H1 : Hp) (C : Addr) (cl : List (Str × Addr)) (fp : List Addr), PG (X.blk s1 H1 scope (compEnvC scope cl C X.env) fp) tg g)
    (ht : ∀ (s1 : Shared) (H1 : Hp) (C : Addr) (cl : List (Str × Addr)) (fp : List Addr), PTs (X.blk s1 H1 scope (compEnvC scope cl C X.env) fp) cs tt)
    (hk : ∀ (s1 : Shared) (H1 : Hp) (C : Addr) (cl : List (Str × Addr)) (fp : List Addr), PE (X.blk s1 H1 scope (compEnvC scope cl C X.env) fp) ke tk)
    (he : ∀ (s1 : Shared) (H1 : Hp) (C : Addr) (cl : List (Str × Addr)) (fp : List Addr), PE (X.blk s1 H1 scope (compEnvC scope cl C X.env) fp) ve tv)
    (hs : ∀ x, foldedSetIterable it X.env x = pure x) (h : tDcT wi g tt tk tv (own.map (·.2)) σ H Q)
    (fini : ∀ p C s' m Hm, Inv X pins σ Hm s' → Q (.ref p) Hm → s'.heap.Ns C m → FpOk X pins Hm C → compPost (model X.prog X.w) X.A X.xe us0 Qf (.ref p) C (.ok .next) s') :
    wpAny (model X.prog X.w) X.A (comprehension (.DictComp ke ve [⟨tg, it, cs, 0⟩] scope pos) scope X.env pos' newDict false (eval it X.env) us0) Qf X.xe s := by
  have free0 : ∀ y ∈ scope.names, y.2 = .free → ∃ c, X.env.cells.lookup y.1 = some c := fun y hy e => (ok.free y hy e).elim (fun k => I.ok.has _ (.inl k)) fun k => I.ok.has _ (.inr k)
  refine wpAny_comprehension_free (use := us0) rfl hs (closure_ok free0) ok.kind (fun y hy e => by rw [ok.uniq y hy, e]) (thn (hi.run pins s σ H _ I h) fun xv s1 hx => thn hx fun itv s2 a2 => ?_)
  obtain ⟨ia, fp, tn, J, H2, e, I2, T, st2, f2, q⟩ := a2
  subst e
  refine wpAny_newObj_type (newEnv_comp ?_)
  generalize hp : s2.heap.objs.size = p
  obtain ⟨Wf, ⟨m0, w0⟩, turn⟩ := q p (I2.hok.fresh (Nat.le_of_eq hp))
  generalize es3 : ({ s2 with heap := s2.heap.push { cls := .type "dict", data := .dict #[] } } : Shared) = s3
  have I3 : Inv X pins σ (upd H2 p (.dT [])) s3 := by
    rw [← es3]
    refine I2.laid (t' := s2.toks) (fun b o y => Heap.get?_push_of_some _ y) (Nat.le_of_eq hp) ?_
    rw [← hp]
    exact dt_empty s2.heap I2.big
  have eh : s3.heap = s2.heap.push { cls := .type "dict", data := .dict #[] } := by
    rw [← es3]
  have small0 : ∀ b ∈ fp, b < s2.heap.objs.size := fun b hb => (T.obj _ _ st2 b hb).elim fun o y => Heap.lt_size y.1
  have f3 : ∀ b ∈ fp, FpOk X pins (upd H2 p (.dT [])) b ∧ b < s3.heap.objs.size := fun b hb =>
    ⟨⟨(upd_ne (by rw [← hp]; exact Nat.ne_of_lt (small0 b hb))).trans (f2 b hb).1, (f2 b hb).2⟩, by rw [eh, Heap.size_push]; exact Nat.lt_succ_of_lt (small0 b hb)⟩
  have st3 : tn 0 s3.heap := T.keep _ _ _ st2 fun b _ o y => by
    rw [eh]
    exact Heap.get?_push_of_some _ y
  have I4 := block_start I3 ok hN f3
  obtain ⟨cl, ecl⟩ : ∃ cl, cl = cellsFrom (s3.heap.objs.size + 1) scope.names (cloFrom X.env.cells scope.names []) := ⟨_, rfl⟩
  rw [← ecl] at I4
  have pg := hg s3 (upd H2 p (.dT [])) s3.heap.objs.size cl fp
  have pt := ht s3 (upd H2 p (.dT [])) s3.heap.objs.size cl fp
  have pk := hk s3 (upd H2 p (.dT [])) s3.heap.objs.size cl fp
  have pv := he s3 (upd H2 p (.dT [])) s3.heap.objs.size cl fp
  suffices z : codeAny (model X.prog X.w) X.A (.compStart (.DictComp ke ve [⟨tg, it, cs, 0⟩] scope pos) 0 (.ref ia) (.ref p) (compEnvC scope cl s3.heap.objs.size X.env)) (compPost (model X.prog X.w) X.A X.xe us0 Qf (.ref p) s3.heap.objs.size)
      { s3 with heap := pushCells (s3.heap.push { cls := .type "dict", data := .dict #[] }) scope.names } by
    rw [ecl] at z
    exact z
  have nfp : ∀ b ∈ fp, (upd H2 p (.dT [])) b = none := fun b hb => (f3 b hb).1.1
  generalize hce : compEnvC scope cl s3.heap.objs.size X.env = ce at I4 pg pt pk pv ⊢
  have cL : ce.locals = s3.heap.objs.size := by
    rw [← hce]
    rfl
  generalize eH3 : upd H2 p (.dT []) = H3 at I3 I4 pg pt pk pv w0 nfp f3
  generalize es4 : ({ s3 with heap := pushCells (s3.heap.push { cls := .type "dict", data := .dict #[] }) scope.names } : Shared) = s4 at I4 ⊢
  have st4 : tn 0 s4.heap := T.keep _ _ _ st3 fun b _ o y => by
    rw [← es4]
    exact pushCells_keeps _ _ _ _ (Heap.get?_push_of_some _ y)
  have stat : ∀ {σ' : L2.St} {Hn : Hp} {sn : Shared}, Inv (X.blk s3 H3 scope ce fp) [] σ' Hn sn → (∀ b ∈ fp, Hn b = none) → ∀ b ∈ fp, FpOk (X.blk s3 H3 scope ce fp) [] Hn b := fun {σ' Hn sn} In hn b hb =>
    ⟨hn b hb, (In.ok.exf b hb).1, In.ok.exfs b hb, .inl hb, fun x c y => (In.ok.exf b hb).2 x c y, fun o ho => absurd (show o ∈ ([] : List (Addr × Obj)) ++ [] from ho) (by simp)⟩
  have loop : codeAny (model X.prog X.w) X.A (.compLoop (.DictComp ke ve [⟨tg, it, cs, 0⟩] scope pos) 0 (.ref ia) (.ref p) ce) (compPost (model X.prog X.w) X.A X.xe us0 Qf (.ref p) s3.heap.objs.size) s4 := by
    refine compLoop_anyD (fun m sn => ∃ n Hn, Inv (X.blk s3 H3 scope ce fp) [] (wipe σ (own.map (·.2))) Hn sn ∧ tn n sn.heap ∧ (∀ b ∈ fp, Hn b = none) ∧ Wf n m Hn) ?_ m0 ⟨0, H3, I4, st4, nfp, w0⟩
    rintro m s5 ⟨n, H5, I5, st5, n5, w5⟩
    rcases turn n m H5 w5 with ⟨stop, qq⟩ | ⟨go, Nx, hNx, step⟩
    · refine thnF (T.done (X.blk s3 H3 scope ce fp) rfl rfl rfl hc n [] s5 _ H5 (fun _ _ => False) I5 (stat I5 n5) st5 stop) fun r s6 ⟨hr, I6⟩ => ?_
      subst hr
      have I7 : Inv X pins σ H5 s6 := I3.call' (ch := fp) I6.os I6.base I6.hok I6.bare fun b hb => ⟨(f3 b hb).1.2.2.2.1, (f3 b hb).1.2.1, (f3 b hb).1.2.2.2.2.1, (f3 b hb).1.2.2.2.2.2⟩
      obtain ⟨mm, hn, _⟩ := I6.loc
      have hn : s6.heap.Ns ce.locals mm := hn
      rw [cL] at hn
      have fr : H5 ce.locals = none := I6.free
      rw [cL] at fr
      exact fini p s3.heap.objs.size s6 mm H5 I7 qq hn (I3.fpOk (Nat.le_refl _) fr)
    · refine thnF (T.item (X.blk s3 H3 scope ce fp) rfl rfl rfl hc n [] s5 _ H5 (fun _ _ => False) I5 (stat I5 n5) st5 go) fun r s6 ⟨u, hr, a6⟩ => ?_
      subst hr
      refine thnF a6 fun _ s7 ⟨x, H7, I7, r7, y7, st7, n7⟩ => ?_
      have J7 := I7.pinned (stat I7 n7) (T.obj _ _ st7)
      refine thnF (pg.run _ s7 _ H7 x u _ J7 r7 (step x H7 y7)) fun _ s8 ⟨σ8, H8, I8, hw8, q8⟩ => thnF (pt.run _ s8 σ8 H8 _ I8 q8) fun yes s9 ⟨H9, I9, q9⟩ => ?_
      have fin : ∀ {sn : Shared} {Hn : Hp}, Inv (X.blk s3 H3 scope ce fp) ([] ++ pinsAt fp s7.heap) σ8 Hn sn → Nx Hn →
          ∃ m', m' < m ∧ ∃ n' Hn, Inv (X.blk s3 H3 scope ce fp) [] (wipe σ (own.map (·.2))) Hn sn ∧ tn n' sn.heap ∧ (∀ b ∈ fp, Hn b = none) ∧ Wf n' m' Hn := fun {sn Hn} In nx => by
        obtain ⟨m', hm, w'⟩ := hNx Hn nx
        have pin0 : ∀ b ∈ fp, ∀ o, s7.heap.get? b = some o → sn.heap.get? b = some o ∧ Hn b = none := fun b hb o y =>
          have z := In.pin (b, o) (List.mem_append_right _ (List.mem_append_right _ (mem_pinsAt hb y)))
          ⟨z.1, z.2.1⟩
        have el : (wipe σ (own.map (·.2))).length = σ8.length := by
          rw [← hw8, wipe_length]
        refine ⟨m', hm, n + 1, Hn, (In.unpinned (pins := [])).weak el (fun j v y => ?_), T.keep _ _ _ st7 fun b hb o y => (pin0 b hb o y).1, fun b hb => (T.obj _ _ st7 b hb).elim fun o y => (pin0 b hb o y.1).2, w'⟩
        rw [← hw8] at y
        exact (wipe_some y).1
      cases yes with
      | false =>
        simp only [Bool.false_eq_true, if_false] at q9 ⊢
        exact fin I9 q9
      | true =>
        simp only [if_true] at q9 ⊢
        refine thnF (pk.run _ s9 σ8 H9 _ I9 q9) fun z1 s10 ⟨yk, H10, I10, r10, q10⟩ => thnF (pv.run _ s10 σ8 H10 _ I10 q10) fun z2 s11 ⟨yv, H11, I11, r11, us, ks, b, ek, hb11, hp11, hz11, nx⟩ => ?_
        subst ek
        cases (show z1 = Value.ref b from r10)
        exact dT_store (X := X.blk s3 H3 scope ce fp) hu I11 hp11 hz11 hb11 r11 fun s12 I12 => fin I12 nx
  exact codeAny_compStart_dict loop (T.self X.A 0 _ _ _ st4 loop)
theorem pe_dcT {ke ve tg it : Expr} {cs : List Expr} {scope : Scope} {own : List (Str × Nat)} {pos : Pos} {wi : TI} {g : TG} {tt : TT} {tk tv : TE} (hu : X.A.units + 65 < cLine) (hc : X.calm = true) (hN : X.N.Nodup) (hi : PI X tg it wi) (ok : BlkOk X.N X.env.scope scope own)
    (hg : ∀ (s1 : Shared) (H1 : Hp) (C : Addr) (cl : List (Str × Addr)) (fp : List Addr), PG (X.blk s1 H1 scope (compEnvC scope cl C X.env) fp) tg g)
    (ht : ∀ (s1 : Shared) (H1 : Hp) (C : Addr) (cl : List (Str × Addr)) (fp : List Addr), PTs (X.blk s1 H1 scope (compEnvC scope cl C X.env) fp) cs tt)
    (hk : ∀ (s1 : Shared) (H1 : Hp) (C : Addr) (cl : List (Str × Addr)) (fp : List Addr), PE (X.blk s1 H1 scope (compEnvC scope cl C X.env) fp) ke tk)
    (he : ∀ (s1 : Shared) (H1 : Hp) (C : Addr) (cl : List (Str × Addr)) (fp : List Addr), PE (X.blk s1 H1 scope (compEnvC scope cl C X.env) fp) ve tv) (hs : ∀ x, foldedSetIterable it X.env x = pure x) :
    PE X (.DictComp ke ve [⟨tg, it, cs, 0⟩] scope pos) (tDcT wi g tt tk tv (own.map (·.2))) := by
  refine ⟨fun pins s σ H Q I h => ?_⟩
  rw [arm_eval_DictComp]
  exact dcT_core hu hc hN I hi ok hg ht hk he hs h fun p C s' m Hm Im q hn ⟨f0, f1, f2, f3, f4, f5⟩ => ⟨m, hn, fun h3 sb => ⟨.ref p, Hm, Im.turned (t' := s'.toks) (fun b o hb y => (sb.2 b hb).trans y) f0 f1 f3 f4 f5, rfl, q⟩⟩
theorem ps_setDcT {i : Nat} {y : Str} {py : Pos} {ke ve tg it : Expr} {cs : List Expr} {scope : Scope} {own : List (Str × Nat)} {pos spos : Pos} {wi : TI} {g : TG} {tt : TT} {tk tv : TE} (hu : X.A.units + 65 < cLine) (hc : X.calm = true) (hN : X.N.Nodup)
    (hy : X.N[i]? = some y) (hyl : X.env.scope.names.lookup y = some .local) (hsw : swapsWith (.DictComp ke ve [⟨tg, it, cs, 0⟩] scope pos) (some (.Name y py)) spos.line X.env = pure true)
    (hi : PI X tg it wi) (ok : BlkOk X.N X.env.scope scope own)
    (hg : ∀ (s1 : Shared) (H1 : Hp) (C : Addr) (cl : List (Str × Addr)) (fp : List Addr), PG (X.blk s1 H1 scope (compEnvC scope cl C X.env) fp) tg g)
    (ht : ∀ (s1 : Shared) (H1 : Hp) (C : Addr) (cl : List (Str × Addr)) (fp : List Addr), PTs (X.blk s1 H1 scope (compEnvC scope cl C X.env) fp) cs tt)
    (hk : ∀ (s1 : Shared) (H1 : Hp) (C : Addr) (cl : List (Str × Addr)) (fp : List Addr), PE (X.blk s1 H1 scope (compEnvC scope cl C X.env) fp) ke tk)
    (he : ∀ (s1 : Shared) (H1 : Hp) (C : Addr) (cl : List (Str × Addr)) (fp : List Addr), PE (X.blk s1 H1 scope (compEnvC scope cl C X.env) fp) ve tv) (hs : ∀ x, foldedSetIterable it X.env x = pure x) :
    PS X (.Assign [.Name y py] (.DictComp ke ve [⟨tg, it, cs, 0⟩] scope pos) spos) (tAsg (tDcT wi g tt tk tv (own.map (·.2))) (gName i)) := by
  refine ⟨fun pins s σ H Dn I h => ?_⟩
  rw [exec_Assign_Name_used _ _ _ _ hsw]
  refine wpAny_bind (wpAny_standAt (wpAny_bind ?_))
  have h0 : tDcT wi g tt tk tv (own.map (·.2)) σ H (fun x H1 => gName i x σ H1 Dn.nx) := h
  refine wpAny_bind (thn (dcT_core (Qf := fun _ s' => SP X pins Dn .next s') hu hc hN I hi ok hg ht hk he hs h0 fun p C s' m Hm Im q hn f => ?_) fun _ s' hq => wpAny_pure (wpAny_pure hq))
  refine wpAny_assign_Name (store_ok2 (v := V.ref p) Im hN hy (.inl hyl) rfl (fun s2 I2 ⟨a, sb, ha⟩ => ?_) (.inr hyl))
  obtain ⟨f0, f1, f2, f3, f4, f5⟩ := f
  have ne : C ≠ a := ha.elim (fun z => by rw [z]; exact f1) fun z y' => f4 y a z y'.symm
  exact ⟨m, hn.sameBut sb ne, fun h3 sb3 => ⟨_, Hm, I2.turned (t' := s2.toks) (fun b o hb y' => (sb3.2 b hb).trans y') f0 f1 f3 f4 f5, q⟩⟩
end
end DL

/-! DL, part zg: the data side of a dict's comprehension; k in x, k not in x. -/
namespace DL
open PySem PySem.Spec L2
open PyProof.Rows hiding St
def dcG (b : BG) (gt gk gv : EG) (en : List Sl) : List D → Kvs → Wl → Option (Kvs × Wl)
  | [], acc, w => some (acc, w)
  | d :: ds, acc, w => match b d en with
    | none => none
    | some en1 => match gt en1 w with
      | .ok (.bl true) w1 => (match gk en1 w1 with
        | .ok y w2 => (match gv en1 w2 with
          | .ok z w3 => (match keyOf y with
            | some k => dcG b gt gk gv en ds (putD acc k z) w3
            | none => none)
          | _ => none)
        | _ => none)
      | .ok (.bl false) w1 => dcG b gt gk gv en ds acc w1
      | _ => none
section
variable {K : Kt} {W : WX} {f : Fx} {en : List Sl} {w : Wl} {σ : L2.St} {F H : Hp} {p : Addr} {us us' : List (List Key × V)}
theorem tabs_wrD {T : List (Addr × Str)} (t : LamX.Tabs T H) (hp : H p = none ∨ ∃ us, H p = some (.dT us)) : LamX.Tabs T (upd H p (.dT us')) := by
  rcases hp with hp | ⟨us, hp⟩
  · exact t.ext fun b u e => same_upd2 hp b u e
  · exact tabs_dT t hp
theorem Go.wrD2 {aw : Bs} {F0 H0 : Hp} (g : Go aw F0 H0 F H w) (n : H0 p = none) (fp : F p = none) (np : some p ≠ aw.a) (hp : H p = none ∨ ∃ us, H p = some (.dT us)) : Go aw F0 H0 F (upd H p (.dT us')) w := by
  refine ⟨g.ff, fun b u nb k q => ?_, fun b nb => ne_upd (g.ne b nb), fun t => tabs_wrD (g.tb t) hp, fun b u q => ?_, g.nt, g.fr, fun c ea => ?_⟩
  · rw [upd_ne (fun z => by rw [z, n] at q; cases q)]
    exact g.hh b u nb k q
  · rw [upd_ne (fun z => by rw [z, fp] at q; cases q)]
    exact g.sub b u q
  · rw [upd_ne (fun z => np (by rw [ea, z]))]
    exact g.wl c ea
/-- an untracked dict beside the state is written -/
theorem Ok.pokeD (o : Ok K f en w σ F H) (hp : H p = none ∨ ∃ us, H p = some (.dT us)) (h0 : f.H0 p = none) (fp : F p = none) (np : some p ≠ f.aw.a) (hn : ∀ (j : Nat) (ls : Kvs), en[j]? = some (.dic ls) → σ[j]? ≠ some (some (.ref p))) : Ok K f en w σ F (upd H p (.dT us')) := by
  refine ⟨o.go.wrD2 h0 fp np hp, o.base, o.len, o.dat, fun j es' hj => ?_, o.tT, tabs_wrD o.tabs hp, fun j hj => ?_, o.inj, fun j ls hj => ⟨?_, (o.dic j ls hj).2⟩⟩
  · obtain ⟨b, vs', e1, q1, q2, q3, r'⟩ := o.own j es' hj
    have nb : b ≠ p := fun z => by
      rw [z] at q1
      rcases hp with hp | ⟨us, hp⟩ <;> rw [hp] at q1 <;> cases q1
    exact ⟨b, vs', e1, by rw [upd_ne nb]; exact q1, q2, q3, r'⟩
  · obtain ⟨l, e1, e2, e3, e4, gl⟩ := o.hol j hj
    exact ⟨l, e1, e2, e3, e4, gl.wrD2 (e4 ▸ h0) fp (e3 ▸ np) hp⟩
  · obtain ⟨⟨b, vs', e1, q1, q2, q3, r'⟩, _⟩ := o.dic j ls hj
    have nb : b ≠ p := fun z => hn j ls hj (by rw [e1, z])
    exact ⟨b, vs', e1, by rw [upd_ne nb]; exact q1, q2, q3, r'⟩
theorem freshD (o : Ok K f en w σ F H) (hp : H p = none) : ∀ (j : Nat) (ls : Kvs), en[j]? = some (.dic ls) → σ[j]? ≠ some (some (.ref p)) := fun j ls hj z => by
  obtain ⟨⟨b, vs, e1, e2, _⟩, _⟩ := o.dic j ls hj
  rw [z] at e1
  cases e1
  rw [hp] at e2
  cases e2
variable {ti : TI} {gi : AG} {g : TG} {b : BG} {vs vs' : List Nat} {tt : TT} {gt gk gv : EG} {tk tv : TE} {s1 s2 : Sg}
end
section
variable {X : Cx} {W : WX} {K : Kt} {s1 s2 : Sg} {pos : Pos} {x : Str} {tg e : Expr} {ti : TI} {gi : AG} {g : TG} {b : BG} {vs' : List Nat}
theorem swD_true {ke ve : Expr} {gs : List Comprehension} {scope : Scope} {p2 py : Pos} {y : Str} {l : Nat} {env : Env} (hk : env.scope.kind = .function) (hy : env.scope.names.lookup y = some .local) (hl : (py.line == p2.line) = true)
    (ha : (scope.names.any fun (n, k) => n == y && (k == .local || k == .cell)) = false) : swapsWith (.DictComp ke ve gs scope p2) (some (.Name y py)) l env = pure true := by
  have k1 : env.kindOf y = some .local := hy
  have k2 : env.blockKind = .function := by
    unfold Env.blockKind
    rw [hk]
    rfl
  unfold swapsWith
  simp only [k2, k1, ha, Expr.pos, hl]
  rfl
end
end DL

/-! DL, part zh: try: .. except C as e: ... -/
namespace DL
open PySem PySem.Spec L2
open PyProof.Rows hiding St
/-- into a suite: own lists and dicts are out of view -/
def Sl.bare : Sl → Sl
  | .dat d => .dat d
  | _ => .non
section
variable {X : Cx} {W : WX} {K : Kt} {pos pos' np : Pos} {x n : Str} {C : Value} {i : Nat} {body suite : List Stmt} {b₀ : Stmt} {tb : WX → TS} {ts : Addr → Value → Option Addr → TS} {gb : SG} {gs : Bool → Str → Str → D → SG} {fe : Str → Bool}
end
end DL

/-! DL, part zi: in an except suite: isinstance(e, C), e.field. -/
namespace DL
open PySem PySem.Spec L2
open PyProof.Rows hiding St
section
variable {X : Cx} {W : WX} {K : Kt} {pos p p2 p3 : Pos} {n x fld : Str} {i : Nat} {l : Lm} {oe : Obj} {cls : Value} {dx : Option Addr} {pn : List (Addr × Obj)} {c fn : Str} {d : D} {b : Bool} {P : Prop}
end
end DL

/-! DL, part zj: count and index of a bool in a list of bools. -/
namespace DL
open PySem PySem.Spec L2
open PyProof.Rows hiding St
section
variable {X : Cx} {W : WX} {K : Kt} {pos ap : Pos} {a b : Expr} {ta tb : TE} {ga gb : EG} {s1 s2 : Sg} {r : V → List V → Hp → VK → Prop} {o : List D → D → Wl → Res}
end
end DL

/-! DL, part zk: t[::-1] of a tuple. -/
namespace DL
open PySem PySem.Spec L2 PySem.W HT
open PyProof.Rows hiding St
section
variable {prog : Program} {w : World} {A : Around} {E : Value → Shared → Prop} {s : Shared}
end
section
variable {X : Cx} {W : WX} {K : Kt} {pos : Pos} {a : Expr} {ta : TE} {ga : EG} {s1 : Sg}
end
end DL

set_option exponentiation.threshold 30000
/-! DL, part zl: lcm, t * k, own lists by comprehension. -/
namespace DL
open PySem PySem.Spec L2
open PyProof.Rows hiding St
section
variable {X : Cx} {W : WX} {K : Kt} {pos p : Pos} {a b : Expr} {es : List Expr} {t : TA} {g : AG} {ta tb : TE} {ga gb : EG} {s1 s2 : Sg}
end
/-! t * 1 -/
section
variable {X : Cx} {W : WX} {K : Kt} {pos p : Pos} {a b : Expr} {ta tb : TE} {ga gb : EG} {s1 s2 : Sg}
end
end DL

/-! DL, part zm: own lists by comprehension; x.pop(i) of an own list. -/
namespace DL
open PySem PySem.Spec L2
open PyProof.Rows hiding St
section
variable {X : Cx} {W : WX} {K : Kt} {pos pos' : Pos} {tg e elt : Expr} {s : Sg} {ti : TI} {gi : AG} {g : TG} {b : BG} {vs' : List Nat} {te : TE} {ge : EG} {x : Str}
end
end DL

/-! DL, part zn: sorted of tuples the first of which is empty. -/
namespace DL
open PySem PySem.Spec PySem.Calls PySem.SeqAt PySem.W
open PyProof.Rows hiding St
section
variable {prog : Program} {w : World} {A : Around} {s : Shared}
end
section
variable {M : Model} {A : Around} {E : Value → Shared → Prop} {s : Shared}
end
section
variable {prog : Program} {w : World} {A : Around} {s : Shared}
end
section
variable {β : Type} {enc : β → PyData} {R : Value → β → Prop} {bs : List β} {b₀ : β} {vs : List Value} {prog : Program} {w : World} {A : Around} {E : Value → Shared → Prop} {s : Shared}
end
end DL
namespace DL
open PySem PySem.Spec L2
open PyProof.Rows hiding St
section
variable {X : Cx} {W : WX} {K : Kt} {Kf : PySem.W.Frag} {pos p : Pos} {a : Expr} {t : TA} {g : AG}
end
end DL

/-! DL, part zo: xs += ys of an own list. -/
namespace DL
open PySem PySem.Spec L2
open PyProof.Rows hiding St
section
variable {X : Cx} {W : WX} {K : Kt} {s : Sg} {elt : Expr} {te : TE} {ge : EG} {pos : Pos}
end
end DL

/-! DL, part zp: index of an int in a list of ints. -/
namespace DL
open PySem PySem.Spec L2
open PyProof.Rows hiding St
section
variable {X : Cx} {W : WX} {K : Kt} {pos ap : Pos} {a b : Expr} {ta tb : TE} {ga gb : EG} {s1 s2 : Sg} {r : V → List V → Hp → VK → Prop} {o : List D → D → Wl → Res}
end
end DL

/-! DL, part zq: an own list is frozen before a statement. -/
namespace DL
open PySem PySem.Spec L2
open PyProof.Rows hiding St
section
variable {K : Kt} {X : Cx} {W : WX} {f : Fx} {en : List Sl} {w : Wl} {σ : St} {F H : Hp} {i : Nat} {ds : List D} {st : Stmt} {t : TS} {g : SG}
theorem Ok.frz (o : Ok K f en w σ F H) (e : en[i]? = some (.own ds)) : ∃ F', Ok K f (en.set i (.dat (.lst ds))) w σ F' H := by
  obtain ⟨a, vs, e0, h1, h2, h3, r⟩ := o.own i ds e
  have sm : Same F (upd F a (.lst vs)) := same_upd2 h3
  refine ⟨upd F a (.lst vs), o.go.frozen h2 h1 h3, o.base, by rw [List.length_set]; exact o.len, fun j d hj => ?_, fun j es hj => ?_, o.tT, o.tabs, fun j hj => ?_, fun j k es us b hj hk q1 q2 => ?_, o.dic.keep (fun j kvs hj => ?_) (fun b us q1 _ q3 => ⟨q1, ?_⟩) sm⟩
  · rcases set_get hj with ⟨rfl, e1, hl⟩ | ⟨ne, hj⟩
    · cases e1
      exact ⟨.ref a, e0, .lst upd_same (r.mono sm)⟩
    · obtain ⟨v, q1, q2⟩ := o.dat j d hj
      exact ⟨v, q1, q2.mono sm⟩
  · rcases set_get hj with ⟨rfl, e1, hl⟩ | ⟨ne, hj⟩
    · cases e1
    · obtain ⟨b, us, q1, q2, q3, q4, q5⟩ := o.own j es hj
      refine ⟨b, us, q1, q2, q3, ?_, q5.mono sm⟩
      have nb : b ≠ a := fun z => by
        subst z
        exact ne (o.inj j i es ds b hj e q1 e0)
      rw [upd_ne nb]
      exact q4
  · rcases set_get hj with ⟨rfl, e1, hl⟩ | ⟨ne, hj⟩
    · cases e1
    · obtain ⟨l, q1, q2, q3, q4, q5⟩ := o.hol j hj
      exact ⟨l, q1, q2, q3, q4, q5.frozen (by rw [← q4]; exact h2) h1 h3⟩
  · rcases set_get hj with ⟨rfl, e1, hl⟩ | ⟨ne, hj⟩
    · cases e1
    · rcases set_get hk with ⟨rfl, e1, hl⟩ | ⟨ne2, hk⟩
      · cases e1
      · exact o.inj j k es us b hj hk q1 q2
  · rcases set_get hj with ⟨rfl, e1, hl⟩ | ⟨ne, hj⟩
    · cases e1
    · exact ⟨hj, rfl⟩
  · have nb : b ≠ a := fun z => by
      subst z
      rw [h1] at q1
      cases q1
    rw [upd_ne nb]
    exact q3
end
end DL

/-! DL, part zr: the head's facts over a told list of addresses. -/
namespace DL
open PySem PySem.Spec L2
open PyProof.Rows hiding St
theorem obsL_eq {l : List Addr} {fa : List He.Fa} {fn : List He.DefD} {xs : List Str} {ims : List (Str × String)} {cs : List (Str × List Int)} {g : Addr → Option Obj} {s : Shared} (h : ∀ a, g a = s.heap.get? a) : obsL l fa fn xs ims cs g = (hookL l fa fn xs ims cs).obs s := by
  have e : g = s.heap.get? := funext h
  rw [e]
  rfl
end DL

/-! DL, part zs: comprehensions with two sources. -/
namespace DL
open PySem PySem.Spec L2
open PyProof.Rows hiding St
def noOwn (en : List Sl) : Bool := en.all fun s => match s with
  | .own _ => false
  | _ => true
theorem noOwn_get {en : List Sl} (h : noOwn en = true) (j : Nat) (es : List D) : en[j]? ≠ some (.own es) := fun e => by
  have := List.all_eq_true.mp h _ (List.mem_of_getElem? e)
  cases this
section
variable {X : Cx} {W : WX} {K : Kt} {Kf : PySem.W.Frag} {s : Sg} {pos : Pos} {tg e tg1 e1 elt : Expr} {ti ti1 : TI} {gi gi1 : AG} {g g1 : TG} {b b1 : BG} {vs vs' vs1 vs1' : List Nat} {ge : EG} {te : TE} {f : Fx} {en : List Sl} {w : Wl} {σ : St} {F H : Hp}
end
end DL

/-! DL, part zt: instances that are read: their fields. -/
namespace DL
open PySem PySem.Spec L2
open PyProof.Rows hiding St
section
variable {Kf : PySem.W.Frag} {aw : Bs} {F H : Hp} {K : Kt} {X : Cx} {W : WX} {s : Sg} {e : Expr} {pos : Pos} {te : TE} {ge : EG} {c f : Str}
theorem Dq.obj {v : V} {fs : List Str} {ds : List D} (q : Dq Kf aw F H v (.ob c fs ds)) : Dv Kf aw F v (.ob c fs ds) := by
  rcases q with q | ⟨_, _, _, e, _⟩
  · exact q
  · cases e
end
end DL

/-! DL, part zu: methods of instances that are read, called. -/
namespace DL
open PySem PySem.Spec L2
open PyProof.Rows hiding St
section
variable {K : Kt} {X : Cx} {W : WX} {k n : Nat} {f C : Addr} {fd : FuncData} {ps : List Str} {sp : Sp} {m : Str} {e o : Expr} {es : List Expr} {pos apos : Pos} {ta : TE} {t : TA} {pl : Sem Bool}
end
end DL

/-! DL, part zv: an own exception class: its __init__ says super().__init__("..") and keeps one field. -/
namespace DL
open PySem PySem.Spec L2
open PyProof.Rows hiding St
section
open PySem.W
variable {prog : Program} {w : World} {A : Around} {E : Value → Shared → Prop} {h : Heap} {g : Array GenState} {d : Drawn} {t : Nat} {os : OsState}
variable {nm q : Str} {C N : Addr} {bs bm : List Value} {sn : List Str} {sub : List Value} {ab : Bool} {col : Option Bool} {dd : Option Addr} {k0 k1 k2 k3 k5 : Option Value}
end
end DL

/-! DL, part zw: raise C(e), C an own class that keeps one field; repr within a suite; try without a name. -/
namespace DL
open PySem PySem.Spec L2
open PyProof.Rows hiding St
section
variable {K : Kt} {X : Cx} {W : WX} {k : Nat} {c fld : Str} {e : Expr} {p pos pos' : Pos} {t : TA} {ga : AG}
end
section
variable {X : Cx} {W : WX} {K : Kt} {pos : Pos}
end
section
variable {X : Cx} {W : WX} {K : Kt} {pos p : Pos} {a : Expr} {t : TA} {g : AG}
end
section
variable {X : Cx} {W : WX} {K : Kt} {pos pos' np p p2 p3 : Pos} {n x fld : Str} {C : Value} {i : Nat} {body suite : List Stmt} {b₀ : Stmt} {tb : WX → TS} {ts : Addr → Value → Option Addr → TS} {gb : SG} {gs : Bool → Str → Str → D → SG} {fe : Str → Bool} {st : Stmt} {g : SG}
end
section
variable {X : Cx} {W : WX} {K0 : PySem.W.Frag} {T0 : List (Addr × Str)} {pos p p2 p3 : Pos} {n x fld : Str} {i : Nat} {aw : Bs} {la : Addr} {F1 H1 : Hp} {oe : Obj} {cls : Value} {dx : Option Addr} {pn : List (Addr × Obj)} {c fn : Str} {d : D} {b : Bool} {P : Prop}
end
end DL

/-! DL, part zx: the head's facts of own exception classes. -/
namespace DL
open PySem PySem.Spec L2
open PyProof.Rows hiding St
/-! ### the hook -/
end DL

/-! DL, part zy: t * k, t empty too. -/
namespace DL
open PySem PySem.Spec L2
open PyProof.Rows hiding St
section
variable {X : Cx} {W : WX} {K : Kt} {pos p : Pos} {a b : Expr} {ta tb : TE} {ga gb : EG} {s1 s2 : Sg}
end
end DL

/-! DL, part zza: repr of data that have {} in them. -/
namespace DL
open PySem PySem.Spec L2
open PyProof.Rows hiding St
section
variable {X : Cx} {pins : List (Addr × Obj)} {σ : St} {H F : Hp} {s : Shared} {aw : Bs}
end
section
variable {X : Cx} {W : WX} {K : Kt} {Kf : PySem.W.Frag} {pos p : Pos} {a : Expr} {t : TA} {g : AG}
end
end DL

/-! DL, part zzb: list({k: v for .. in ..}), the keys tuples of ints: the unlike ones, in their order. -/
namespace DL
open PySem PySem.Spec L2
open PyProof.Rows hiding St
section
variable {K : Kt} {W : WX} {f : Fx} {en : List Sl} {w : Wl} {σ : L2.St} {F H : Hp} {p : Addr} {us us' : List (List Key × V)}
variable {ti : TI} {gi : AG} {g : TG} {b : BG} {vs vs' : List Nat} {tt : TT} {gt gk gv : EG} {tk tv : TE} {s1 s2 : Sg}
end
section
variable {X : Cx} {W : WX} {K : Kt} {s1 s2 : Sg} {pos p2 pn : Pos} {tg e ke ve : Expr} {ti : TI} {gi : AG} {g : TG} {b : BG} {vs' : List Nat} {tk tv : TE} {gk gv : EG}
end
end DL

/-! DL, part zzc: max(xs, default=k) of whole numbers. -/
namespace DL
open PySem PySem.Spec L2
open PyProof.Rows hiding St
section
variable {X : Cx} {x : Str} {p pos : Pos} {e : Expr} {es : List Expr} {kws : List Keyword} {t tk : TA} {id : String} {ks : List Str} {r : List V → List V → Hp → VK → Prop}
def CallRK (X : Cx) (id : String) (ks : List Str) (r : List V → List V → Hp → VK → Prop) : Prop := ∀ (pins : List (Addr × Obj)) (s : Shared) (σ : L2.St) (H : Hp) (xs : List V) (us : List Value) (zs : List V) (ws : List Value) (Q : VK), Inv X pins σ H s → Vals xs us → Vals zs ws → r xs zs H Q →
  wpAny (model X.prog X.w) X.A (call (.builtin id) us (ks.zip ws)) (EP X pins σ Q) X.xe s
def tCBK (r : List V → List V → Hp → VK → Prop) (t tk : TA) : TE := fun σ H Q => t σ H fun vs H1 => tk σ H1 fun zs H2 => r vs zs H2 Q
theorem pe_callBK (hc : CallRK X id ks r) (hg : Gl X x) (hm : X.mg x = none) (hv : bootBuiltins x = some (.builtin id)) (ha : PA X (e :: es) t) (hkw : PK X kws tk) (hn : x ≠ "__name__" := by decide) (hdb : (x == ("__debug__" : Str)) = false := by decide)
    (he : backTo pos (starEach (e :: es) X.env) = (false, eval e X.env) :: backTo pos (starEach es X.env) := by rfl) (hpl : (backTo pos (starEach (e :: es) X.env)).any (·.1) = false := by rfl)
    (hall : (backToKw pos (keywordEach kws X.env)).all (·.1.isSome) = true := by rfl) (hkn : (backToKw pos (keywordEach kws X.env)).any (·.1.isNone) = false := by rfl) (hks : (backToKw pos (keywordEach kws X.env)).filterMap (·.1) = ks := by rfl) :
    PE X (.Call (.Name x p) (e :: es) kws pos) (tCBK r t tk) := by
  refine ⟨fun pins s σ H Q I h => ?_⟩
  refine wpAny_Call_Name_kw (ld_blt I hg hm hv ?_ hn hdb)
  refine PyProof.Rows.callWith_kw (thn (ha.run pos pins s σ H _ I h) fun us s1 ⟨vs, H1, I1, r1, q1⟩ => thn (hkw.run pos pins s1 σ H1 _ I1 q1) fun ws s2 ⟨zs, H2, I2, r2, q2⟩ => ?_) he hpl hall hkn
  rw [hks]
  exact hc pins s2 σ H2 vs us zs ws Q I2 r1 r2 q2
end
theorem reads_ints {h : Heap} : ∀ {its : List Value} {ns : List Int}, IntsAre its ns → ReadsAll h its (ns.map PyData.int) []
  | _, _, .nil => ReadsAll.nil
  | _, _, .cons n t r => ReadsAll.cons (Reads.int n t) (reads_ints r)
def maxK (k : Int) : List Int → Int
  | [] => k
  | n :: ns => ns.foldl max n
def rMaxDef (K : PySem.W.Frag) : List V → List V → Hp → VK → Prop := fun vs zs H Q => ∃ (a : Addr) (ns : List Int) (k : Int), vs = [V.ref a] ∧ zs = [V.int k] ∧ SqL K H a (ns.map V.int) ∧ Q (.int (maxK k ns)) H
theorem cr_maxDef {X : Cx} (hc : X.calm = true) (hu : X.A.units + 65 < cLine) : CallRK X "max" [Str.ofString "default"] (rMaxDef X.K) := by
  intro pins s σ H vs us zs ws Q I r rz h
  obtain ⟨a, ns, k, rfl, rfl, hs, q⟩ := h
  obtain ⟨its, rv, hl, _⟩ := I.list hs
  rw [Vals.ref1 r]
  obtain ⟨w1, rfl, rw1⟩ := vals1 rz
  obtain ⟨tk, rfl⟩ := rw1
  have hi := rv.ints
  have hd : PyData.depthAll (ns.map PyData.int) = 0 := by
    generalize ns = ms
    induction ms with
    | nil => rfl
    | cons m ms ih =>
      show max (PyData.int m).depth (PyData.depthAll (ms.map PyData.int)) = 0
      rw [ih]
      rfl
  refine PySem.W.max_list_default (I.ok.hd hc) hl.isList (xs := ns.map .int) (as := []) ?_ ⟨fun x hx y hy => ?_, fun x hx => ?_⟩ (by rw [hd]; omega) (fun e h' tk' hk => ?_) fun y ys i v h' tk' bs e hv hr hk => ?_
  · rw [List.toList_toArray]
    exact reads_ints hi
  · obtain ⟨i, _, rfl⟩ := List.mem_map.mp hx
    obtain ⟨j, _, rfl⟩ := List.mem_map.mp hy
    rfl
  · obtain ⟨i, _, rfl⟩ := List.mem_map.mp hx
    exact fun z => nomatch z
  · have e2 : ns = [] := List.map_eq_nil_iff.mp e
    subst e2
    exact ⟨.int _, H, I.kept hk, ⟨_, rfl⟩, q⟩
  · cases ns with
    | nil => cases e
    | cons n ns =>
      rw [List.map_cons] at e
      injection e with e1 e2
      subst e1 e2
      rw [PySem.W.maxD_ints] at hr
      cases hr
      exact ⟨.int _, H, I.kept hk, ⟨_, rfl⟩, q⟩
def oMaxK : D → D → Wl → Res := fun d e w => match d, e with
  | .lst ds, .int k => (match allInts ds with
    | some ns => .ok (.int (maxK k ns)) w
    | none => .bad)
  | _, _ => .bad
/-- max(xs, default=k) -/
def eMaxK (ga gk : EG) : EG := fun en w => (ga en w).bind fun d w1 => (gk en w1).bind fun e w2 => oMaxK d e w2
section
variable {X : Cx} {W : WX} {K : Kt} {pos p kp : Pos} {a b : Expr} {ta tb : TE} {ga gb : EG} {s1 s2 : Sg}
theorem es_maxK (ha : ES K W s1 ta ga) (hb : ES K W s2 tb gb) (h2 : s2 ≠ .wk) : ES K W .st (tCBK (rMaxDef K.K) (tCons ta tNil) (tCons tb tNil)) (eMaxK ga gb) := by
  intro f en w σ F H Q o h
  unfold eMaxK at h
  refine ha.bindW o h fun d w1 v F1 H1 g1 o1 r1 h1 => ?_
  show tb σ H1 _
  refine hb.bindS h2 o1 h1 fun e w2 u F2 H2 g2 o2 r2 hw => ?_
  show rMaxDef K.K [v] [u] H2 Q
  unfold oMaxK at hw
  split at hw
  · rename_i ds k
    obtain ⟨a, us, rfl, hv, dv⟩ := (r1.go g2).seq o2.go.sub
    cases r2
    cases z : allInts ds with
    | none => rw [z] at hw; exact hw.elim
    | some ns =>
      rw [z] at hw
      dsimp only at hw
      rw [vals_ints dv z] at hv
      exact ⟨a, ns, k, rfl, rfl, .inl (.inl hv), Wn.val hw o2.here (.int _)⟩
  · exact hw.elim
theorem de_maxK (hc : X.calm = true) (hu : X.A.units + 65 < cLine) (hg : Gl X "max") (hm : X.mg "max" = none) (ha : DE K X W s1 a ta ga) (hb : DE K X W s2 b tb gb) (h2 : s2 ≠ .wk := by decide)
    (he : starEach [a] X.env = (false, eval a X.env) :: starEach [] X.env := by rfl) :
    DE K X W .st (.Call (.Name "max" p) [a] [⟨some "default", b, kp⟩] pos) (tCBK (rMaxDef K.K) (tCons ta tNil) (tCons tb tNil)) (eMaxK ga gb) := by
  obtain ⟨K0, T0, L0⟩ := K
  cases ha.hK
  exact ⟨rfl, pe_callBK (cr_maxDef hc hu) hg hm (by decide +kernel) (pa_cons ha.pe pa_nil he) (pk_cons hb.pe pk_nil) (by decide) (by decide) (by rw [he]; rfl) (by rw [he]; rfl), es_maxK ha.es hb.es h2⟩
end
end DL

/-! DL, part zzd: sorted(xs, key=f) with whole keys, where a call of f need not leave every object as it is: J tells what stands on the way. -/
namespace DL
open PySem PySem.Spec L2 PySem.W PySem.Calls
open PyProof.Rows hiding St
/-- the same, one object gone -/
def freeH (h : Heap) (n : Addr) : Heap := h.update n fun o => { o with data := .freed }
theorem freeH_ne {h : Heap} {n b : Addr} (hb : b ≠ n) : (freeH h n).get? b = h.get? b := Heap.get?_update_ne _ _ _ _ hb
theorem freeH_at (h : Heap) (n : Addr) : (freeH h n).get? n = none := by
  obtain ⟨objs, l⟩ := h
  show (match (objs.modify n fun o => { o with data := .freed })[n]? with | some ⟨_, _, .freed, _⟩ => none | o => o) = none
  rw [Array.getElem?_modify, if_pos rfl]
  cases objs[n]? <;> rfl
theorem free_keeps (a : Addr) (h : Heap) (n : Addr) : KeepsBut a (freeH h n) h := fun b o _ e => by
  by_cases z : b = n
  · rw [z, freeH_at] at e
    cases e
  · rw [freeH_ne z] at e
    exact e
section
variable {prog : Program} {w : World} {A : Around} {E : Value → Shared → Prop} {s : Shared} {a kS : Addr} {vs : List Value} {e1 : Nat} {P : PySem.Fin → Shared → Prop} {kz : List Int} {f : Value} {J : Array Value → Nat → Shared → Prop}
theorem keyJ_rest (hlen : kz.length = vs.length) (hZ : vs.length ≤ sizeLine) (hu : A.units < cLine) (hka : kS ≠ a) (hsk : Sortable (kz.map PyData.int)) (h0 : J #[] 0 s)
    (hJ : ∀ kA i s', J kA i s' → (∃ e, s'.heap.get? kS = some (seqObj "list" kA e)) ∧ s'.heap.get? a = some (seqObj "list" #[] e1))
    (turn : ∀ kA i v k s', vs[i]? = some v → kz[i]? = some k → J kA i s' → wpAny (model prog w) A (call f [v]) (fun u s'' => ∃ t, u = .int k t ∧ (∃ e, s''.heap.get? kS = some (seqObj "list" kA e)) ∧ J (kA.push u) (i + 1) { s'' with heap := s''.heap.update kS (Obj.mapSeq (·.push u)) }) (fun _ _ => False) s')
    (h : ∀ kA s' h' tk out c, J kA vs.length s' → KeepsBut a (freeH s'.heap kS) h' → h'.get? a = some (seqObj "list" (List.toArray out) c) → KeyedOut false (kz.map .int) vs out → P (.done (.ret .none)) { s' with heap := h', toks := tk }) :
    wpAny (model prog w) A (ksk_rest a f false vs.toArray e1 (.ref kS)) P E s := by
  unfold ksk_rest
  refine wpAny_bind (wpAny_rule ?_)
  first
    | rw [List.forIn_toArray]
    | (rw [← Array.forIn_toList]; simp only [List.toList_toArray])
    | rw [← Array.forIn_toList]
  refine wpAny_bind (ksk_fold (fun i s' => ∃ kA, J kA i s' ∧ EachIs (fun (v : Value) (k : Int) => ∃ t, v = .int k t) kA.toList (kz.take i)) vs 0 s ⟨#[], h0, by rw [List.take_zero]; exact EachIs.nil⟩ ?step ?done)
  case step =>
    rintro i x s1 hx ⟨kA, j1, ks⟩
    rw [Nat.zero_add] at j1 ks ⊢
    have hi : i < vs.length := (List.getElem?_eq_some_iff.mp hx).1
    have hk : kz[i]? = some (kz[i]'(by omega)) := List.getElem?_eq_getElem (by omega)
    refine wpAny_bind (wpAny_attempt (wpAny_mono (turn kA i x _ s1 hx hk j1) (fun u s2 hu2 => ?_) fun _ _ z => z.elim))
    obtain ⟨t, rfl, ⟨e, ge⟩, j2⟩ := hu2
    have hsz : kA.size ≤ vs.length := by
      have := ks.length
      rw [Array.length_toList, List.length_take] at this
      omega
    refine wpAny_bind (listUpdate_at ge rfl ?_ (Nat.le_trans hsz hZ) (by rw [Array.size_push]; omega))
    refine wpAny_pure ⟨rfl, kA.push _, j2, ?_⟩
    rw [Array.toList_push, List.take_add_one, hk]
    exact each_snoc (R := fun (v : Value) (k : Int) => ∃ t, v = .int k t) ⟨t, rfl⟩ ks
  case done =>
    rintro s1 ⟨kA, j1, ks⟩
    rw [Nat.zero_add] at j1 ks
    rw [List.take_of_length_le (by omega)] at ks
    obtain ⟨⟨e, gk⟩, ga⟩ := hJ kA _ s1 j1
    have hr : EachIs (fun v k => ∃ as, Reads s1.heap v k as) kA.toList (kz.map PyData.int) := by
      clear gk
      generalize kA.toList = l at ks
      clear hlen hsk hJ turn h j1 h0
      induction ks with
      | nil => exact EachIs.nil
      | cons r _ ih =>
        obtain ⟨t, rfl⟩ := r
        exact EachIs.cons ⟨_, Reads.int _ t⟩ ih
    have hsz : kA.size = vs.length := by
      have := ks.length
      rw [Array.length_toList] at this
      omega
    have hal : AllAlike (kz.map PyData.int) := fun x hx y hy => by
      obtain ⟨i, _, rfl⟩ := List.mem_map.mp hx
      obtain ⟨j, _, rfl⟩ := List.mem_map.mp hy
      rfl
    refine wpAny_bind (listItems_at gk rfl ?_)
    exact keyH_end (κ := dataKind s1.heap (kz.map .int)) (h₁ := freeH s1.heap kS) (free_keeps a _ _) (freeH_at _ _) gk ga hka (SortsAt.data (s := s1) hr hal hsk fun d hd => by
      obtain ⟨i, _, rfl⟩ := List.mem_map.mp hd
      exact hu) hsz hZ fun h3 tk3 c k3 n3 => h kA s1 h3 tk3 _ c j1 k3 n3 ⟨s1.heap, kA.toList, hal, rfl, hr⟩
theorem keyJ_tree {n : Nat} (ho : s.heap.get? a = some (seqObj "list" vs.toArray n)) (hZ : vs.length ≤ sizeLine)
    (rest : ∀ (kS e1 : Nat) (h5 : Heap), s.heap.objs.size ≤ kS → h5.objs.size = kS + 1 → h5.get? kS = some (seqObj "list" #[] 0) → h5.get? a = some (seqObj "list" #[] e1) → KeepsBut a s.heap h5 →
      wpAny (model prog w) A (ksk_rest a f false vs.toArray e1 (.ref kS)) P E { s with heap := h5 }) :
    wpAny (model prog w) A (ksk_tree a f false) P E s := by
  obtain ⟨e1, ho1⟩ : ∃ e1, (s.heap.update a (Obj.mapSeq fun _ => (#[] : Array Value))).get? a = some (seqObj "list" #[] e1) := ⟨_, get?_update_seq ho fun _ => #[]⟩
  have ha : a < s.heap.objs.size := Heap.lt_size ho
  unfold ksk_tree
  refine wpAny_bind (listItems_at ho rfl ?_)
  refine wpAny_bind (listUpdate_at ho rfl ?_ (by rw [List.size_toArray]; exact hZ) (Nat.zero_le _))
  refine wpAny_bind (seqEpoch_at ho1 rfl ?_)
  refine wpAny_bind (wpAny_newTuple ?_ (by show vs.length ≤ _; exact hZ))
  refine wpAny_bind (wpAny_newList ?_ (Nat.zero_le _))
  refine wpAny_holding ?_
  refine rest _ e1 _ ?_ (size_push' _ _) (Heap.get?_push_size _ rfl) (Heap.get?_push_of_some _ (Heap.get?_push_of_some _ ho1)) fun b o hb q => sortingHeap_old hb q
  rw [size_push', Heap.size_update]
  exact Nat.le_succ _
end
section
variable {prog : Program} {w : World} {A : Around} {E : Value → Shared → Prop} {s : Shared} {vs : List Value} {q l : Addr} {Q : Value → Shared → Prop}
theorem sortedJ (hl : s.heap.IsList l vs.toArray) (hZ : vs.length ≤ sizeLine)
    (rest : ∀ (E' : Value → Shared → Prop) (kS e1 : Nat) (h5 : Heap), s.heap.objs.size + 1 < kS → h5.objs.size = kS + 1 → h5.get? kS = some (seqObj "list" #[] 0) → h5.get? (s.heap.objs.size + 1) = some (seqObj "list" #[] e1) → (∀ b o, s.heap.get? b = some o → h5.get? b = some o) →
      wpAny (model prog w) A.in1.in1 (ksk_rest (s.heap.objs.size + 1) (.ref q) false vs.toArray e1 (.ref kS)) (fun r s' => r = .done (.ret .none) ∧ Q (.ref (s.heap.objs.size + 1)) s') E' { s with heap := h5 }) :
    wpAny (model prog w) A (call (.builtin "sorted") [.ref l] [(Str.ofString "key", .ref q)]) Q E s := by
  refine sorted_of_sort hl hZ (ksk_s1 _ _) (fun _ => ksk_l1 _ _) fun E' => ?_
  rw [ksk_t1]
  refine keyJ_tree (s := { s with heap := copyHeap s.heap vs }) (copyHeap_at s.heap vs) hZ fun kS e1 h5 h1 h2 h3 h4 h6 => ?_
  have hlt : s.heap.objs.size + 1 < (copyHeap s.heap vs).objs.size := Heap.lt_size (copyHeap_at s.heap vs)
  exact rest E' kS e1 h5 (Nat.lt_of_lt_of_le hlt h1) h2 h3 h4 fun b o e => h6 b o (Nat.ne_of_lt (Nat.lt_succ_of_lt (Heap.lt_size e))) (copyHeap_old e)
end
end DL

/-! DL, part zze: a lambda that a built-in calls. -/
namespace DL
open PySem PySem.Spec L2
open PyProof.Rows hiding St
section
variable {X : Cx} {pins : List (Addr × Obj)} {σ : L2.St} {H : Hp} {s : Shared} {a : Str} {scope : Scope} {f c' : Addr} {pm ctv : Value} {params : Arguments} {body : Expr} {k j : Nat} {tb : TE} {A : Around} {v : V} {u : Value} {Q : VK}
theorem lam_call (I : Inv X pins σ H s) (L : LamS1 X.env.scope scope a) (hN : X.N.Nodup) (hj : X.N[j]? = some a)
    (hf : s.heap.get? f = some (PySem.W.kla_obj "<lambda>" (X.env.qual ++ "<lambda>") params body scope (cloFrom X.env.cells scope.names []) pm c' ctv)) (hc : H c' = some (LamX.CodeO c' (X.env.qual ++ "<lambda>")))
    (hbind : ∀ u, bindArgs (PySem.W.kla_fn "<lambda>" (X.env.qual ++ "<lambda>") params body scope (cloFrom X.env.cells scope.names []) pm (.ref c') ctv) ⟨[u], []⟩ = pure [(a, u)])
    (e0 : Env0 X.prog X.w X.K X.mg X.base A X.stack s H) (hr : Room (k + 1) A) (hgd : A.guards = some [])
    (hbody : ∀ (A : Around) (outer : List Env) (s : Shared) (H : Hp), Rg k (A.deeper (LamX.lamEnv X scope s.heap.objs.size f c')) → PE (LamX.lamCx X A outer s H (fun _ _ _ => False) scope f c') body tb)
    (ru : RelV v u) (hb : tb (σ.set j (some v)) H Q) : wpAny (model X.prog X.w) A (call (.ref f) [u]) (EP X pins σ Q) (fun _ _ => False) s := by
  obtain ⟨⟨oc, vs, t, hoc, hdc, hvc⟩, _, _⟩ := I.hok c' _ hc
  have run : codeAny (model X.prog X.w) A (.call (.ref f) ⟨[u], []⟩) (CR (L2.CX X.prog X.w) X.stack X.prog X.w H s Q fun _ _ _ => False) s := by
    refine PySem.W.kla_callFunE hr.depth hf rfl L.co L.gen rfl ⟨c', oc, vs, t, rfl, hoc, hdc, hvc⟩ ?_
    rw [hbind u]
    refine wpAny_pure (wpAny_newFunctionEnv L.nocell (fun y hy => by rw [List.mem_singleton.mp hy]; exact L.par) (fun h₁ hns sb => ⟨I.nolimit.fresh _ sb, ?_⟩) L.kind)
    have kp : ∀ b o, s.heap.get? b = some o → h₁.get? b = some o := fun b o z => sb.extBut b o (Nat.ne_of_lt (Heap.lt_size z)) (Heap.get?_push_of_some _ z)
    have J : Inv (LamX.lamCx X A X.stack s H (fun _ _ _ => False) scope f c') [] (σ.set j (some v)) H { s with heap := h₁, toks := s.toks + 1 } :=
      lam1_start I L hN hj ru e0 hr.hd Un.refl hns kp
    refine PySem.W.kla_codeExpr (wpAny_mono ((hbody A X.stack s H ⟨hr.deeper _, hgd⟩).run [] _ _ H Q J hb) (fun z s' hq => ?_) fun e s' hq => hq)
    obtain ⟨w', H', J', rv, q⟩ := hq
    exact ⟨w', H', J'.os, J'.bare, J'.base, J'.hok, rv, q⟩
  refine wpAny_call (codeAny_mono run fun r s' hq => ?_)
  cases r with
  | error e =>
    obtain ⟨_, _, _, _, _, _, _, _, _, _, _, _, hF⟩ := hq
    exact False.elim hF
  | ok fl =>
    cases fl with
    | ret u => exact I.after hq
    | next => exact False.elim hq
    | brk => exact False.elim hq
    | cont => exact False.elim hq
end
end DL

/-! DL, part zzf: sorted(xs, key=lambda a: ..), keys whole numbers. -/
namespace DL
open PySem PySem.Spec L2
open PyProof.Rows hiding St
def keysG (g : D → Res) (w : Wl) : List D → Option (List Int)
  | [] => some []
  | d :: ds => match g d with
    | .ok (.int k) w' => if w' = w then (keysG g w ds).map (k :: ·) else none
    | _ => none
def keyP (p : D × Int) : PyData := .int p.2
def sortKd (ds : List D) (ks : List Int) : List D := ((ds.zip ks).mergeSort (PySem.W.dataLe false keyP)).map (·.1)
def eSortL (j : Nat) (g1 gb : EG) : EG := fun en w => (g1 en w).bind fun d w1 => match d with
  | .lst ds => (match keysG (fun d => gb (en.set j (.dat d)) w1) w1 ds with
    | some ks => if ds.length ≤ sizeLine then .ok (.lst (sortKd ds ks)) w1 else .bad
    | none => .bad)
  | _ => .bad
theorem keysG_get {g : D → Res} {w : Wl} : ∀ {ds : List D} {ks : List Int}, keysG g w ds = some ks → ks.length = ds.length ∧ ∀ (i : Nat) (d : D), ds[i]? = some d → ∃ k, ks[i]? = some k ∧ g d = .ok (.int k) w
  | [], ks, h => by
    cases h
    exact ⟨rfl, fun i d z => by simp at z⟩
  | d :: ds, ks, h => by
    rw [keysG] at h
    split at h
    · rename_i k w' e
      split at h
      · rename_i ew
        subst ew
        rw [Option.map_eq_some_iff] at h
        obtain ⟨ks', h1, rfl⟩ := h
        obtain ⟨l, r⟩ := keysG_get h1
        refine ⟨by rw [List.length_cons, List.length_cons, l], fun i d' z => ?_⟩
        cases i with
        | zero =>
          cases z
          exact ⟨k, rfl, e⟩
        | succ i => exact r i d' z
      · cases h
    · cases h
theorem each_ofZ {Kf : PySem.W.Frag} {aw : Bs} {F : Hp} : ∀ {us : List V} {its : List Value} {ds : List D} {ks : List Int}, Vals us its → DvAll Kf aw F us ds → ks.length = ds.length → PySem.W.EachIs (fun (v : Value) (p : D × Int) => ∃ x, RelV x v ∧ Dv Kf aw F x p.1) its (ds.zip ks)
  | _, _, _, ks, .nil, .nil, h => .nil
  | _, _, _, [], .cons r rs, .cons q qs, h => by cases h
  | _, _, _, k :: ks, .cons r rs, .cons q qs, h => .cons ⟨_, r, q⟩ (each_ofZ rs qs (Nat.succ.inj h))
theorem each_vals {Kf : PySem.W.Frag} {aw : Bs} {F : Hp} {out : List Value} {ps : List (D × Int)} (h : PySem.W.EachIs (fun (v : Value) (p : D × Int) => ∃ x, RelV x v ∧ Dv Kf aw F x p.1) out ps) : ∃ xs : List V, Vals xs out ∧ DvAll Kf aw F xs (ps.map (·.1)) := by
  induction h with
  | nil => exact ⟨[], .nil, .nil⟩
  | cons r _ ih =>
    obtain ⟨x, r1, r2⟩ := r
    obtain ⟨xs, q1, q2⟩ := ih
    exact ⟨x :: xs, .cons r1 q1, .cons r2 q2⟩
theorem zip_keys : ∀ {ds : List D} {ks : List Int}, ks.length = ds.length → (ds.zip ks).map keyP = ks.map PyData.int
  | [], [], _ => rfl
  | [], _ :: _, h => by cases h
  | _ :: _, [], h => by cases h
  | d :: ds, k :: ks, h => by
    rw [List.zip_cons_cons, List.map_cons, List.map_cons, zip_keys (Nat.succ.inj h)]
    rfl
section
variable {X : Cx} {W : WX} {K : Kt} {k k2 : Nat} {a : Str} {s1 s3 : Sg} {e1 body : Expr} {t1 tb : TE} {g1 gb : EG} {params : Arguments} {scope : Scope} {c P : Addr} {jj : Nat} {p lpos pos kp : Pos}
theorem de_sortedLam (hcalm : X.calm = true) (hr : Rg (k + 1) X.A) (hk2 : k2 + 2 ≤ k) (hgl : Gl X "sorted") (hmg : X.mg "sorted" = none) (h1 : DE K X W s1 e1 t1 g1)
    (hm : (P, X.env.qual ++ "<lambda>") ∈ K.T) (hu : ∀ p ∈ K.T, p.1 = P → p.2 = X.env.qual ++ "<lambda>") (B : LamX.TabB X.base X.mg c P) (hcode : X.env.code = .ref c) (L : LamS1 X.env.scope scope a) (hN : X.N.Nodup) (hjj : X.N[jj]? = some a)
    (hb : ∀ (A : Around) (outer : List Env) (s : Shared) (H : Hp) (f c' : Addr) (env : Env), Rg k2 (A.deeper env) → (LamX.lamEnv X scope s.heap.objs.size f c' = env) → DE K (LamX.lamCx X A outer s H (fun _ _ _ => False) scope f c') W0 s3 body tb gb)
    (hs3 : s3 ≠ .wk := by decide) (hdef : defaultsOf params X.env = ([], []) := by rfl)
    (hbind : ∀ (q : Str) (cl : List (Str × Addr)) (pm cv ctv u : Value), bindArgs (PySem.W.kla_fn "<lambda>" q params body scope cl pm cv ctv) ⟨[u], []⟩ = pure [(a, u)] := by intros; rfl)
    (hst : starEach [e1] X.env = (false, eval e1 X.env) :: starEach [] X.env := by rfl) :
    DE K X W .fr (.Call (.Name "sorted" p) [e1] [⟨some "key", .Lambda params body scope lpos, kp⟩] pos) (tSem X (.Call (.Name "sorted" p) [e1] [⟨some "key", .Lambda params body scope lpos, kp⟩] pos)) (eSortL jj g1 gb) := by
  obtain ⟨K0, T0, L0⟩ := K
  cases h1.hK
  refine ⟨rfl, pe_sem, fun f en w σ F H Q o h pins s I => ?_⟩
  refine wpAny_Call_Name_kw (ld_blt I hgl hmg (show bootBuiltins "sorted" = some (.builtin "sorted") by decide +kernel) ?_ (by decide) (by decide))
  refine PyProof.Rows.callWith_kw (id := "sorted") ?_ (by rw [hst]; rfl) (by rw [hst]; rfl) (by rfl) (by rfl)
  refine thn ((pa_cons h1.pe pa_nil hst).run pos pins s σ H (fun vs H1 => ∃ ds w1 F1 l us ks, vs = [.ref l] ∧ Go f.aw F H F1 H1 w1 ∧ Ok ⟨X.K, T0, L0⟩ f en w1 σ F1 H1 ∧ H1 l = some (.lst us) ∧ DvAll X.K f.aw F1 us ds ∧ keysG (fun d => gb (en.set jj (.dat d)) w1) w1 ds = some ks ∧ ds.length ≤ sizeLine ∧ Wn .fr X.K f.aw F1 H1 Q (WE W σ) (.ok (.lst (sortKd ds ks)) w1)) I ?_) fun us0 sA ⟨vs0, H1, I1, r1, ds, w1, F1, l, us, ks, e1, go1, o1, hl1, dv1, hk, hlen, hw1⟩ => ?_
  · unfold eSortL at h
    refine h1.es.bindW o h fun d w1 v F1 H1 g1 o1 rq hw => ?_
    split at hw
    · rename_i ds
      split at hw
      · rename_i ks hk
        split at hw
        · rename_i hlen
          obtain ⟨l, us, rfl, hv, dv⟩ := rq.seq o1.go.sub
          exact ⟨ds, w1, F1, l, us, ks, rfl, g1, o1, hv, dv, hk, hlen, hw⟩
        · exact hw.elim
      · exact hw.elim
    · exact hw.elim
  subst e1
  have eT : f.aw.T = T0 := o1.tT
  rw [Vals.ref1 r1]
  show wpAny _ _ (evalAll [(do let v ← eval (.Lambda params body scope lpos) X.env; standAt pos; pure v)]) _ _ sA
  refine wpAny_evalAll_cons (wpAny_bind (lam_mk I1 B hcode hm hu (by rw [← eT]; exact o1.tabs) hdef L fun fa c' pm ctv H3 sC I3 gr hf hfn hfr hco => wpAny_bind (wpAny_standAt (wpAny_pure (wpAny_evalAll_nil ?_)))))
  have g3 : Go f.aw F1 H1 F1 H3 w1 := o1.here.grow (by rw [eT]; exact gr)
  have o3 : Ok ⟨X.K, T0, L0⟩ f en w1 σ F1 H3 := o1.step g3
  have hw3 := Wn.any hw1 g3
  have hv3 : H3 l = some (.lst us) := gr.hh l _ hl1 fun ps z => nomatch z
  obtain ⟨its, rv, hl, _⟩ := I3.list (.inl (.inl hv3))
  obtain ⟨hkl, hkg⟩ := keysG_get hk
  have hul : its.length = ds.length := rv.length.symm.trans dv1.length
  have room := (hr.room.mono (show k2 + 1 + 1 + 1 ≤ k + 1 by omega)).in1.in1
  show wpAny _ _ (call (.builtin "sorted") [.ref l] [(Str.ofString "key", .ref fa)]) _ _ sC
  refine sortedJ (vs := its) (q := fa) hl.isList (by rw [hul]; exact hlen) fun E' kS e2 h5 q1 q2 q3 q4 q5 => ?_
  generalize haL : sC.heap.objs.size + 1 = aL at q1 q4 ⊢
  have faf : sC.heap.objs.size ≤ aL := by omega
  have fks : sC.heap.objs.size ≤ kS := by omega
  let pl : Array Value → Nat → List (Addr × Obj) := fun kA e => [(fa, PySem.W.kla_obj "<lambda>" (X.env.qual ++ "<lambda>") params body scope (cloFrom X.env.cells scope.names []) pm c' ctv), (kS, seqObj "list" kA e), (aL, seqObj "list" #[] e2)]
  let J : Array Value → Nat → Shared → Prop := fun kA i s' => ∃ e F' H', Inv X (pins ++ pl kA e) σ H' s' ∧ Go f.aw F1 H3 F' H' w1
  have noL : fa ≠ X.env.locals := fun z => by
    obtain ⟨m, ⟨o', es, ep, ho', hd', _⟩, _⟩ := I3.loc
    rw [← z, hf] at ho'
    cases ho'
    cases hd'
  have nofa : fa ∉ X.fs := fun z => hfr (by
    rcases I3.ok.stk with e | ⟨e, fe⟩
    · rw [e]
      exact z
    · rw [e]
      show fa ∈ (X.env :: X.outer).filterMap (·.frame)
      rw [List.filterMap_cons, fe]
      exact List.mem_cons_of_mem _ z)
  have pinOk : ∀ {kA : Array Value} {e : Nat} {H' : Hp} {s' : Shared}, Inv X pins σ H' s' → s'.heap.get? fa = some (PySem.W.kla_obj "<lambda>" (X.env.qual ++ "<lambda>") params body scope (cloFrom X.env.cells scope.names []) pm c' ctv) → s'.heap.get? kS = some (seqObj "list" kA e) → s'.heap.get? aL = some (seqObj "list" #[] e2) → H' fa = none → H' kS = none → H' aL = none →
      Inv X (pins ++ pl kA e) σ H' s' := fun {kA e H' s'} I' g1 g2 g3 n1 n2 n3 => I'.pins_of fun p hp => by
    rcases List.mem_append.mp hp with hp | hp
    · exact I'.pin p (List.mem_append_right _ hp)
    · simp only [pl, List.mem_cons, List.not_mem_nil, or_false] at hp
      rcases hp with rfl | rfl | rfl
      · exact ⟨g1, n1, noL, nofa, fun v z => nomatch z⟩
      · exact ⟨g2, n2, Nat.ne_of_gt (Nat.lt_of_lt_of_le I3.lt fks), I3.nofs fks, fun v z => nomatch z⟩
      · exact ⟨g3, n3, Nat.ne_of_gt (Nat.lt_of_lt_of_le I3.lt faf), I3.nofs faf, fun v z => nomatch z⟩
  have hne : kS ≠ aL := Nat.ne_of_gt q1
  have J0 : J #[] 0 { sC with heap := h5 } := ⟨0, F1, H3, pinOk (I3.kept (t' := sC.toks) q5) (q5 _ _ hf) q3 q4 hfn (I3.hok.fresh fks) (I3.hok.fresh faf), o3.here⟩
  have hJ : ∀ kA i s', J kA i s' → (∃ e, s'.heap.get? kS = some (seqObj "list" kA e)) ∧ s'.heap.get? aL = some (seqObj "list" #[] e2) := fun kA i s' ⟨e, F', H', I', _⟩ =>
    ⟨⟨e, (I'.pin (kS, _) (List.mem_append_right _ (List.mem_append_right _ (List.mem_cons_of_mem _ List.mem_cons_self)))).1⟩, (I'.pin (aL, _) (List.mem_append_right _ (List.mem_append_right _ (List.mem_cons_of_mem _ (List.mem_cons_of_mem _ List.mem_cons_self))))).1⟩
  have klen : ks.length = its.length := hkl.trans hul.symm
  refine keyJ_rest (J := J) (kz := ks) klen (by rw [hul]; exact hlen) (by have := room.un; omega) hne (.inr fun d hd => ?_) J0 hJ (fun kA i v kk s' hv hkk ⟨e, F', H', I', go'⟩ => ?_) fun kA s' h' tk out c2 ⟨e, F', H', I', go'⟩ kp ha ko => ⟨rfl, ?_⟩
  · obtain ⟨i, _, rfl⟩ := List.mem_map.mp hd
    exact ⟨fun z => (nomatch z), fun xs z => (nomatch z)⟩
  · obtain ⟨x, hx, ru⟩ : ∃ x, us[i]? = some x ∧ RelV x v := by
      have : i < us.length := by
        rw [rv.length]
        exact (List.getElem?_eq_some_iff.mp hv).1
      obtain ⟨u, hu2, r⟩ := rv.get (List.getElem?_eq_getElem this)
      rw [hv] at hu2
      cases hu2
      exact ⟨us[i], List.getElem?_eq_getElem this, r⟩
    obtain ⟨d, hd, dx⟩ : ∃ d, ds[i]? = some d ∧ Dv X.K f.aw F1 x d := dv1.getV hx
    obtain ⟨k', hk', eg⟩ := hkg i d hd
    rw [hkk] at hk'
    cases hk'
    have gd : X.A.in1.in1.guards = some [] := hr.gd
    have na : some c' ≠ f.aw.a := fun z => by
      rw [g3.wl c' z.symm] at hco
      have hco := Option.some.inj hco
      unfold LamX.CodeO at hco
      cases hco
    have pk := fun (p : Addr × Obj) (hp : p ∈ pl kA e) => I'.pin p (List.mem_append_right _ (List.mem_append_right _ hp))
    have tEs : ES ⟨X.K, T0, L0⟩ W0 .st tb gb := (hb X.A.in1.in1 X.stack s' H' fa c' _ ⟨room.deeper _, gd⟩ rfl).es.toSt hs3
    refine wpAny_mono (lam_call (A := X.A.in1.in1) (Q := fun u2 H2 => ∃ F2, u2 = .int kk ∧ Go f.aw F1 H3 F2 H2 w1) I' L hN hjj (pk _ List.mem_cons_self).1 (go'.hh c' _ na LamX.codeO_ne hco) (fun u => hbind _ _ _ _ _ u) I'.env0.in1.in1 room gd
      (fun A outer s H hr2 => (hb A outer s H fa c' _ hr2 rfl).pe) ru (tEs f (en.set jj (.dat d)) w1 (σ.set jj (some x)) F' H' _ ((o3.step go').setDat (dx.mono go'.ff)) ?_)) (fun u s2 hq => ?_) fun _ _ z => z
    · rw [eg]
      exact fun v' F2 H2 g' r' => ⟨F2, by cases r'; rfl, go'.trans g'⟩
    · obtain ⟨v', H2, I2, rv2, F2, ev, go2⟩ := hq
      subst ev
      obtain ⟨t, rfl⟩ := rv2
      have pk2 := fun (p : Addr × Obj) (hp : p ∈ pl kA e) => I2.pin p (List.mem_append_right _ (List.mem_append_right _ hp))
      have p1 := pk2 _ List.mem_cons_self
      have p2 := pk2 _ (List.mem_cons_of_mem _ List.mem_cons_self)
      have p3 := pk2 _ (List.mem_cons_of_mem _ (List.mem_cons_of_mem _ List.mem_cons_self))
      refine ⟨t, rfl, ⟨e, p2.1⟩, ?_⟩
      obtain ⟨e3, he3⟩ : ∃ e3, (s2.heap.update kS (Obj.mapSeq (·.push (Value.int kk t)))).get? kS = some (seqObj "list" (kA.push (.int kk t)) e3) := ⟨_, get?_update_seq p2.1 (·.push (Value.int kk t))⟩
      have other : ∀ b o, b ≠ kS → s2.heap.get? b = some o → (s2.heap.update kS (Obj.mapSeq (·.push (Value.int kk t)))).get? b = some o := fun b o hb q => by
        rw [Heap.get?_update_ne _ _ _ _ hb]
        exact q
      have I2w := (I2.unpinned).turnedL (t' := s2.toks) (ch := [kS]) (h' := s2.heap.update kS (Obj.mapSeq (·.push (Value.int kk t)))) (fun b o hb q => other b o (fun z => hb (by simp [z])) q) fun b hb => by
        rw [List.mem_singleton.mp hb]
        exact I3.fpOk fks p2.2.1
      exact ⟨e3, F2, H2, pinOk I2w (other _ _ (fun z => by
        have h9 := Heap.lt_size hf
        rw [z] at h9
        exact absurd h9 (Nat.not_lt.mpr fks)) p1.1) he3 (other _ _ hne.symm p3.1) p1.2.1 p2.2.1 p3.2.1, go2⟩
  · have pk := fun (p : Addr × Obj) (hp : p ∈ pl kA e) => I'.pin p (List.mem_append_right _ (List.mem_append_right _ hp))
    have p2 := pk _ (List.mem_cons_of_mem _ List.mem_cons_self)
    have p3 := pk _ (List.mem_cons_of_mem _ (List.mem_cons_of_mem _ List.mem_cons_self))
    have n3 : H' aL = none := p3.2.1
    rw [← zip_keys hkl] at ko
    obtain ⟨outV, v1, v2⟩ := each_vals (PySem.W.keyedOut_each keyP ko (each_ofZ rv dv1 hkl))
    have olen : outV.length ≤ sizeLine := by
      rw [v2.length, List.length_map, List.length_mergeSort, List.length_zip]
      omega
    have kept : ∀ b o, b ∉ [kS, aL] → s'.heap.get? b = some o → h'.get? b = some o := fun b o hb q => by
      simp only [List.mem_cons, List.not_mem_nil, or_false, not_or] at hb
      refine kp b o hb.2 ?_
      rw [freeH_ne hb.1]
      exact q
    have fpk : ∀ b ∈ [kS, aL], FpOk X pins H' b := fun b hb => by
      simp only [List.mem_cons, List.not_mem_nil, or_false] at hb
      rcases hb with rfl | rfl
      · exact I3.fpOk fks p2.2.1
      · exact I3.fpOk faf n3
    have I5 : Inv X pins σ H' { s' with heap := h', toks := tk } := (I'.unpinned).turnedL kept fpk
    have hok : HOk X.prog X.w (upd H' aL (.lst outV)) h' := HOk.laidN (h := h') I5.hok (fun _ _ q => q) n3 ⟨olen, out, c2, v1, ha⟩
    have un : Un (frs X.stack) [kS, aL] H' (upd H' aL (.lst outV)) s'.heap h' := by
      refine ⟨fun b o q n _ hx => kept b o hx q, fun b o q n _ hx => ⟨o.slots, kept b o hx q⟩, fun b o q n hx => ?_, fun b o q hx => ⟨o, kept b o hx q⟩, fun b xs q => ?_, fun b o u q => ?_, fun b ps q => ⟨#[], ?_⟩⟩
      · simp only [List.mem_cons, List.not_mem_nil, or_false, not_or] at hx
        rw [upd_ne hx.2]
        exact n
      · rw [upd_ne (ne_of_none q n3)]
        exact q
      · rw [upd_ne (ne_of_none q n3)]
        exact q
      · rw [upd_ne (ne_of_none q n3), q]
        simp
    have I6 : Inv X pins σ (upd H' aL (.lst outV)) { s' with heap := h', toks := tk } := (I'.unpinned).call' rfl un hok I'.bare fun b hb => ⟨(fpk b hb).2.2.2.1, (fpk b hb).2.1, (fpk b hb).2.2.2.2.1, (fpk b hb).2.2.2.2.2⟩
    exact ⟨.ref aL, _, I6, rfl, hw3 _ F' _ (go'.trans (go'.here.laid n3 _)) ⟨_, aL, outV, rfl, rfl, I3.hok.fresh faf, upd_same, go'.free n3, v2.mono go'.ff⟩⟩
end
end DL

/-! DL, part zzg: n.bit_length(). -/
namespace DL
open PySem PySem.Spec L2
open PyProof.Rows hiding St
def oBits : D → Wl → Res := fun d w => match d with
  | .int i => .ok (.int (Builtin.Int.intBits i : Nat)) w
  | _ => .bad
section
variable {X : Cx} {W : WX} {K : Kt} {s : Sg} {pos apos : Pos} {e : Expr} {ta : TE} {ga : EG}
theorem es_bits (ha : ES K W s ta ga) : ES K W .st (tBits ta) (eUn oBits ga) := by
  intro f en w σ F H Q o h
  unfold eUn at h
  refine ha.bindW o h fun d w1 v F1 H1 g1 o1 r1 hw => ?_
  unfold oBits at hw
  split at hw
  · have ev := r1.int
    subst ev
    exact ⟨_, rfl, Wn.val hw o1.here (.int _)⟩
  · exact hw.elim
theorem de_bits (ha : DE K X W s e ta ga) (hb : attributeBase e "bit_length" X.env (eval e X.env) = eval e X.env := by rfl) (hline : (apos.endLine == pos.line) = true := by rfl) :
    DE K X W .st (.Call (.Attribute e "bit_length" apos) [] [] pos) (tBits ta) (eUn oBits ga) := by
  obtain ⟨K0, T0, L0⟩ := K
  cases ha.hK
  exact ⟨rfl, pe_bits ha.pe hb hline, es_bits ha.es⟩
end
end DL

/-! DL, part zzh: x = [.. for .. for ..]. -/
namespace DL
open PySem PySem.Spec L2
open PyProof.Rows hiding St
section
variable {X : Cx} {W : WX} {K : Kt} {s : Sg} {pos spos py : Pos} {x : Str} {tg e tg1 e1 elt : Expr} {ti ti1 : TI} {gi gi1 : AG} {g g1 : TG} {b b1 : BG} {vs' vs1' : List Nat} {te : TE} {ge : EG}
end
end DL

/-! DL, part zzi: i | j; i << j for great i. -/
namespace DL
open PySem PySem.Spec L2
open PyProof.Rows hiding St
section
variable {X : Cx} {W : WX} {K : Kt} {Kf : PySem.W.Frag} {s1 s2 : Sg} {pos : Pos} {a b : Expr} {ta tb : TE} {ga gb : EG}
def oShlW := oI (fun i j => decide (CShl i j)) fun i j => .int (i * 2 ^ j.toNat)
def rShlW : R2 := rI CShl fun i j => .int (i * 2 ^ j.toNat)
theorem de_shlW (ha : DE K X W s1 a ta ga) (hb : DE K X W s2 b tb gb) : DE K X W .st (.BinOp a .LShift b pos) (tOp rShlW ta tb) (eBin oShlW ga gb) := by
  obtain ⟨K0, T0, L0⟩ := K
  cases ha.hK
  exact de_bin op_shlW (ops_I (fun i j h => of_decide_eq_true h) fun _ _ i j => .int _) ha hb
end
end DL

/-! DL, part zzj: tuple(range(n)). -/
namespace DL
open PySem PySem.Spec L2
open PyProof.Rows hiding St
section
variable {X : Cx} {W : WX} {K : Kt} {s1 : Sg} {pos pos2 p p2 : Pos} {a : Expr} {ta : TE} {ga : EG}
end
end DL

/-! t <= u: tuples of whole numbers. -/
namespace DL
open PySem PySem.Spec L2
open PyProof.Rows hiding St
section
variable {X : Cx} {W : WX} {K : Kt} {Kf : PySem.W.Frag} {s s1 s2 s3 : Sg} {pos : Pos} {a b c : Expr} {ta tb tc : TE} {ga gb gc : EG}
end
end DL

/-! zip of a tuple and a list. -/
namespace DL
open PySem PySem.Spec L2
open PyProof.Rows hiding St
abbrev zm1 (h : Heap) (t : Addr) : Heap := h.push { cls := .type "tuple_iterator", data := .fields #[.ref t, .int 0 0] }
abbrev zm2 (h : Heap) (t l : Addr) : Heap := (zm1 h t).push { cls := .type "list_iterator", data := .fields #[.ref l, .int 0 0] }
abbrev zm3 (h : Heap) (t l : Addr) : Heap := (zm2 h t l).push { cls := .type "tuple", data := .seq #[.ref h.objs.size, .ref (zm1 h t).objs.size] }
abbrev zm4 (h : Heap) (t l : Addr) : Heap := (zm3 h t l).push { cls := .type "tuple", data := .seq #[.none, .none] }
abbrev zm5 (h : Heap) (t l : Addr) : Heap := (zm4 h t l).push { cls := .type "zip", data := .fields #[.none, .bool false, .bool false, .ref (zm2 h t l).objs.size, .ref (zm3 h t l).objs.size] }
theorem meets_zipM (t l : Addr) (xs ys : Array Value) : Meets (Builtin.«zip.__new__» ⟨[.type "zip", .ref t, .ref l], []⟩)
    (fun _ R s => s.heap.IsTuple t xs ∧ s.heap.IsList l ys ∧ R (.ok (.ret (.ref (zm4 s.heap t l).objs.size))) { s with heap := zm5 s.heap t l }) :=
  .of_wp fun prog w A R s hall => by
    obtain ⟨hp, g, d, tk, os⟩ := s
    obtain ⟨ht, hl, hr⟩ := hall
    have hs := sub_zip
    have q1 : Heap.IsTuple (Shared.heap ⟨hp, g, d, tk, os⟩) t xs := ht
    have q2 : Heap.IsList (Shared.heap ⟨zm1 hp t, g, d, tk, os⟩) l ys := Heap.IsList.push hl _
    wp_walk using wpAny_pyIter_tuple q1, wpAny_pyIter_list q2
    exact ⟨_, rfl, hr⟩
section
variable {prog : Program} {w : World} {A : Around} {E : Value → Shared → Prop} {s : Shared}
theorem call_zipM {t l : Addr} {xs ys : Array Value} {Q : Value → Shared → Prop} (ht : s.heap.IsTuple t xs) (hl : s.heap.IsList l ys)
    (hq : ∀ h', IsZip h' (s.heap.objs.size + 4) (s.heap.objs.size + 2) (s.heap.objs.size + 3) .none → IsTupOf2 h' (s.heap.objs.size + 2) (.ref s.heap.objs.size) (.ref (s.heap.objs.size + 1)) →
      IsTupOf2 h' (s.heap.objs.size + 3) .none .none → h'.IsTupleIter s.heap.objs.size t 0 → h'.IsListIter (s.heap.objs.size + 1) l 0 →
      (∀ c o, s.heap.get? c = some o → h'.get? c = some o) → Q (.ref (s.heap.objs.size + 4)) { s with heap := h' }) :
    wpAny (model prog w) A (call (.type "zip") [.ref t, .ref l]) Q E s := by
  refine callType_new F.called_zip (by decide) (F.typeCall_zip_2 _ _) (F.newCall_zip_2 _ _) (fun obj => F.args_object_init_3 obj _ _) F.entry_zip_new (meets_zipM t l xs ys) ⟨ht, hl, ?_⟩
  have n1 : (zm1 s.heap t).objs.size = s.heap.objs.size + 1 := Heap.size_push ..
  have n2 : (zm2 s.heap t l).objs.size = s.heap.objs.size + 2 := by rw [Heap.size_push, n1]
  have n3 : (zm3 s.heap t l).objs.size = s.heap.objs.size + 3 := by rw [Heap.size_push, n2]
  have n4 : (zm4 s.heap t l).objs.size = s.heap.objs.size + 4 := by rw [Heap.size_push, n3]
  have up1 : ∀ (h : Heap) (ob : Obj) (c : Addr) (o : Obj), h.get? c = some o → (h.push ob).get? c = some o := fun h ob c o e => Heap.get?_push_of_some _ e
  have k5 : (zm5 s.heap t l).get? (zm4 s.heap t l).objs.size = some _ := Heap.get?_push_size _ rfl
  have k4 : (zm5 s.heap t l).get? (zm3 s.heap t l).objs.size = some _ := up1 _ _ _ _ (Heap.get?_push_size _ rfl)
  have k3 : (zm5 s.heap t l).get? (zm2 s.heap t l).objs.size = some _ := up1 _ _ _ _ (up1 _ _ _ _ (Heap.get?_push_size _ rfl))
  have k2 : (zm5 s.heap t l).get? (zm1 s.heap t).objs.size = some _ := up1 _ _ _ _ (up1 _ _ _ _ (up1 _ _ _ _ (Heap.get?_push_size _ rfl)))
  have k1 : (zm5 s.heap t l).get? s.heap.objs.size = some _ := up1 _ _ _ _ (up1 _ _ _ _ (up1 _ _ _ _ (up1 _ _ _ _ (Heap.get?_push_size _ rfl))))
  show _ ∧ _
  rw [n2, n3, n4] at k5
  rw [n3] at k4
  rw [n1, n2] at k3
  rw [n1] at k2
  rw [n4]
  exact ⟨⟨_, k5, rfl⟩, hq _ k5 k3 k4 ⟨_, k1, rfl, rfl⟩ ⟨_, k2, rfl, rfl⟩ fun c o x => up1 _ _ _ _ (up1 _ _ _ _ (up1 _ _ _ _ (up1 _ _ _ _ (up1 _ _ _ _ x))))⟩
end
theorem sepM {z TI TO i1 i2 a b : Addr} (D : ZipApart z TI TO i1 i2 a b) : ZipSep2 z TI TO i1 i2 [i1, a] [i2, b] where
  TIz := D.TIz
  TOz := D.TOz
  TITO := D.TITO
  TIi1 := D.TIi1
  mem1 := by simp
  zf1 := by simp [D.i1z.symm, D.l1z.symm]
  Tf1 := by simp [D.TOi1, D.l1TO.symm]
  TIi2 := D.TIi2
  mem2 := by simp
  zf2 := by simp [D.i2z.symm, D.l2z.symm]
  Tf2 := by simp [D.TOi2, D.l2TO.symm]
  sep1_2 := by simp [D.i12, D.l2i1.symm]
  sep2_1 := by simp [D.i12.symm, D.l1i2.symm]
/-- the tuple at a and the list at b, turn by turn -/
def ItzM (K : PySem.W.Frag) (a b : Addr) (n1 n2 : Nat) : It :=
  ⟨fun i H => ∃ (xs ys : List V) (x y : V), SqT K H a xs ∧ SqL K H b ys ∧ xs[i]? = some x ∧ ys[i]? = some y ∧ xs.length = n1 ∧ ys.length = n2,
    fun i H v H' => ∃ T x y, v = .ref T ∧ H T = none ∧ H' = upd H T (.tup [x, y]) ∧ (∀ xs, SqT K H a xs → xs[i]? = some x) ∧ ∀ ys, SqL K H b ys → ys[i]? = some y,
    fun i H => ∃ xs ys : List V, SqT K H a xs ∧ SqL K H b ys ∧ (xs.length ≤ i ∨ ys.length ≤ i) ∧ xs.length = n1 ∧ ys.length = n2⟩
def tnM (n1 n2 : Nat) (a b z TI TO i1 i2 : Addr) (i : Nat) (h : Heap) : Prop := (i ≤ n1 ∧ i ≤ n2) ∧ IsZip h z TI TO .none ∧ IsTupOf2 h TI (.ref i1) (.ref i2) ∧ (∃ x y, IsTupOf2 h TO x y) ∧ h.IsTupleIter i1 a i ∧ h.IsListIter i2 b i
theorem five_mem {P : Addr → Prop} {z TI TO i1 i2 : Addr} (h1 : P z) (h2 : P TI) (h3 : P TO) (h4 : P i1) (h5 : P i2) : ∀ c, c ∈ [z, TI, TO, i1, i2] → P c := fun c hc => by
  simp only [List.mem_cons, List.not_mem_nil, or_false] at hc
  rcases hc with rfl | rfl | rfl | rfl | rfl <;> assumption
theorem turn_zipM {P : Program} {w : World} {K : PySem.W.Frag} {elts : List Expr} {kk : Nat} {tpos : Pos} {a b z TI TO i1 i2 : Addr} {n1 n2 : Nat} (D : ZipApart z TI TO i1 i2 a b) : Turn P w K (.Tuple elts kk tpos) (ItzM K a b n1 n2) [z, TI, TO, i1, i2] z (tnM n1 n2 a b z TI TO i1 i2) where
  mem := by simp
  obj := fun i h st => by
    obtain ⟨_, gz, gI, ⟨x, y, gO⟩, ⟨o1, e1, _, d1⟩, ⟨o2, e2, _, d2⟩⟩ := st
    exact five_mem (P := fun c => ∃ o, h.get? c = some o ∧ ∀ v, o.data ≠ .cell v) ⟨_, gz, fun v q => nomatch q⟩ ⟨_, gI, fun v q => nomatch q⟩ ⟨_, gO, fun v q => nomatch q⟩ ⟨o1, e1, fun v q => by rw [d1] at q; cases q⟩ ⟨o2, e2, fun v q => by rw [d2] at q; cases q⟩
  keep := fun i h h' st k => by
    obtain ⟨hn, gz, gI, ⟨x, y, gO⟩, g1, g2⟩ := st
    exact ⟨hn, k z (by simp) _ gz, k TI (by simp) _ gI, ⟨x, y, k TO (by simp) _ gO⟩, g1.at fun o q => k i1 (by simp) o q, g2.at fun o q => k i2 (by simp) o q⟩
  item := by
    intro X hP hw hK hc i pins s σ H E I hf st hg
    subst hP hw hK
    obtain ⟨⟨m1, m2⟩, gz, gI, ⟨x0, y0, gO⟩, g1, g2⟩ := st
    obtain ⟨xs, ys, x, y, sx, sy, ex, ey, r1, r2⟩ := hg
    obtain ⟨its, rv, p, _⟩ := I.tuple sx
    obtain ⟨its2, rv2, p2, _⟩ := I.list sy
    obtain ⟨u, hu, ru⟩ := rv.get ex
    obtain ⟨u2, hu2, ru2⟩ := rv2.get ey
    have lz : z < s.heap.objs.size := Heap.lt_size gz
    have hh : X.A.in1.handled = none := I.ok.hd hc
    have b1 : i < its.toArray.size := by
      have := (List.getElem?_eq_some_iff.mp hu).1
      simpa using this
    have b2 : i < its2.toArray.size := by
      have := (List.getElem?_eq_some_iff.mp hu2).1
      simpa using this
    refine wpAny_pyNext_zipD2_item (sepM D) (Draws.tuple hh i1 a D.l1i1 its.toArray) (Draws.list hh i2 b D.l2i2 its2.toArray) gz gI gO ⟨g1, p⟩ ⟨g2, p2.isList⟩ b1 b2 fun v1 v2 h' tk pv1 pv2 z' TO' g1' g2' hT hsz hk => ?_
    have ev1 : v1 = u := by
      have pv1 : its.toArray[i]? = some v1 := pv1
      rw [List.getElem?_toArray, hu] at pv1
      exact (Option.some.inj pv1).symm
    have ev2 : v2 = u2 := by
      have pv2 : its2.toArray[i]? = some v2 := pv2
      rw [List.getElem?_toArray, hu2] at pv2
      exact (Option.some.inj pv2).symm
    subst ev1 ev2
    refine ⟨_, rfl, wpAny_letOwnedTupleGo_zip (s := { s with heap := h', toks := tk }) z' fun h'' z'' sb => ?_⟩
    have gT : h''.get? s.heap.objs.size = some { cls := .type "tuple", data := .seq #[v1, v2] } := (sb.2 _ (Nat.ne_of_gt lz)).trans hT
    have new : ObjOk X.prog X.w (upd H s.heap.objs.size (.tup [x, y])) h'' s.heap.objs.size (.tup [x, y]) := ⟨by show 2 ≤ sizeLine; decide, [v1, v2], .cons ru (.cons ru2 .nil), ⟨_, gT, rfl, _, rfl⟩⟩
    have keep : ∀ c o, c ∉ [z, TI, TO, i1, i2] → s.heap.get? c = some o → h''.get? c = some o := fun c o hb q => by
      simp only [List.mem_cons, List.not_mem_nil, or_false, not_or] at hb
      exact (sb.2 c hb.1).trans (hk c o hb.1 hb.2.2.1 hb.2.2.2.1 hb.2.2.2.2 q)
    have I1 : Inv X pins σ (upd H s.heap.objs.size (.tup [x, y])) { s with heap := h'', toks := tk } := I.turnedNew (t' := tk) (ch := [z, TI, TO, i1, i2]) keep hf (Nat.le_refl _) new
    refine ⟨.ref s.heap.objs.size, _, I1, rfl, ⟨_, x, y, rfl, I.hok.fresh (Nat.le_refl _), rfl, fun l hl => by rw [I.tuple_inj hl sx]; exact ex, fun l hl => by rw [I.list_inj hl sy]; exact ey⟩, ⟨⟨by rw [← r1]; exact (List.getElem?_eq_some_iff.mp ex).1, by rw [← r2]; exact (List.getElem?_eq_some_iff.mp ey).1⟩, z'', ?_, ⟨v1, v2, ?_⟩, ?_, ?_⟩, ?_⟩
    · exact (sb.2 _ D.TIz).trans (hk _ _ D.TIz D.TITO D.TIi1 D.TIi2 gI)
    · exact (sb.2 _ D.TOz).trans TO'
    · exact g1'.1.at fun o q => (sb.2 _ D.i1z).trans q
    · exact g2'.1.at fun o q => (sb.2 _ D.i2z).trans q
    · have small : ∀ c, c ∈ [z, TI, TO, i1, i2] → c < s.heap.objs.size := by
        obtain ⟨_, e1, _⟩ := g1
        obtain ⟨_, e2, _⟩ := g2
        exact five_mem (P := fun c => c < s.heap.objs.size) lz (Heap.lt_size gI) (Heap.lt_size gO) (Heap.lt_size e1) (Heap.lt_size e2)
      intro c hcm
      show upd H s.heap.objs.size (.tup [x, y]) c = none
      rw [upd_ne (Nat.ne_of_lt (small c hcm))]
      exact (hf c hcm).1
  done := by
    intro X hP hw hK hc i pins s σ H E I hf st hg
    subst hP hw hK
    obtain ⟨⟨m1, m2⟩, gz, gI, ⟨x0, y0, gO⟩, g1, g2⟩ := st
    obtain ⟨xs, ys, sx, sy, hend, r1, r2⟩ := hg
    obtain ⟨its, rv, p, _⟩ := I.tuple sx
    obtain ⟨its2, rv2, p2, _⟩ := I.list sy
    have l1 := rv.length
    have l2 := rv2.length
    have hh : X.A.in1.handled = none := I.ok.hd hc
    refine wpAny_pyNext_zipD2_end (sepM D) (Draws.tuple hh i1 a D.l1i1 its.toArray) (Draws.list hh i2 b D.l2i2 its2.toArray) gz gI gO ⟨g1, p⟩ ⟨g2, p2.isList⟩ (by simp; omega) (by simp; omega) (by simp; omega) fun h' tk hk => ⟨rfl, ?_⟩
    refine I.turnedL (t' := tk) (ch := [z, TI, TO, i1, i2]) (fun c o hb q => ?_) hf
    simp only [List.mem_cons, List.not_mem_nil, or_false, not_or] at hb
    exact hk c o hb.1 hb.2.2.1 hb.2.2.2.1 hb.2.2.2.2 q
  self := fun A i s Q E st h => wpAny_pyIter_zip st.2.1 h
def iZipM (K : PySem.W.Frag) (ta : TA) : TI := fun σ H R => ta σ H fun vs H1 => ∃ a b xs ys, vs = [.ref a, .ref b] ∧ SqT K H1 a xs ∧ SqL K H1 b ys ∧ R (ItzM K a b xs.length ys.length) H1
theorem pi_zipM {X : Cx} {e e2 : Expr} {ta : TA} {p pos tpos : Pos} {elts : List Expr} {kk : Nat} (hg : Gl X "zip") (hm : X.mg "zip" = none) (ha : PA X [e, e2] ta)
    (hs : starEach [e, e2] X.env = (false, eval e X.env) :: starEach [e2] X.env := by rfl) (hpl : (backTo pos (starEach [e2] X.env)).any (·.1) = false := by rfl) :
    PI X (.Tuple elts kk tpos) (.Call (.Name "zip" p) [e, e2] [] pos) (iZipM X.K ta) := by
  refine ⟨fun pins s σ H R I h => Call_ (ld_blt I hg hm PyProof.Rows.boot_zip (PyProof.Rows.callWith_type1 (thn (ha.run pos pins s σ H _ I h) fun us s1 got => ?_) hs hpl))⟩
  obtain ⟨vs, H1, I1, r1, a, b, xs, ys, rfl, sx, sy, q⟩ := got
  cases r1 with
  | cons ra rr =>
    cases rr with
    | cons rb rr =>
      cases rr
      cases ra
      cases rb
      obtain ⟨its, rv, p1, _⟩ := I1.tuple sx
      obtain ⟨its2, rv2, p2, _⟩ := I1.list sy
      obtain ⟨o1, ho1, _⟩ := id p1
      refine call_zipM (show s1.heap.IsTuple a its.toArray from p1) p2.isList fun h' gz gI gO g1 g2 hk => wpAny_pyIter_zip gz ?_
      have I2 : Inv X pins σ H1 { s1 with heap := h' } := I1.kept (t' := s1.toks) hk
      have fr : ∀ c, s1.heap.objs.size ≤ c → FpOk X pins H1 c := fun c hle => I1.fpOk hle (I1.hok.fresh hle)
      exact ⟨s1.heap.objs.size + 4, [s1.heap.objs.size + 4, s1.heap.objs.size + 2, s1.heap.objs.size + 3, s1.heap.objs.size, s1.heap.objs.size + 1], _, _, H1, rfl, I2,
        turn_zipM (n1 := xs.length) (n2 := ys.length) (PySem.W.ktu_apart s1.heap.objs.size a b (Heap.lt_size ho1) p2.lt), ⟨⟨Nat.zero_le _, Nat.zero_le _⟩, gz, gI, ⟨_, _, gO⟩, g1, g2⟩,
        five_mem (P := fun c => FpOk X pins H1 c) (fr _ (Nat.le_add_right _ _)) (fr _ (Nat.le_add_right _ _)) (fr _ (Nat.le_add_right _ _)) (fr _ (Nat.le_refl _)) (fr _ (Nat.le_add_right _ _)), q⟩
def gZip2 (g : AG) : AG := fun en w => match g en w with
  | .ok [.lst ds, .lst es] w1 => .ok (pairsZ ds es) w1
  | .ok [.tup ds, .tup es] w1 => .ok (pairsZ ds es) w1
  | .ok [.tup ds, .lst es] w1 => .ok (pairsZ ds es) w1
  | .ok _ _ => .bad
  | .ex c fn a w1 => .ex c fn a w1
  | .bad => .bad
section
variable {X : Cx} {W : WX} {K : Kt} {Kf : PySem.W.Frag} {b bb : Bool} {pos p tpos : Pos} {a e : Expr} {elts : List Expr} {kk : Nat} {tA : TA} {gA : AG} {aw : Bs} {q r : Addr} {F1 H1 F H : Hp} {vs us : List V} {ds es : List D} {w : Wl}
theorem walks_zipM (hv : SqT Kf F1 q vs) (hu : StayL Kf bb aw r F1 H1 us) (dv : DvAll Kf aw F1 vs ds) (du : DvAll Kf aw F1 us es) : Walks Kf aw (ItzM Kf q r vs.length us.length) (pairsZ ds es) (Stay bb aw F1 H1) := by
  intro i w F H hp go
  have s1 := sqT_same (hp.1.trans go.sub) hv
  have s2 : SqL Kf H r us := .inl (.inl (hu F H hp go.sub))
  have hl := pairsZ_length (ds := ds) (es := es)
  have l1 := dv.length
  have l2 := du.length
  refine ⟨fun d hd => ?_, fun hi => ⟨vs, us, s1, s2, by omega, rfl, rfl⟩⟩
  obtain ⟨d0, e0, hd0, he0, rfl⟩ := pairsZ_get hd
  obtain ⟨v, ev, rv⟩ := dv.get hd0
  obtain ⟨u, eu, ru⟩ := du.get he0
  refine ⟨⟨vs, us, v, u, s1, s2, ev, eu, rfl, rfl⟩, fun x H' hy => ?_⟩
  obtain ⟨T, y, z, rfl, hT, rfl, hx, hz⟩ := hy
  have q1 := hx vs s1
  have q2 := hz us s2
  rw [ev] at q1
  rw [eu] at q2
  cases q1
  cases q2
  exact ⟨_, pairZ_go go hT (rv.mono hp.1) (ru.mono hp.1)⟩
theorem di_zip2 (hg : Gl X "zip") (hm : X.mg "zip" = none) (ha : DA K X W b [a, e] tA gA) (hb : b = false ∨ bb = true := by first | exact .inl rfl | exact .inr rfl)
    (hs : starEach [a, e] X.env = (false, eval a X.env) :: starEach [e] X.env := by rfl) (hpl : (backTo pos (starEach [e] X.env)).any (·.1) = false := by rfl) :
    DI K X W bb (.Tuple elts kk tpos) (.Call (.Name "zip" p) [a, e] [] pos) (fun σ H R => RZ.iZipA K tA σ H R ∨ iZipM K tA σ H R) (gZip2 gA) := by
  obtain ⟨K0, T0, L0⟩ := K
  cases ha.hK
  refine ⟨rfl, pi_or (RZ.pi_zipA hg hm ha.pa hs hpl) (pi_zipM hg hm ha.pa hs hpl), fun f en w σ F H R o h => ?_⟩
  unfold gZip2 at h
  cases z : gA en w with
  | bad =>
    rw [z] at h
    exact h.elim
  | ex c fn a w1 =>
    rw [z] at h
    exact .inl (ha.es f en w σ F H _ o (by rw [z]; exact h))
  | ok ds w1 =>
    rw [z] at h
    split at h
    · rename_i xs ys w2 hz
      cases hz
      refine .inl (ha.es f en w σ F H _ o ?_)
      rw [z]
      intro vs F' H' g r
      obtain ⟨x, y, rfl⟩ := rla_two r
      obtain ⟨r1, r2⟩ := rla_head r
      obtain ⟨q, us, rfl, h1, st, dv⟩ := stayL_of hb g.here r1
      obtain ⟨q2, us2, rfl, h2, st2, dv2⟩ := stayL_of hb g.here r2
      exact ⟨q, q2, us, us2, rfl, .inl ⟨.inl (.inl h1), .inl (.inl h2), h _ F' H' g (walks_zipL st st2 dv dv2)⟩⟩
    · rename_i xs ys w2 hz
      cases hz
      refine .inl (ha.es f en w σ F H _ o ?_)
      rw [z]
      intro vs F' H' g r
      obtain ⟨x, y, rfl⟩ := rla_two r
      obtain ⟨r1, r2⟩ := rla_head r
      obtain ⟨q, us, rfl, h1, dv⟩ := rla_tup r1
      obtain ⟨q2, us2, rfl, h2, dv2⟩ := rla_tup r2
      exact ⟨q, q2, us, us2, rfl, .inr ⟨sqT_same g.sub h1, sqT_same g.sub h2, h _ F' H' g (walks_zipT h1 h2 dv dv2)⟩⟩
    · rename_i xs ys w2 hz
      cases hz
      refine .inr (ha.es f en w σ F H _ o ?_)
      rw [z]
      intro vs F' H' g r
      obtain ⟨x, y, rfl⟩ := rla_two r
      obtain ⟨r1, r2⟩ := rla_head r
      obtain ⟨q, us, rfl, h1, dv⟩ := rla_tup r1
      obtain ⟨q2, us2, rfl, h2, st2, dv2⟩ := stayL_of hb g.here r2
      exact ⟨q, q2, us, us2, rfl, sqT_same g.sub h1, .inl (.inl h2), h _ F' H' g (walks_zipM h1 st2 dv dv2)⟩
    · exact h.elim
    · rename_i hz; cases hz
    · exact h.elim
end
end DL

/-! list({x: True for x in xs}): the unlike ones of some tuples of whole numbers, constants of the module among them. -/
namespace DL
open PySem PySem.Spec L2
open PyProof.Rows hiding St
theorem is_keep {P : Program} {w : World} {h h' : Heap} {ks : List Key} {a : Addr} (x : (tupleKind (mixKind P w)).is h ks a) (k : ∀ o, h.get? a = some o → h'.get? a = some o) : (tupleKind (mixKind P w)).is h' ks a := by
  obtain ⟨o, its, n, h1, h2, h3, h4⟩ := x
  exact ⟨o, its, n, k o h1, h2, h3, h4⟩
theorem sq_key {X : Cx} {pins : List (Addr × Obj)} {σ : L2.St} {H : Hp} {s : Shared} (I : Inv X pins σ H s) {a : Addr} {ks : List Key} (e : SqT X.K H a (ks.map kV)) : (tupleKind (mixKind X.prog X.w)).is s.heap ks a := by
  obtain ⟨its, r, p, _⟩ := I.tuple e
  obtain ⟨o, h1, h2, n, h3⟩ := id p
  exact ⟨o, its.toArray, n, h1, h2, h3, by simpa using items_are r⟩
abbrev KA := List Key × Addr
def hasK (acc : List KA) (k : List Key) : Bool := (acc.find? fun x => decide (x.1 = k)).isSome
/-- the first ones of like keys -/
def firstK : List KA → List KA → List KA
  | acc, [] => acc
  | acc, ka :: r => firstK (if hasK acc ka.1 = true then acc else acc ++ [ka]) r
theorem firstK_snoc : ∀ (xs acc : List KA) (ka : KA), firstK acc (xs ++ [ka]) = if hasK (firstK acc xs) ka.1 = true then firstK acc xs else firstK acc xs ++ [ka]
  | [], acc, ka => rfl
  | x :: xs, acc, ka => by
    rw [List.cons_append, firstK, firstK, firstK_snoc xs]
theorem firstK_sub : ∀ (xs acc : List KA), ∀ x ∈ firstK acc xs, x ∈ acc ∨ x ∈ xs
  | [], acc, x, h => .inl h
  | y :: xs, acc, x, h => by
    rw [firstK] at h
    rcases firstK_sub xs _ x h with q | q
    · split at q
      · exact .inl q
      · rcases List.mem_append.mp q with q | q
        · exact .inl q
        · rw [List.mem_singleton.mp q]
          exact .inr List.mem_cons_self
    · exact .inr (List.mem_cons_of_mem _ q)
theorem firstK_len : ∀ (xs acc : List KA), (firstK acc xs).length ≤ acc.length + xs.length
  | [], acc => Nat.le_refl _
  | y :: xs, acc => by
    rw [firstK]
    have := firstK_len xs (if hasK acc y.1 = true then acc else acc ++ [y])
    rw [List.length_cons]
    split at this
    · rw [if_pos ‹_›]; omega
    · rw [if_neg ‹_›]
      rw [List.length_append, List.length_singleton] at this
      omega
def kas (xs : List (List Key × Addr × Value)) : List KA := xs.map fun x => (x.1, x.2.1)
theorem atKey_has (xs : List (List Key × Addr × Value)) (k : List Key) : (atKey xs k).isSome = hasK (kas xs) k := by
  unfold atKey hasK kas
  rw [Option.isSome_map]
  induction xs with
  | nil => rfl
  | cons x xs ih =>
    rw [List.map_cons, List.find?_cons, List.find?_cons]
    by_cases h : x.1 = k
    · simp [h]
    · simp [h, ih]
theorem storedH_keys (xs : List (List Key × Addr × Value)) (k : List Key) (a : Addr) (v : Value) : kas (storedH xs k a v) = if hasK (kas xs) k = true then kas xs else kas xs ++ [(k, a)] := by
  unfold storedH
  rw [atKey_has]
  split
  · unfold kas
    rw [List.map_map]
    refine List.map_congr_left fun x _ => ?_
    show ((putAt k v x).1, (putAt k v x).2.1) = _
    unfold putAt
    split <;> rfl
  · unfold kas
    rw [List.map_append]
    rfl
/-- a dict with these keys, in this order -/
def keysAt (D : Addr) (ks : List KA) (h : Heap) : Prop := ∃ o es ep, h.get? D = some o ∧ o.ExactDict ∧ o.data = .dict es ep ∧ es.toList.map (·.key) = ks.map (fun ka => Value.ref ka.2) ∧ (D == sysModules) = false
theorem keysAt_ok {P : Program} {w : World} {H : Hp} {h : Heap} {D : Addr} {ks : List KA} (x : keysAt D ks h) : ObjOk P w H h D (.ext (keysAt D ks)) := by
  refine ⟨x, ?_, fun h1 h2 y k => ?_⟩
  · obtain ⟨o, _, _, e, _⟩ := x
    exact ⟨o, e⟩
  · obtain ⟨o, es, ep, e, r⟩ := y
    exact ⟨o, es, ep, k o e, r⟩
/-- the reading: {x: True for x in ..} over a list of such tuples -/
def tDK (K : PySem.W.Frag) (te : TE) : TE := fun σ H Q => te σ H fun v H1 => ∃ (l : Addr) (as : List KA), v = .ref l ∧ as.length < sizeLine ∧ SqL K H1 l (as.map fun ka => V.ref ka.2) ∧ (∀ ka ∈ as, SqT K H1 ka.2 (ka.1.map kV)) ∧
  ∀ D, H1 D = none → Q (.ref D) (upd H1 D (.ext (keysAt D (firstK [] as))))
section
variable {X : Cx}
theorem pe_dk {x : Str} {iter : Expr} {te : TE} {scope : Scope} {pos px py pc : Pos} {kc : Nat} (hu : X.A.units + 1 < cLine) (hc : X.calm = true) (ha : PE X iter te) (hkind : scope.kind = .function) (hnm : scope.names = [((".0" : Str), .local), (x, .local)]) (h0 : (x == (".0" : Str)) = false) (hx : (x == ("__debug__" : Str)) = false)
    (hs : ∀ y, foldedSetIterable iter X.env y = pure y := by intro _; rfl) : PE X (.DictComp (.Name x px) (.Constant (.bool true) kc pc) [⟨.Name x py, iter, [], 0⟩] scope pos) (tDK X.K te) := by
  refine ⟨fun pins s σ H Q I h => ?_⟩
  have hcl : closureFor scope X.env = pure [] := by
    unfold closureFor
    rw [hnm]
    rfl
  have hlk : scope.names.lookup x = some .local := by
    rw [hnm]
    simp [List.lookup, h0]
  have hone : ∀ y ∈ scope.names, y.2 = NameKind.local ∧ scope.names.lookup y.1 = some .local := fun y hy => by
    rw [hnm] at hy
    rcases List.mem_cons.mp hy with e | hy
    · rw [e]
      refine ⟨rfl, ?_⟩
      rw [hnm]
      simp [List.lookup]
    · rw [List.mem_singleton.mp hy]
      exact ⟨rfl, hlk⟩
  refine DictComp_goes hcl (fun y hy => by rw [(hone y hy).1]; exact fun z => nomatch z) hkind (fun y hy _ => (hone y hy).2) (thn (ha.run pins s σ H _ I h) fun v s1 got => ?_) hs
  obtain ⟨xv, H1, I1, r1, l, as, rfl, hlen, sl, st, q⟩ := got
  cases r1
  obtain ⟨its, rv, p, _⟩ := I1.list sl
  have hh : X.A.handled = none := I1.ok.hd hc
  have llt : l < s1.heap.objs.size := p.lt
  have hsz : its.length = as.length := by rw [← rv.length, List.length_map]
  refine wpAny_pyIter_list p.isList ?_
  refine ⟨s1.heap.objs.size, [s1.heap.objs.size, l], [s1.heap.objs.size], its.toArray.size, _, _, rfl, Goes.ofWalks (Walks.list hh s1.heap.objs.size l (Nat.ne_of_lt llt) its.toArray) (fun i v s' Q' E' hst hq => ?_), ⟨⟨_, Heap.get?_push_size _ rfl, rfl, rfl⟩, p.isList.push _⟩, fun D C s3 B hD => ?_⟩
  · obtain ⟨⟨o, e1, e2, e3⟩, _⟩ := hst
    exact go_of e1 e2 e3 (by decide) hq
  · have sz2 : ({ s1 with heap := s1.heap.push { cls := .type "list_iterator", data := .fields #[.ref l, .int 0 0] } } : Shared).heap.objs.size = s1.heap.objs.size + 1 := Heap.size_push ..
    have nD : s1.heap.objs.size + 1 ≤ D := by have := B.newD; rw [sz2] at this; exact this
    have nC : s1.heap.objs.size + 1 ≤ C := by have := B.newC; rw [sz2] at this; exact this
    have old3 : ∀ b o, s1.heap.get? b = some o → s3.heap.get? b = some o := fun b o e => B.old b o (Heap.get?_push_of_some _ e)
    have keyIs : ∀ ka ∈ as, (tupleKind (mixKind X.prog X.w)).is s1.heap ka.1 ka.2 := fun ka hka => sq_key I1 (st ka hka)
    have fin : ∀ {s' : Shared} {xs : List (List Key × Addr × Value)} {i : Nat}, kas xs = firstK [] (as.take i) → (∀ b o, s1.heap.get? b = some o → s'.heap.get? b = some o) → ∀ z ∈ xs, (tupleKind (mixKind X.prog X.w)).is s'.heap z.1 z.2.1 := fun {s' xs i} e k z hz => by
      have hm : (z.1, z.2.1) ∈ kas xs := List.mem_map.mpr ⟨z, hz, rfl⟩
      rw [e] at hm
      have := (firstK_sub _ _ _ hm).resolve_left List.not_mem_nil
      exact is_keep (keyIs _ (List.mem_of_mem_take this)) fun o => k _ o
    refine ⟨fun i s' => (∃ o es ep xs, s'.heap.get? D = some o ∧ o.ExactDict ∧ o.data = .dict es ep ∧ es.toList = xs.map (entryOfKey (tupleKind (mixKind X.prog X.w))) ∧ (xs.map (·.1)).Nodup ∧ kas xs = firstK [] (as.take i)) ∧ (∃ m, s'.heap.Ns C m) ∧ (∀ b o, s1.heap.get? b = some o → s'.heap.get? b = some o) ∧ ∃ h tk, s' = { s1 with heap := h, toks := tk },
      ⟨⟨_, #[], 0, [], hD, ⟨rfl, rfl, rfl⟩, rfl, rfl, List.nodup_nil, rfl⟩, ⟨_, B.names⟩, old3, ?_⟩, fun i s' h' tk G keep _ => ?_, fun i v s' hi hY hst G => ?_, fun s' G => ?_⟩
    · obtain ⟨h3, tk, e⟩ := B.only
      exact ⟨h3, tk, e⟩
    · obtain ⟨⟨o, es, ep, xs, e1, e2⟩, ⟨m, hn⟩, k, h0, tk0, e0⟩ := G
      have ne : ∀ b, s1.heap.objs.size + 1 ≤ b → b ∉ [s1.heap.objs.size] := fun b hb z => by
        have := List.mem_singleton.mp z
        omega
      refine ⟨⟨o, es, ep, xs, keep D o (ne D nD) e1, e2⟩, ⟨m, hn.at fun o e => keep C o (ne C nC) e⟩, fun b o e => keep b o (fun z => ?_) (k b o e), h', tk, ?_⟩
      · have lt := Heap.lt_size e
        rw [List.mem_singleton.mp z] at lt
        exact Nat.lt_irrefl _ lt
      · rw [e0]
    · obtain ⟨⟨o, es, ep, xs, e1, e2, e3, e4, e5, e6⟩, ⟨m, hn⟩, k, h0, tk0, e0⟩ := G
      have hia : i < as.length := by
        rw [List.size_toArray] at hi
        omega
      have hv : v = .ref as[i].2 := by
        obtain ⟨u, hu1, hu2⟩ := rv.get (i := i) (x := V.ref as[i].2) (by rw [List.getElem?_map, List.getElem?_eq_getElem hia]; rfl)
        have hY : its.toArray[i]? = some v := hY
        rw [List.getElem?_toArray, hu1] at hY
        cases Option.some.inj hY
        exact hu2
      subst hv
      have hk1 : (compEnvC scope [] C X.env).kindOf x = some .local := lookup_relabel_local hlk
      have hk2 : (compEnvC scope [] C X.env).scope.kind = .function := hkind
      refine wpAny_assign_Name (wpAny_storeName_local hk1 hn (fun h2 hn2 sb2 => ?_) (by rw [hk2]; rfl))
      refine wpAny_pure ?_
      rw [if_pos rfl, arm_eval_Name]
      refine wpAny_bind (wpAny_standAt ?_)
      rw [hx]
      refine wpAny_loadName_local hk2 hk1 hn2 (v := .ref as[i].2) (by simp) ?_
      rw [arm_eval_Constant]
      refine wpAny_pure ?_
      have kD : h2.get? D = some o := sb2.extBut D o B.ne e1
      have k2 : ∀ b o, s1.heap.get? b = some o → h2.get? b = some o := fun b o e => sb2.extBut b o (fun z => by
        have lt := Heap.lt_size e
        rw [show b = C from z] at lt
        exact absurd lt (Nat.not_lt.mpr (Nat.le_of_succ_le nC))) (k b o e)
      have dd : Heap.DictOfH (tupleKind (mixKind X.prog X.w)) h2 D xs := ⟨o, es, ep, kD, e2, e3, e4, fin (s' := { s' with heap := h2 }) e6 k2, e5⟩
      have hxl : xs.length ≤ sizeLine := by
        have a1 : (kas xs).length = xs.length := List.length_map _
        have a2 := firstK_len (as.take i) []
        rw [← e6, a1, List.length_take, List.length_nil] at a2
        omega
      refine wpAny_dictSet_heap (hsz := hxl) (k := as[i].1) (show X.A.units < cLine by omega) (is_keep (keyIs _ (List.getElem_mem hia)) fun o => k2 _ o) dd fun h3 dd3 sb3 => ?_
      have k3 : ∀ b o, s1.heap.get? b = some o → h3.get? b = some o := fun b o e => sb3.extBut b o (fun z => by
        have lt := Heap.lt_size e
        rw [show b = D from z] at lt
        exact absurd lt (Nat.not_lt.mpr (Nat.le_of_succ_le nD))) (k2 b o e)
      obtain ⟨o3, es3, ep3, f1, f2, f3, f4, f5, f6⟩ := dd3
      refine ⟨⟨⟨o3, es3, ep3, _, f1, f2, f3, f4, f6, ?_⟩, ⟨_, hn2.at fun o e => sb3.extBut C o B.ne.symm e⟩, k3, h3, _, by rw [e0]⟩, ?_⟩
      · rw [storedH_keys, e6, List.take_add_one, List.getElem?_eq_getElem hia]
        exact (firstK_snoc _ _ _).symm
      · obtain ⟨⟨oi, g1, g2, g3⟩, gl⟩ := hst
        have keepB : ∀ b o, b < D → b ≠ C → s'.heap.get? b = some o → h3.get? b = some o := fun b o hb hbC e => sb3.extBut b o (Nat.ne_of_lt hb) (sb2.extBut b o hbC e)
        have iD : s1.heap.objs.size < D := Nat.lt_of_lt_of_le (Nat.lt_succ_self _) nD
        have iC : s1.heap.objs.size < C := Nat.lt_of_lt_of_le (Nat.lt_succ_self _) nC
        exact ⟨⟨oi, keepB _ _ iD (Nat.ne_of_lt iC) g1, g2, g3⟩, gl.at fun o e => keepB l o (Nat.lt_trans llt iD) (Nat.ne_of_lt (Nat.lt_trans llt iC)) e⟩
    · obtain ⟨⟨o, es, ep, xs, e1, e2, e3, e4, e5, e6⟩, ⟨m, hn⟩, k, h0, tk0, e0⟩ := G
      refine ⟨m, hn, fun h'' sb => ?_⟩
      have hD2 : h''.get? D = some o := sb.extBut D o B.ne e1
      have hsys : (D == sysModules) = false := beq_eq_false_iff_ne.mpr (fun z => absurd (Nat.lt_of_lt_of_le I1.big (Nat.le_of_succ_le nD)) (by rw [z]; exact Nat.lt_irrefl _))
      have hk : es.toList.map (·.key) = (firstK [] as).map (fun ka => Value.ref ka.2) := by
        rw [e4, List.map_map]
        rw [List.take_of_length_le (by rw [List.size_toArray]; omega)] at e6
        rw [← e6]
        unfold kas
        rw [List.map_map]
        rfl
      have e0' : ({ s' with heap := h'' } : Shared) = { s1 with heap := h'', toks := tk0 } := by rw [e0]
      rw [e0']
      refine ⟨.ref D, _, I1.laid (t' := tk0) (a := D) (o := .ext (keysAt D (firstK [] as))) (fun b o e => sb.extBut b o (fun z => ?_) (k b o e)) (Nat.le_of_succ_le nD) (keysAt_ok ⟨o, es, ep, hD2, e2, e3, hk, hsys⟩), rfl, q D (I1.hok.fresh (Nat.le_of_succ_le nD))⟩
      have lt := Heap.lt_size e
      rw [show b = C from z] at lt
      exact absurd lt (Nat.not_lt.mpr (Nat.le_of_succ_le nC))
/-- list(d) of such a dict -/
def rListDK : List V → Hp → VK → Prop := fun xs H Q => ∃ (D : Addr) (as : List KA), xs = [V.ref D] ∧ H D = some (.ext (keysAt D as)) ∧ as.length ≤ sizeLine ∧ ∀ p, H p = none → Q (.ref p) (upd H p (.lst (as.map fun ka => V.ref ka.2)))
theorem call_list_dk (hc : X.calm = true) : CallR X (.type "list") rListDK := by
  intro pins s σ H xs us Q I r h
  obtain ⟨D, as, rfl, hD, hz, q⟩ := h
  obtain ⟨u, rfl, rx⟩ := r.one
  cases rx
  obtain ⟨⟨o, es, ep, ho, hx, hdt, hk, hs⟩, _⟩ := (show ObjOk X.prog X.w H s.heap D (.ext (keysAt D as)) from I.hok D _ hD)
  have l1 : es.size = as.length := by
    have := congrArg List.length hk
    simpa using this
  refine PySem.W.kdl_call (kdl_raw hs hx hdt) (I.ok.hd hc) ho (by omega) fun h' tk acc' c' kp e it => ?_
  have ea : acc'.toList = (as.map fun ka => ka.2).map Value.ref := by
    have hl : acc'.toList.length = as.length := by rw [Array.length_toList, it.1]; exact l1
    refine List.ext_getElem (by rw [hl, List.length_map, List.length_map]) fun j h1 h2 => ?_
    obtain ⟨en, hen, hv⟩ := it.2 j acc'.toList[j] (by rw [← Array.getElem?_toList]; exact List.getElem?_eq_getElem h1)
    have hj : (es.toList.map (·.key))[j]? = some en.key := by
      rw [List.getElem?_map, Array.getElem?_toList, hen]
      rfl
    rw [hk, List.getElem?_map, List.getElem?_eq_getElem (by omega)] at hj
    rw [hv, ← Option.some.inj hj, List.getElem_map, List.getElem_map]
  have rv : Vals (as.map fun ka => V.ref ka.2) acc'.toList := by
    rw [ea, show (as.map fun ka => V.ref ka.2) = (as.map fun ka => ka.2).map V.ref by rw [List.map_map]; rfl]
    exact vals_refs _
  refine ⟨.ref s.heap.objs.size, _, I.laid (t' := tk) (o := .lst (as.map fun ka => V.ref ka.2)) kp (Nat.le_refl _) ⟨by rw [List.length_map]; exact hz, acc'.toList, c', rv, by rw [Array.toArray_toList]; exact e⟩, rfl, q _ (I.hok.fresh (Nat.le_refl _))⟩
end
/-! ### over data -/
def keyI : D → Option (List Int)
  | .tup ds => allInts ds
  | .con ds => allInts ds
  | _ => none
def hasI {α : Type} (acc : List (List Int × α)) (k : List Int) : Bool := (acc.find? fun x => decide (x.1 = k)).isSome
/-- the first ones of like keys -/
def firstI {α : Type} : List (List Int × α) → List (List Int × α) → List (List Int × α)
  | acc, [] => acc
  | acc, x :: r => firstI (if hasI acc x.1 = true then acc else acc ++ [x]) r
def keyed : List D → Option (List (List Int × D))
  | [] => some []
  | d :: r => match keyI d, keyed r with
    | some k, some z => some ((k, d) :: z)
    | _, _ => none
theorem hasI_map {α β : Type} (f : List Int × α → List Int × β) (hf : ∀ x, (f x).1 = x.1) (acc : List (List Int × α)) (k : List Int) : hasI (acc.map f) k = hasI acc k := by
  unfold hasI
  induction acc with
  | nil => rfl
  | cons x acc ih =>
    rw [List.map_cons, List.find?_cons, List.find?_cons, hf]
    by_cases h : x.1 = k
    · rw [decide_eq_true h]
      rfl
    · rw [decide_eq_false h]
      exact ih
theorem firstI_map {α β : Type} (f : List Int × α → List Int × β) (hf : ∀ x, (f x).1 = x.1) : ∀ (xs acc : List (List Int × α)), firstI (acc.map f) (xs.map f) = (firstI acc xs).map f
  | [], acc => rfl
  | x :: xs, acc => by
    rw [List.map_cons, firstI, firstI, hasI_map f hf, hf, ← firstI_map f hf xs]
    split
    · rfl
    · rw [List.map_append]
      rfl
theorem firstI_sub {α : Type} : ∀ (xs acc : List (List Int × α)), ∀ x ∈ firstI acc xs, x ∈ acc ∨ x ∈ xs
  | [], acc, x, h => .inl h
  | y :: xs, acc, x, h => by
    rw [firstI] at h
    rcases firstI_sub xs _ x h with q | q
    · split at q
      · exact .inl q
      · rcases List.mem_append.mp q with q | q
        · exact .inl q
        · rw [List.mem_singleton.mp q]
          exact .inr List.mem_cons_self
    · exact .inr (List.mem_cons_of_mem _ q)
theorem firstI_len {α : Type} : ∀ (xs acc : List (List Int × α)), (firstI acc xs).length ≤ acc.length + xs.length
  | [], acc => Nat.le_refl _
  | y :: xs, acc => by
    rw [firstI]
    have := firstI_len xs (if hasI acc y.1 = true then acc else acc ++ [y])
    rw [List.length_cons]
    split at this
    · rw [if_pos ‹_›]; omega
    · rw [if_neg ‹_›]
      rw [List.length_append, List.length_singleton] at this
      omega
def toKA (x : List Int × Addr) : KA := (x.1.map Sum.inl, x.2)
theorem inl_inj2 {a b : List Int} (h : a.map (Sum.inl : Int → Key) = b.map Sum.inl) : a = b := (List.map_inj_right fun _ _ e => Sum.inl.inj e).mp h
theorem hasK_map (acc : List (List Int × Addr)) (k : List Int) : hasK (acc.map toKA) (k.map Sum.inl) = hasI acc k := by
  unfold hasK hasI
  induction acc with
  | nil => rfl
  | cons x acc ih =>
    rw [List.map_cons, List.find?_cons, List.find?_cons]
    by_cases h : x.1 = k
    · have : (toKA x).1 = k.map Sum.inl := by rw [← h]; rfl
      rw [decide_eq_true h, decide_eq_true this]
      rfl
    · have : (toKA x).1 ≠ k.map Sum.inl := fun z => h (inl_inj2 z)
      rw [decide_eq_false h, decide_eq_false this]
      exact ih
theorem firstK_map : ∀ (xs acc : List (List Int × Addr)), firstK (acc.map toKA) (xs.map toKA) = (firstI acc xs).map toKA
  | [], acc => rfl
  | x :: xs, acc => by
    rw [List.map_cons, firstK, firstI, ← firstK_map xs, show (toKA x).1 = x.1.map Sum.inl from rfl, hasK_map]
    split
    · rfl
    · rw [List.map_append]
      rfl
/-- list({x: True for x in ..}) -/
def eLK (ge : EG) : EG := fun en w => (ge en w).bind fun d w1 => match d with
  | .lst ds => if ds.length < sizeLine then (match keyed ds with
      | some z => .ok (.lst ((firstI [] z).map (·.2))) w1
      | none => .bad) else .bad
  | _ => .bad
theorem keyed_as {Kf : PySem.W.Frag} {aw : Bs} {F : Hp} : ∀ {vs : List V} {ds : List D} {z : List (List Int × D)}, DvAll Kf aw F vs ds → keyed ds = some z →
    ∃ as : List (List Int × (Addr × D)), vs = as.map (fun x => V.ref x.2.1) ∧ z = as.map (fun x => (x.1, x.2.2)) ∧ ∀ x ∈ as, SqT Kf F x.2.1 (x.1.map V.int) ∧ Dv Kf aw F (.ref x.2.1) x.2.2
  | _, _, z, .nil, h => by
    cases h
    exact ⟨[], rfl, rfl, by simp⟩
  | _, _, z, .cons (v := v) (vs := vs) (d := d) (ds := ds) x y, h => by
    unfold keyed at h
    cases qk : keyI d with
    | none => rw [qk] at h; cases h
    | some k =>
      cases qz : keyed ds with
      | none => rw [qk, qz] at h; cases h
      | some z' =>
        rw [qk, qz] at h
        cases h
        obtain ⟨as, rfl, rfl, ha⟩ := keyed_as y qz
        have one : ∃ a, v = .ref a ∧ SqT Kf F a (k.map V.int) := by
          cases x <;> first
            | (cases qk; done)
            | skip
          · rename_i a vs' ds' e1 e2
            rw [vals_ints e2 qk] at e1
            exact ⟨a, rfl, .inl (.inl e1)⟩
          · rename_i a vs' ds' e1 e2
            rw [vals_ints e2 qk] at e1
            exact ⟨a, rfl, e1⟩
        obtain ⟨a, rfl, hs⟩ := one
        refine ⟨(k, a, d) :: as, rfl, rfl, fun t ht => ?_⟩
        rcases List.mem_cons.mp ht with rfl | ht
        · exact ⟨hs, x⟩
        · exact ha t ht
section
variable {K : Kt} {W : WX} {te : TE} {ge : EG} {s1 : Sg}
theorem es_lk (he : ES K W .st te ge) : ES K W .fr (tCB rListDK (tCons (tDK K te) tNil)) (eLK ge) := by
  intro f en w σ F H Q o h
  show te σ H _
  refine he.bindW o h fun d w1 v F1 H1 g1 o1 r1 h1 => ?_
  cases d <;> first
    | exact h1.elim
    | skip
  rename_i ds
  dsimp only at h1
  split at h1
  · rename_i hz
    cases qz : keyed ds with
    | none => rw [qz] at h1; exact h1.elim
    | some z =>
      rw [qz] at h1
      dsimp only at h1
      have got : ∃ l vs, v = .ref l ∧ H1 l = some (.lst vs) ∧ DvAll K f.aw F1 vs ds := by
        rcases (show Dq K f.aw F1 H1 v (.lst ds) from r1) with z | ⟨ds', q, vs, e1, e2, n, h1, r⟩
        · cases z with
          | lst e1 e2 => exact ⟨_, _, rfl, o1.go.sub _ _ e1, e2⟩
        · cases e1
          exact ⟨q, vs, e2, h1, r⟩
      obtain ⟨l, vs, rfl, e1, e2⟩ := got
      obtain ⟨as, rfl, rfl, ha⟩ := keyed_as e2 qz
      have hl : as.length < sizeLine := by
        have := e2.length
        rw [List.length_map] at this
        omega
      refine ⟨l, as.map (fun x => toKA (x.1, x.2.1)), rfl, by rw [List.length_map]; exact hl, ?_, fun ka hka => ?_, fun Dp hD => ?_⟩
      · rw [List.map_map]
        exact .inl (.inl e1)
      · obtain ⟨x, hx, rfl⟩ := List.mem_map.mp hka
        have := sqT_same o1.go.sub (ha x hx).1
        rw [show (toKA (x.1, x.2.1)).1.map kV = x.1.map V.int by show (x.1.map Sum.inl).map kV = _; rw [List.map_map]; rfl]
        exact this
      · have ek : firstK [] (as.map fun x => toKA (x.1, x.2.1)) = (firstI [] as).map (fun x => toKA (x.1, x.2.1)) := by
          have a1 := firstK_map (as.map fun x => (x.1, x.2.1)) []
          rw [List.map_map] at a1
          have a2 := firstI_map (fun x : List Int × (Addr × D) => (x.1, x.2.1)) (fun _ => rfl) as []
          rw [List.map_nil] at a2
          rw [a2, List.map_map] at a1
          exact a1
        have ez : (firstI [] (as.map fun x => (x.1, x.2.2))).map (·.2) = (firstI [] as).map (fun x => x.2.2) := by
          have a2 := firstI_map (fun x : List Int × (Addr × D) => (x.1, x.2.2)) (fun _ => rfl) as []
          rw [List.map_nil] at a2
          rw [a2, List.map_map]
          rfl
        rw [ez] at h1
        have hfl : (firstI [] as).length ≤ sizeLine := by
          have := firstI_len as []
          rw [List.length_nil] at this
          omega
        refine ⟨Dp, _, rfl, upd_same, by rw [ek, List.length_map]; exact hfl, fun p hp => ?_⟩
        have hpD : p ≠ Dp := fun e => by
          rw [e, upd_same] at hp
          cases hp
        have hp1 : H1 p = none := by rwa [upd_ne hpD] at hp
        have gD := o1.here.laid hD (.ext (keysAt Dp (firstK [] (as.map fun x => toKA (x.1, x.2.1)))))
        have gp := gD.here.laid hp (.lst ((firstK [] (as.map fun x => toKA (x.1, x.2.1))).map fun ka => V.ref ka.2))
        have fp : F1 p = none := o1.here.free hp1
        have hall : DvAll K f.aw F1 ((firstK [] (as.map fun x => toKA (x.1, x.2.1))).map fun ka => V.ref ka.2) ((firstI [] as).map fun x => x.2.2) := by
          rw [ek, List.map_map]
          have sub : ∀ x ∈ firstI [] as, Dv K f.aw F1 (.ref x.2.1) x.2.2 := fun x hx => (ha x ((firstI_sub as [] x hx).resolve_left List.not_mem_nil)).2
          generalize firstI [] as = ys at sub
          induction ys with
          | nil => exact .nil
          | cons y ys ih => exact .cons (sub y List.mem_cons_self) (ih fun x hx => sub x (List.mem_cons_of_mem _ hx))
        exact h1 _ F1 _ (gD.trans gp) ⟨_, p, _, rfl, rfl, hp1, upd_same, fp, hall⟩
  · exact h1.elim
end
section
variable {X : Cx} {W : WX} {K : Kt} {pos p2 pn px py pc : Pos} {x : Str} {kc : Nat} {e : Expr} {te : TE} {ge : EG} {scope : Scope}
theorem de_lk (hu : X.A.units + 65 < cLine) (hc : X.calm = true) (hgl : Gl X "list") (hmg : X.mg "list" = none) (he : DE K X W .st e te ge) (hkind : scope.kind = .function) (hnm : scope.names = [((".0" : Str), .local), (x, .local)]) (h0 : (x == (".0" : Str)) = false := by decide) (hx : (x == ("__debug__" : Str)) = false := by decide)
    (hf : ∀ y, foldedSetIterable e X.env y = pure y := by intro _; rfl) :
    DE K X W .fr (.Call (.Name "list" pn) [.DictComp (.Name x px) (.Constant (.bool true) kc pc) [⟨.Name x py, e, [], 0⟩] scope p2] [] pos) (tCB rListDK (tCons (tDK K te) tNil)) (eLK ge) := by
  obtain ⟨K0, T0, L0⟩ := K
  cases he.hK
  exact ⟨rfl, pe_callTy (call_list_dk hc) hgl hmg (by decide +kernel) (pa_cons (pe_dk (by omega) hc he.pe hkind hnm h0 hx hf) pa_nil) (by decide) (by decide), es_lk he.es⟩
end
end DL

/-! DL, part zzn: isinstance of a thing that may be a constant tuple of the module. -/
namespace DL
open PySem PySem.Spec L2
open PyProof.Rows hiding St
section
variable {X : Cx} {W : WX} {K : Kt} {Kf : PySem.W.Frag} {pos p : Pos} {a b : Expr} {t : TA} {g : AG}
end
end DL

/-! DL, part zzo: zip of three lists. -/
namespace DL
open PySem PySem.Spec L2
open PyProof.Rows hiding St
section
variable {X : Cx} {W : WX} {K : Kt} {Kf : PySem.W.Frag} {b bb : Bool} {pos p tpos : Pos} {a e e3 : Expr} {elts : List Expr} {kk : Nat} {tA : TA} {gA : AG} {aw : Bs} {q r t : Addr} {F1 H1 F H : Hp} {vs us ts : List V} {ds es zs : List D} {w : Wl}
end
end DL

/-! DL, part zzp: None asked of a dict with tuples as keys: it is not there. -/
namespace DL
open PySem PySem.Spec L2
open PyProof.Rows hiding St
section
variable {P : Program} {w : World} {K : Type} [DecidableEq K] {knd : KeyKind P w K} {A : Around} {E : Value → Shared → Prop} {s : Shared}
theorem tellNone {stored : List Value} {Q : Bool → Shared → Prop} (hst : ∀ v ∈ stored, ∃ k' b, v = .ref b ∧ (tupleKind knd).is s.heap k' b) (h : Q false s) : wpAny (model P w) A (tableMayTell .none stored) Q E s := by
  unfold tableMayTell
  split
  · exact wpAny_pure h
  · refine wpAny_bind ?_
    show wpAny _ _ (pure true) _ E s
    refine wpAny_pure ?_
    simp only [Bool.not_true, Bool.false_eq_true, if_false]
    refine wpAny_bind ?_
    refine wpAny_forIn_list _ (fun rest r s' => s' = s ∧ r = (none, ()) ∧ ∀ v ∈ rest, ∃ k' b, v = .ref b ∧ (tupleKind knd).is s.heap k' b) _ ?_ ?_ _ _ ⟨rfl, rfl, hst⟩
    · rintro x rest r s' ⟨rfl, rfl, hr⟩
      obtain ⟨k', b, rfl, hb⟩ := hr x List.mem_cons_self
      refine wpAny_bind ((tupleKind knd).quiet hb ?_)
      simp only [Bool.not_true, Bool.false_eq_true, if_false]
      exact wpAny_pure ⟨rfl, rfl, fun v hv => hr v (List.mem_cons_of_mem _ hv)⟩
    · rintro r s' ⟨rfl, rfl, _⟩
      exact wpAny_pure h
theorem find_none {d : Addr} {o : Obj} {es ep} {xs : List (List K × Addr × Value)} {hsh : Int} {Q : Option Nat → Shared → Prop} (hu : A.units < cLine)
    (ho : s.heap.get? d = some o) (hd : o.data = .dict es ep) (he : es.toList = xs.map (entryOfKey (tupleKind knd))) (his : ∀ x ∈ xs, (tupleKind knd).is s.heap x.1 x.2.1)
    (h : Q none s) : wpAny (model P w) A (dictFind d .none hsh) Q E s := by
  have hsz : es.size = xs.length := size_of_entries he
  have hmem : ∀ e ∈ es, ∃ x ∈ xs, e = entryOfKey (tupleKind knd) x := by
    intro e hin
    have : e ∈ xs.map (entryOfKey (tupleKind knd)) := he ▸ Array.mem_toList_iff.mpr hin
    obtain ⟨x, hx, rfl⟩ := List.mem_map.mp this
    exact ⟨x, hx, rfl⟩
  have hst : ∀ v ∈ (placesWithHash es.size (fun i => es[i]?.map (·.hash)) hsh).filterMap (fun i => es[i]?.map (·.key)), ∃ k' b, v = .ref b ∧ (tupleKind knd).is s.heap k' b := by
    intro v hv
    obtain ⟨i, _, hi⟩ := List.mem_filterMap.mp hv
    cases hei : es[i]? with
    | none => rw [hei] at hi; cases hi
    | some e =>
      rw [hei] at hi
      obtain rfl : e.key = v := by simpa using hi
      obtain ⟨x, hx, rfl⟩ := hmem e (Array.mem_of_getElem? hei)
      exact ⟨x.1, x.2.1, rfl, his x hx⟩
  unfold dictFind
  try with_reducible refine wpAny_holding ?_
  refine wpAny_bind (wpAny_dictEntries ho hd ?_)
  dsimp only
  by_cases hc : ((Value.none :: (placesWithHash es.size (fun i => es[i]?.map (·.hash)) hsh).filterMap (fun i => es[i]?.map (·.key))).all carriedByValue) = true
  · rw [if_pos hc]
    have hnil : (placesWithHash es.size (fun i => es[i]?.map (·.hash)) hsh).filterMap (fun i => es[i]?.map (·.key)) = [] := by
      cases hz : (placesWithHash es.size (fun i => es[i]?.map (·.hash)) hsh).filterMap (fun i => es[i]?.map (·.key)) with
      | nil => rfl
      | cons v r =>
        obtain ⟨k', b, rfl, _⟩ := hst v (by rw [hz]; exact List.mem_cons_self)
        rw [hz] at hc
        simp [carriedByValue] at hc
    have hpl : placesWithHash es.size (fun i => es[i]?.map (·.hash)) hsh = [] := by
      cases hz : placesWithHash es.size (fun i => es[i]?.map (·.hash)) hsh with
      | nil => rfl
      | cons i r =>
        have hi : i ∈ placesWithHash es.size (fun i => es[i]?.map (·.hash)) hsh := by rw [hz]; exact List.mem_cons_self
        have hil : i < es.size := by
          unfold placesWithHash at hi
          exact List.mem_range.mp (List.mem_filter.mp hi).1
        rw [hz, List.filterMap_cons, Array.getElem?_eq_getElem hil] at hnil
        simp at hnil
    rw [hpl]
    unfold dictWalkPlain
    refine wpAny_bind ?_
    refine wpAny_forIn_list _ (fun rest r s' => s' = s ∧ r = (none, ()) ∧ rest = []) _ ?_ ?_ _ _ ⟨rfl, rfl, rfl⟩
    · rintro x rest r s' ⟨rfl, rfl, hr⟩
      cases hr
    · rintro r s' ⟨rfl, rfl, _⟩
      exact wpAny_pure h
  · rw [if_neg hc]
    have hone : ((placesWithHash es.size (fun i => es[i]?.map (·.hash)) hsh).filterMap (fun i => es[i]?.map (·.key)) == [Value.none]) = false := by
      rw [Bool.eq_false_iff]
      intro hz
      have hz := eq_of_beq hz
      obtain ⟨k', b, e, _⟩ := hst .none (by rw [hz]; exact List.mem_cons_self)
      cases e
    rw [if_neg (by rw [hone]; simp)]
    refine wpAny_bind (tellNone hst ?_)
    rw [if_neg (by simp)]
    refine wpAny_bind ?_
    refine wpAny_forIn_list _ (fun rest b s' => s' = s ∧ b = (none, none) ∧ ∀ i ∈ rest, i ∈ placesWithHash es.size (fun i => es[i]?.map (·.hash)) hsh) _ ?_ ?_ _ _ ⟨rfl, rfl, fun i hi => hi⟩
    · rintro x rest b s' ⟨rfl, rfl, hr⟩
      have hx := hr x List.mem_cons_self
      have hlt : x < es.size := by
        unfold placesWithHash at hx
        exact List.mem_range.mp (List.mem_filter.mp hx).1
      obtain ⟨⟨k', b, v'⟩, hkv⟩ : ∃ y, xs[x]? = some y := ⟨xs[x]'(by rw [← hsz]; exact hlt), List.getElem?_eq_getElem _⟩
      have hib : (tupleKind knd).is s'.heap k' b := his _ (List.mem_of_getElem? hkv)
      have hex : es[x]? = some ⟨(tupleKind knd).hash k', .ref b, v'⟩ := by rw [entry_at he x, hkv]; rfl
      rw [hex]
      dsimp only
      have rest' : ∀ i ∈ rest, i ∈ placesWithHash es.size (fun i => es[i]?.map (·.hash)) hsh := fun i hi => hr i (List.mem_cons_of_mem _ hi)
      by_cases hh : ((tupleKind knd).hash k' == hsh) = true
      · rw [if_pos hh]
        obtain ⟨o', items, n', g1, g2, g3, g4⟩ := (show IsTupleKey knd s'.heap k' b from hib)
        refine wpAny_bind (wpAny_dictEpoch ho hd (wpAny_bind (PySem.SeqAt.EqAt.tuple_none (items := items) ⟨o', g1, g2, n', g3⟩ hu P w E _ (wpAny_bind (wpAny_dictEpoch ho hd ?_)))))
        show wpAny _ _ (if (ep != ep) = true then _ else _) _ E _
        rw [if_neg (by simp)]
        simp only [Bool.false_eq_true, if_false]
        refine wpAny_bind (wpAny_rule ?_)
        first
          | exact wpAny_pure ⟨rfl, rfl, rest'⟩
          | exact wpAny_bind (wpAny_pure (wpAny_pure ⟨rfl, rfl, rest'⟩))
      · rw [if_neg hh]
        exact wpAny_pure ⟨rfl, rfl, rest'⟩
    · rintro b s' ⟨rfl, rfl, _⟩
      exact wpAny_pure h
theorem get_none {d : Addr} {xs : List (List K × Addr × Value)} {Q : Option Value → Shared → Prop} (hu : A.units + 1 < cLine) (hm : s.heap.DictOfH (tupleKind knd) d xs)
    (h : ∀ t, Q none { s with toks := t }) : wpAny (model P w) A (dictGet d .none) Q E s := by
  obtain ⟨o, es, ep, ho, _, hd, he, his, hn⟩ := hm
  unfold dictGet
  try with_reducible refine wpAny_holding ?_
  refine wpAny_bind (pyHash_key .none .none A s _ .none (by show A.units + 0 < cLine; omega) ?_)
  refine wpAny_bind (find_none (s := { s with toks := _ }) (by omega) ho hd he his ?_)
  exact wpAny_pure (h _)
end
section
variable {P : Program} {w : World} {K : Type} [DecidableEq K] {knd : KeyKind P w K} {d : Addr}
theorem meets_getN (hd : (d == sysModules) = false) (dflt : Value) :
    MeetsIn P w (Builtin.«dict.get» ⟨[.ref d, .none, dflt], []⟩) (fun A R s => A.units + 2 < cLine ∧ ∃ xs : List (List K × Addr × Value), s.heap.DictOfH (tupleKind knd) d xs ∧ ∀ t, R (.ok (.ret dflt)) { s with toks := t }) :=
  .of_wp fun A R s ⟨hu, xs, hm, h⟩ => by
    show wpAny _ _ (dictGet d .none >>= _) _ _ s
    refine wpAny_bind (get_none (by have := hu; simp only [Around.in1] at *; omega) hm fun t => ?_)
    show wpAny _ _ (Builtin.Dict.missed d .none >>= _) _ _ _
    exact wpAny_bind (wpAny_missed_other hd (wpAny_pure ⟨dflt, rfl, h t⟩))
end
end DL

/-! DL, part zzq: dicts with tuples as keys as data: made by comprehension, asked with get. -/
namespace DL
open PySem PySem.Spec L2
open PyProof.Rows hiding St
def eDCT (gi : AG) (b : BG) (gt gk gv : EG) (vs : List Nat) : EG := fun en w => match gi en w with
  | .ok ds w1 => if ds.length ≤ sizeLine then (match dcG b gt gk gv (wipeE en vs) ds [] w1 with
      | some (kvs, w2) => .ok (.dct (kvs.map (·.1)) (kvs.map (·.2))) w2
      | none => .bad) else .bad
  | .ex c fn a w1 => .ex c fn a w1
  | .bad => .bad
theorem dv_dct {Kf : PySem.W.Frag} {aw : Bs} {F : Hp} {p : Addr} {us : List (List Key × V)} {acc : Kvs} (hq : F p = some (.dT us)) (dv : KVs Kf aw F us acc) : Dv Kf aw F (.ref p) (.dct (acc.map (·.1)) (acc.map (·.2))) := by
  have key : ∀ {us : List (List Key × V)} {acc : Kvs}, KVs Kf aw F us acc → us = ((acc.map (·.1)).map fun k => k.map Sum.inl).zip (us.map (·.2)) ∧ (acc.map (·.1)).length = (us.map (·.2)).length ∧ DvAll Kf aw F (us.map (·.2)) (acc.map (·.2)) := by
    intro us acc h
    induction h with
    | nil => exact ⟨rfl, rfl, .nil⟩
    | cons r rs ih =>
      obtain ⟨i1, i2, i3⟩ := ih
      refine ⟨?_, by simpa using i2, .cons r i3⟩
      simp only [List.map_cons, List.zip_cons_cons]
      rw [← i1]
  obtain ⟨e, l, d⟩ := key dv
  rw [e] at hq
  exact .dct hq l d
section
variable {X : Cx} {W W0 : WX} {K : Kt} {ti : TI} {gi : AG} {g : TG} {b : BG} {vs vs' : List Nat} {tt : TT} {gt gk gv : EG} {tk tv : TE} {s1 s2 : Sg}
theorem es_dct (hi : EI K W true ti gi) (hg : EGt K g b vs') (hv : ∀ i ∈ vs', i ∈ vs) (ht : ET K W0 tt gt) (hk : ES K W0 s1 tk gk) (he : ES K W0 s2 tv gv) (h1 : s1 ≠ .wk) (h2 : s2 ≠ .wk) :
    ES K W .st (tDcT ti g tt tk tv vs) (eDCT gi b gt gk gv vs) := by
  intro f en w σ F H Q o h
  refine hi f en w σ F H _ o ?_
  unfold eDCT at h
  cases q : gi en w with
  | bad => rw [q] at h; exact h
  | ex c fn a w1 =>
    rw [q] at h
    exact h
  | ok ds w1 =>
    rw [q] at h
    dsimp only at h
    split at h
    · rename_i hz
      intro J F1 H1 g1 wk p hp
      cases q2 : dcG b gt gk gv (wipeE en vs) ds [] w1 with
      | none => rw [q2] at h; exact h.elim
      | some r =>
        obtain ⟨kz, w2⟩ := r
        rw [q2] at h
        dsimp only at h
        have o1 := o.step g1
        obtain ⟨z0, np, _⟩ := fresh0 o1 hp
        have zn := freshD o1 hp
        refine ⟨fun n m Hn => m = ds.length - n ∧ ∃ w' F' acc us, Ok K f en w' σ F' Hn ∧ Go f.aw F1 H1 F' Hn w' ∧ F' p = none ∧ Hn p = some (.dT us) ∧ KVs K f.aw F' us acc ∧ acc.length ≤ n ∧
          dcG b gt gk gv (wipeE en vs) (ds.drop n) acc w' = some (kz, w2), ⟨_, rfl, w1, F1, [], [], ?_, g1.here.laid hp _, o1.here.free hp, upd_same, .nil, Nat.zero_le _, by rw [List.drop_zero]; exact q2⟩, ?_⟩
        · exact o1.pokeD (.inl hp) z0 (o1.here.free hp) np zn
        rintro n m Hn ⟨rfl, w', F', acc, us, o', g', fp, hq, dv, hl, hw⟩
        have st : Stay true f.aw F1 H1 F' Hn := ⟨g'.ff, fun _ a u n z => g'.hh a _ n (fun _ y => nomatch y) z⟩
        by_cases hi2 : n < ds.length
        · obtain ⟨jg, jy⟩ := (wk n w' F' Hn st o'.here).1 _ (List.getElem?_eq_getElem hi2)
          rw [List.drop_eq_getElem_cons hi2] at hw
          simp only [dcG] at hw
          refine .inr ⟨jg, fun H2 => ∃ w3 F3 acc us, Ok K f en w3 σ F3 H2 ∧ Go f.aw F1 H1 F3 H2 w3 ∧ F3 p = none ∧ H2 p = some (.dT us) ∧ KVs K f.aw F3 us acc ∧ acc.length ≤ n + 1 ∧
            dcG b gt gk gv (wipeE en vs) (ds.drop (n + 1)) acc w3 = some (kz, w2), fun H2 z => ⟨ds.length - (n + 1), by omega, rfl, z⟩, fun x H2 hy => ?_⟩
          obtain ⟨F2, g2, r2⟩ := jy x H2 hy
          cases qb : b ds[n] (wipeE en vs) with
          | none => rw [qb] at hw; cases hw
          | some en1 =>
            rw [qb] at hw
            dsimp only at hw
            have fp2 : F2 p = none := g2.fr p (Kp.of hq) fp
            have hq2 : H2 p = some (.dT us) := g2.hh p _ np (fun _ y => nomatch y) hq
            refine hg f (wipeE en vs) en1 w' (L2.wipe σ vs) F2 H2 x _ _ qb ((o'.step g2).wipe vs) (.inl r2) (fun _ _ => r2) fun σ3 o3 a3 => ⟨wipe_agree a3 hv, ?_⟩
            refine ht f en1 w' σ3 F2 H2 _ o3 ?_
            cases qt : gt en1 w' with
            | bad => rw [qt] at hw; cases hw
            | ex c fn a w3 => rw [qt] at hw; cases hw
            | ok dt w3 =>
              rw [qt] at hw
              cases dt <;> first
                | (cases hw; done)
                | skip
              rename_i kb
              intro F3 H3 g3
              have fp3 : F3 p = none := g3.fr p (Kp.of hq2) fp2
              have hq3 : H3 p = some (.dT us) := g3.hh p _ np (fun _ y => nomatch y) hq2
              have dv3 := (dv.mono g2.ff).mono g3.ff
              cases kb with
              | false => exact ⟨w3, F3, acc, us, (o'.step g2).step g3, (g'.trans g2).trans g3, fp3, hq3, dv3, Nat.le_succ_of_le hl, hw⟩
              | true =>
                show tk σ3 H3 _
                dsimp only at hw
                refine (hk.toSt h1) f en1 w3 σ3 F3 H3 _ (o3.step g3) ?_
                cases qk : gk en1 w3 with
                | bad => rw [qk] at hw; cases hw
                | ex c fn a w4 => rw [qk] at hw; cases hw
                | ok y w4 =>
                  rw [qk] at hw
                  dsimp only at hw
                  intro yv F4 H4 g4 r4
                  refine (he.toSt h2) f en1 w4 σ3 F4 H4 _ ((o3.step g3).step g4) ?_
                  cases qe : gv en1 w4 with
                  | bad => rw [qe] at hw; cases hw
                  | ex c fn a w5 => rw [qe] at hw; cases hw
                  | ok z w5 =>
                    rw [qe] at hw
                    dsimp only at hw
                    intro v F5 H5 g5 r5
                    cases qy : keyOf y with
                    | none => rw [qy] at hw; cases hw
                    | some k =>
                      rw [qy] at hw
                      dsimp only at hw
                      obtain ⟨bk, ey, hb⟩ := key_at ((show Dv K f.aw F4 yv y from r4).mono g5.ff) qy
                      have fp5 : F5 p = none := g5.fr p (g4.kp (.of hq3)) (g4.fr p (Kp.of hq3) fp3)
                      have hq5 : H5 p = some (.dT us) := g5.hh p _ np (fun _ y => nomatch y) (g4.hh p _ np (fun _ y => nomatch y) hq3)
                      have o5 : Ok K f en w5 σ F5 H5 := (((o'.step g2).step g3).step g4).step g5
                      have g15 : Go f.aw F1 H1 F5 H5 w5 := (((g'.trans g2).trans g3).trans g4).trans g5
                      have hlen : us.length < sizeLine := by
                        rw [dv.length]
                        omega
                      have hpl : (putD acc k z).length ≤ acc.length + 1 := by
                        unfold putD
                        split
                        · rw [List.length_map]; omega
                        · rw [List.length_append]; exact Nat.le_refl _
                      exact ⟨us, k.map Sum.inl, bk, ey, o5.go.sub _ _ hb, hq5, hlen, w5, F5, putD acc k z, _, o5.pokeD (.inr ⟨_, hq5⟩) z0 fp5 np zn, g15.wrD2 hp fp5 np (.inr ⟨_, hq5⟩), fp5, upd_same, ((dv3.mono g4.ff).mono g5.ff).put k r5, by omega, hw⟩
        · refine .inl ⟨(wk n w' F' Hn st o'.here).2 (by omega), ?_⟩
          rw [List.drop_eq_nil_of_le (by omega)] at hw
          simp only [dcG, Option.some.injEq, Prod.mk.injEq] at hw
          obtain ⟨e1, e2⟩ := hw
          subst e1 e2
          have gT := g1.trans g'
          have np0 : H p = none := by
            cases z : H p with
            | none => rfl
            | some u => exact absurd hp (g1.ne p (by rw [z]; exact fun y => nomatch y))
          have g2 := gT.frozen np0 hq fp
          exact h (.ref p) _ Hn g2 (dv_dct upd_same (dv.mono (same_upd2 fp)))
    · exact h.elim
end
section
variable {X : Cx} {W : WX} {K : Kt} {s1 s2 : Sg} {pos p2 pn : Pos} {tg e ke ve : Expr} {ti : TI} {gi : AG} {g : TG} {b : BG} {vs' : List Nat} {tk tv : TE} {gk gv : EG}
theorem de_dct {own : List (Str × Nat)} {scope : Scope} (hu : X.A.units + 65 < cLine) (hc : X.calm = true) (hN : X.N.Nodup) (hi : DI K X W true tg e ti gi) (ok : BlkOk X.N X.env.scope scope own)
    (hg : ∀ (s : Shared) (H : Hp) (C : Addr) (cl : List (Str × Addr)) (fp : List Addr), DG K (Bk X scope s H C cl fp) tg g b vs')
    (hk : ∀ (s' : Shared) (H : Hp) (C : Addr) (cl : List (Str × Addr)) (fp : List Addr), DE K (Bk X scope s' H C cl fp) W0 s1 ke tk gk)
    (he : ∀ (s' : Shared) (H : Hp) (C : Addr) (cl : List (Str × Addr)) (fp : List Addr), DE K (Bk X scope s' H C cl fp) W0 s2 ve tv gv)
    (h1 : s1 ≠ .wk := by decide) (h2 : s2 ≠ .wk := by decide) (hv : ∀ i ∈ vs', i ∈ own.map (·.2) := by decide) (hf : ∀ x, foldedSetIterable e X.env x = pure x := by intro _; rfl) :
    DE K X W .st (.DictComp ke ve [⟨tg, e, [], 0⟩] scope p2) (tDcT ti g tYes tk tv (own.map (·.2))) (eDCT gi b eYes gk gv (own.map (·.2))) := by
  obtain ⟨K0, T0, L0⟩ := K
  cases hi.hK
  exact ⟨rfl, pe_dcT hu hc hN hi.pi ok (fun s H C cl fp => (hg s H C cl fp).pg) (fun s H C cl fp => pts_nil) (fun s H C cl fp => (hk s H C cl fp).pe) (fun s H C cl fp => (he s H C cl fp).pe) hf,
    es_dct hi.es (hg {} (fun _ => none) 0 [] []).es hv (fun f en w σ F H Q o h => h F H o.here) (hk {} (fun _ => none) 0 [] []).es (he {} (fun _ => none) 0 [] []).es h1 h2⟩
end
end DL

/-! DL, part zzr: d.get(k, x) and len(d) of such a dict; k a tuple or None. -/
namespace DL
open PySem PySem.Spec L2
open PyProof.Rows hiding St
/-- what the dict at a holds at y; None is no key of a dict of tuples -/
def DGetN (H : Hp) (a : Addr) (y : V) (o : Option V) : Prop := DGet H a y o ∨ (y = .non ∧ (∃ kvs, Rd H a (.dT kvs)) ∧ o = none)
section
variable {X : Cx} {pins : List (Addr × Obj)} {σ : L2.St} {H : Hp} {s : Shared} {a : Addr} {y d : V} {u r : Value} {o : Option V} {A : Around} {E : Value → Shared → Prop}
theorem d_getN {Q : Value → Shared → Prop} (hu : A.units + 2 < cLine) (I : Inv X pins σ H s) (g : DGetN H a y o) (ry : RelV y u) (rd : RelV d r) (h : ∀ w' s', Inv X pins σ H s' → RelV (o.getD d) w' → Q w' s') :
    wpAny (model X.prog X.w) A (call (.builtin "dict.get") [.ref a, u, r]) Q E s := by
  rcases g with g | ⟨ey, ⟨kvs, e⟩, eo⟩
  · exact d_get2 (by omega) I g ry rd h
  · subst ey eo
    cases (show u = Value.none from ry)
    obtain ⟨z, hd, xs, rel, dd⟩ := dt_rd I.hok e
    exact call_meetsIn PySem.F.slot_dict_get dd.typeIs PySem.F.entry_dict_get (PySem.F.args_dict_get_3 _ _ _) (meets_getN (knd := mixKind X.prog X.w) hd r) ⟨hu, xs, dd, fun t => h _ _ (I.tok _) rd⟩
end
def tDGetN (td ty tx : TE) : TE := fun σ H Q => td σ H fun x H1 => ∃ a, x = .ref a ∧ IsD H1 a ∧ ty σ H1 fun y H2 => tx σ H2 fun z H3 => ∃ o, DGetN H3 a y o ∧ Q (o.getD z) H3
section
variable {X : Cx} {o e f : Expr} {apos cpos : Pos} {td ty tx : TE}
theorem pe_dgetN (hu : X.A.units + 2 < cLine) (ho : PE X o td) (he : PE X e ty) (hf : PE X f tx) (m : M2 X o "get" apos e f cpos) : PE X (.Call (.Attribute o "get" apos) [e, f] [] cpos) (tDGetN td ty tx) := by
  refine ⟨fun pins s σ H Q I h => ?_⟩
  refine wpAny_Call_method m.base m.few m.line PySem.F.plainAttrs_dict PySem.F.slot_dict_get PySem.F.type_dict_get (thn (ho.run pins s σ H _ I h) fun u s1 ⟨x, H1, I1, rx, a, ex, d, q1⟩ => ?_)
  subst ex
  obtain rfl : u = Value.ref a := rx
  obtain ⟨t1, t2, _⟩ := isD_at I1 d
  refine ⟨t1, t2, ?_⟩
  rw [m.trees]
  refine Calls.callWith_builtin rfl (Calls.evalArgs_plain (Calls.spliced_cons (thn (he.run pins s1 σ H1 _ I1 q1) fun iv s2 ⟨y, H2, I2, ry, q2⟩ =>
    Calls.spliced_cons (thn (hf.run pins s2 σ H2 _ I2 q2) fun fv s3 ⟨z, H3, I3, rz, ov, g, q3⟩ => Calls.spliced_nil ?_))))
  exact d_getN hu I3 g ry rz fun w' s4 I4 rw' => ⟨_, H3, I4, rw', q3⟩
end
def eDGetN (gd gk gx : EG) : EG := fun en w => (gd en w).bind fun d w1 => match d with
  | .dct ks ds => (gk en w1).bind fun k w2 => (gx en w2).bind fun x w3 => (match k with
    | .non => .ok x w3
    | .tup qs => (match allInts qs with
      | some q => .ok ((getK (ks.zip ds) q).getD x) w3
      | none => .bad)
    | _ => .bad)
  | _ => .bad
section
variable {K : Kt} {W : WX} {td ty tx : TE} {gd gk gx : EG} {s1 s2 s3 : Sg}
theorem kvs_zip {Kf : PySem.W.Frag} {aw : Bs} {F : Hp} : ∀ {ks : List (List Int)} {vs : List V} {ds : List D}, ks.length = vs.length → DvAll Kf aw F vs ds → KVs Kf aw F ((ks.map fun k => k.map Sum.inl).zip vs) (ks.zip ds)
  | [], [], [], _, _ => .nil
  | k :: ks, v :: vs, d :: ds, h, .cons r rs => .cons r (kvs_zip (Nat.succ.inj h) rs)
  | [], _ :: _, _, h, _ => by cases h
  | _ :: _, [], _, h, _ => by cases h
theorem es_dgetN (ha : ES K W s1 td gd) (hb : ES K W s2 ty gk) (hx : ES K W s3 tx gx) (h2 : s2 ≠ .wk) (h3 : s3 ≠ .wk) : ES K W .st (tDGetN td ty tx) (eDGetN gd gk gx) := by
  intro f en w σ F H Q o h
  unfold eDGetN at h
  refine ha.bindW o h fun d w1 v F1 H1 g1 o1 r1 h1 => ?_
  cases d <;> first
    | exact h1.elim
    | skip
  rename_i ks ds
  dsimp only at h1
  have dv1 : ∃ a vs, v = .ref a ∧ F1 a = some (.dT ((ks.map fun k => k.map Sum.inl).zip vs)) ∧ ks.length = vs.length ∧ DvAll K f.aw F1 vs ds := by
    rcases r1 with q | ⟨ds', a, vs, e, _⟩
    · cases q with
      | dct h1 h2 h3 => exact ⟨_, _, rfl, h1, h2, h3⟩
    · cases e
  obtain ⟨a, vs, rfl, e1, e2, e3⟩ := dv1
  refine ⟨a, rfl, .inr ⟨_, .inl (o1.go.sub _ _ e1)⟩, ?_⟩
  refine hb.bindS h2 o1 h1 fun k w2 y F2 H2 g2 o2 r2 h4 => ?_
  refine hx.bindS h3 o2 h4 fun x w3 z F3 H3 g3 o3 r3 h5 => ?_
  have g23 := g2.trans g3
  have e4 : H3 a = some (.dT ((ks.map fun k => k.map Sum.inl).zip vs)) := o3.go.sub _ _ (g23.ff _ _ e1)
  have dz := kvs_zip e2 (e3.mono g23.ff)
  have rk := (show Dv K f.aw F2 y k from r2).mono g3.ff
  cases k <;> first
    | exact h5.elim
    | skip
  · cases rk
    exact ⟨none, .inr ⟨rfl, ⟨_, .inl e4⟩, rfl⟩, h5 _ F3 H3 o3.here r3⟩
  · rename_i qs
    dsimp only at h5
    cases qz : allInts qs with
    | none => rw [qz] at h5; exact h5.elim
    | some q =>
      rw [qz] at h5
      dsimp only at h5
      obtain ⟨b, eb, hb2⟩ := key_at rk (show keyOf (.tup qs) = some q from qz)
      refine ⟨valV ((ks.map fun k => k.map Sum.inl).zip vs) (q.map Sum.inl), .inl (.inr ⟨_, q.map Sum.inl, b, .inl e4, eb, o3.go.sub _ _ hb2, rfl⟩), ?_⟩
      rcases dz.val q with ⟨n1, n2⟩ | ⟨d, v, n1, n2, n3⟩
      · rw [n1] at h5
        rw [n2]
        exact h5 _ F3 H3 o3.here r3
      · rw [n1] at h5
        rw [n2]
        exact h5 _ F3 H3 o3.here n3
end
section
variable {X : Cx} {W : WX} {K : Kt} {s1 s2 s3 : Sg} {o e f : Expr} {apos cpos : Pos} {td ty tx : TE} {gd gk gx : EG}
theorem de_dgetN (hu : X.A.units + 65 < cLine) (hd : DE K X W s1 o td gd) (he : DE K X W s2 e ty gk) (hf : DE K X W s3 f tx gx) (h2 : s2 ≠ .wk := by decide) (h3 : s3 ≠ .wk := by decide)
    (base : attributeBase o "get" X.env (eval o X.env) = eval o X.env := by rfl)
    (few : ((backTo cpos (starEach [e, f] X.env)).all (fun x => !x.1) && (backToKw cpos (keywordEach [] X.env)).all (fun x => x.1.isSome)
      && decide (([e, f] : List Expr).length + ([] : List Keyword).length + (if ([] : List Keyword).isEmpty then 0 else 1) < 30)) = true := by rfl)
    (line : (apos.endLine == cpos.line) = true := by rfl)
    (trees : backTo cpos (starEach [e, f] X.env) = [(false, eval e X.env), (false, eval f X.env)] := by rfl) :
    DE K X W .st (.Call (.Attribute o "get" apos) [e, f] [] cpos) (tDGetN td ty tx) (eDGetN gd gk gx) := by
  obtain ⟨K0, T0, L0⟩ := K
  cases hd.hK
  exact ⟨rfl, pe_dgetN (by omega) hd.pe he.pe hf.pe ⟨base, few, line, trees⟩, es_dgetN hd.es he.es hf.es h2 h3⟩
end
/-! len(d) -/
def rLenD (K : PySem.W.Frag) : List V → Hp → VK → Prop := fun xs H Q => ∃ (a : Addr) (kvs : List (List Key × V)), xs = [V.ref a] ∧ Rd H a (.dT kvs) ∧ Q (.int (kvs.length : Nat)) H
def oLenD : List D → Wl → Res := fun ds w => match ds with
  | [.dct ks _] => .ok (.int (ks.length : Nat)) w
  | _ => .bad
section
variable {X : Cx} {W : WX} {K : Kt} {Kf : PySem.W.Frag} {pos p : Pos} {a : Expr} {t : TA} {g : AG}
theorem len_bodyK {prog : Program} {w : World} {κ : Type} [DecidableEq κ] {knd : HeapKind prog w κ} {A : Around} {E : Value → Shared → Prop} {s : Shared} {d : Addr} {kvs : List (κ × Value)} {Q : Value → Shared → Prop} (hd : (d == sysModules) = false) (hm : s.heap.DictKeyed knd d kvs) (hfit : (kvs.length : Int) < 2 ^ 63)
    (h : Q (.int kvs.length (s.toks + 1)) { s with toks := s.toks + 1 + 1 }) : wpAny (model prog w) A (Builtin.«len» ⟨[.ref d], []⟩) (fun fin s' => ∃ r, fin = .done (.ret r) ∧ Q r s') E s := by
  unfold Builtin.«len»
  refine wpAny_bind (m := oneArg "len" _) (wpAny_pure ?_)
  refine wpAny_bind (m := callSpecial? (.ref d) (Str.ofString "__len__")) (wpAny_callSpecial?_slot (name := Str.ofString "__len__") hm.typeIs F.slot_dict_len
    (len_keyed hd hm ?_))
  show wpAny _ _ _ _ _ { s with toks := s.toks + 1 }
  refine wpAny_bind (wpAny_holding (wpAny_pure ?_))
  refine wpAny_bind (wpAny_letGo ?_)
  show wpAny _ _ (if ((kvs.length : Nat) : Int) < 0 then _ else _) _ _ _
  rw [if_neg (by omega)]
  show wpAny _ _ (if ((kvs.length : Nat) : Int) ≥ 2 ^ 63 then _ else _) _ _ _
  rw [if_neg (by omega)]
  exact wpAny_bind (wpAny_mkInt (wpAny_pure ⟨_, rfl, h⟩))
theorem call_lenD : CallR X (.builtin "len") (rLenD X.K) := by
  intro pins s σ H xs us Q I r h
  obtain ⟨a, kvs, rfl, e, q⟩ := h
  obtain ⟨u, rfl, rx⟩ := vals1 r
  cases rx
  obtain ⟨z, hd, ys, rel, dd⟩ := dt_rd I.hok e
  have hl : (pairsH ys).length = kvs.length := by
    rw [pairsH_length]
    exact rel.length.symm
  have hs : sizeLine = 16777216 := sizeLine_eq
  refine Calls.call_function_entry kind_len plain_len entry_len (args_len1 _) (len_bodyK (knd := tupleKind (mixKind X.prog X.w)) hd ⟨ys, dd, rfl⟩ (by rw [hl]; omega) ?_)
  exact ⟨.int kvs.length, H, I.tok _, ⟨_, by rw [hl]⟩, q⟩
theorem cs_lenD : CS Kf .st (rLenD Kf) oLenD := by
  intro aw F H Q E vs ds w go r hw
  unfold oLenD at hw
  split at hw
  · rename_i ks ds'
    obtain ⟨v, rfl, q⟩ := r.one
    have dv1 : ∃ a vs, v = .ref a ∧ F a = some (.dT ((ks.map fun k => k.map Sum.inl).zip vs)) ∧ ks.length = vs.length := by
      rcases q with q | ⟨ds', a, vs, e, _⟩
      · cases q with
        | dct h1 h2 h3 => exact ⟨_, _, rfl, h1, h2⟩
      · cases e
    obtain ⟨a, vs, rfl, e1, e2⟩ := dv1
    refine ⟨a, _, rfl, .inl (go.sub _ _ e1), ?_⟩
    have hl : ((ks.map fun k => k.map (Sum.inl : Int → Key)).zip vs).length = ks.length := by
      rw [List.length_zip, List.length_map]
      omega
    rw [hl]
    exact Wn.val hw go (.int _)
  · exact hw.elim
theorem de_lenD (hg : Gl X "len") (hm : X.mg "len" = none) (ha : DA K X W true [a] t g) (he : starEach [a] X.env = (false, eval a X.env) :: starEach [] X.env := by rfl) (hpl : (backTo pos (starEach [] X.env)).any (·.1) = false := by rfl) :
    DE K X W .st (.Call (.Name "len" p) [a] [] pos) (tCB (rLenD K) t) (eCall oLenD g) := by
  obtain ⟨K0, T0, L0⟩ := K
  cases ha.hK
  exact de_callB call_lenD cs_lenD hg hm boot_len ha (by decide) (by decide) he hpl
end
end DL
namespace DL
open PySem PySem.Spec L2
open PyProof.Rows hiding St
/-! d[k] -/
def eDIxD (gd gk : EG) : EG := fun en w => (gd en w).bind fun d w1 => match d with
  | .dct ks ds => (gk en w1).bind fun k w2 => (match k with
    | .tup qs => (match allInts qs with
      | some q => (match getK (ks.zip ds) q with
        | some z => .ok z w2
        | none => .bad)
      | none => .bad)
    | _ => .bad)
  | _ => .bad
section
variable {K : Kt} {W : WX} {td ty : TE} {gd gk : EG} {s1 s2 : Sg}
theorem es_dixD (ha : ES K W s1 td gd) (hb : ES K W s2 ty gk) (h2 : s2 ≠ .wk) : ES K W .st (tDGet td ty) (eDIxD gd gk) := by
  intro f en w σ F H Q o h
  unfold eDIxD at h
  show td σ H _
  refine ha.bindW o h fun d w1 v F1 H1 g1 o1 r1 h1 => ?_
  cases d <;> first
    | exact h1.elim
    | skip
  rename_i ks ds
  dsimp only at h1
  have dv1 : ∃ a vs, v = .ref a ∧ F1 a = some (.dT ((ks.map fun k => k.map Sum.inl).zip vs)) ∧ ks.length = vs.length ∧ DvAll K f.aw F1 vs ds := by
    rcases r1 with q | ⟨ds', a, vs, e, _⟩
    · cases q with
      | dct h1 h2 h3 => exact ⟨_, _, rfl, h1, h2, h3⟩
    · cases e
  obtain ⟨a, vs, rfl, e1, e2, e3⟩ := dv1
  show ty σ H1 _
  refine hb.bindS h2 o1 h1 fun k w2 y F2 H2 g2 o2 r2 h4 => ?_
  have e4 : H2 a = some (.dT ((ks.map fun k => k.map Sum.inl).zip vs)) := o2.go.sub _ _ (g2.ff _ _ e1)
  have dz := kvs_zip e2 (e3.mono g2.ff)
  cases k <;> first
    | exact h4.elim
    | skip
  rename_i qs
  dsimp only at h4
  cases qz : allInts qs with
  | none => rw [qz] at h4; exact h4.elim
  | some q =>
    rw [qz] at h4
    dsimp only at h4
    obtain ⟨b, eb, hb2⟩ := key_at r2 (show keyOf (.tup qs) = some q from qz)
    rcases dz.val q with ⟨n1, n2⟩ | ⟨d, v, n1, n2, n3⟩
    · rw [n1] at h4
      exact h4.elim
    · rw [n1] at h4
      refine ⟨a, v, rfl, .inr ⟨_, q.map Sum.inl, b, .inl e4, eb, o2.go.sub _ _ hb2, n2.symm⟩, h4 _ F2 H2 o2.here n3⟩
end
section
variable {X : Cx} {W : WX} {K : Kt} {s1 s2 : Sg} {pos : Pos} {o i : Expr} {td ty : TE} {gd gk : EG}
theorem de_dixD (hu : X.A.units + 65 < cLine) (hd : DE K X W s1 o td gd) (he : DE K X W s2 i ty gk) (hs : NoSl i := by intro _ _; rfl) (h2 : s2 ≠ .wk := by decide) :
    DE K X W .st (.Subscript o i pos) (tDGet td ty) (eDIxD gd gk) := by
  obtain ⟨K0, T0, L0⟩ := K
  cases hd.hK
  exact ⟨rfl, pe_dget (by omega) hd.pe he.pe hs, es_dixD hd.es he.es h2⟩
end
end DL

/-! DL, part zzs: comprehensions with two sources and a test. -/
namespace DL
open PySem PySem.Spec L2
open PyProof.Rows hiding St
def lcG2T (b : BG) (gi1 : AG) (b1 : BG) (gt ge : EG) (vs1 : List Nat) (en : List Sl) : List D → Wl → AR
  | [], w => .ok [] w
  | d :: ds, w => match b d en with
    | none => .bad
    | some en1 => if noOwn en1 = true then (match gi1 en1 w with
      | .ok ds1 w1 => (match lcG b1 gt ge (wipeE en1 vs1) ds1 w1 with
        | .ok zs w2 => (match lcG2T b gi1 b1 gt ge vs1 en ds w2 with
          | .ok zr w3 => .ok (zs ++ zr) w3
          | _ => .bad)
        | _ => .bad)
      | _ => .bad) else .bad
def eLc2T (gi : AG) (b : BG) (gi1 : AG) (b1 : BG) (gt ge : EG) (vs vs1 : List Nat) : EG := fun en w => match gi en w with
  | .ok ds w1 => (match lcG2T b gi1 b1 gt ge vs1 (wipeE en vs) ds w1 with
      | .ok zs w2 => if zs.length ≤ sizeLine then .ok (.lst zs) w2 else .bad
      | _ => .bad)
  | .ex c fn a w1 => .ex c fn a w1
  | .bad => .bad
section
variable {X : Cx} {W : WX} {K : Kt} {Kf : PySem.W.Frag} {s : Sg} {pos spos py : Pos} {x : Str} {tg e tg1 e1 elt : Expr} {ti ti1 : TI} {gi gi1 : AG} {g g1 : TG} {b b1 : BG} {vs vs' vs1 vs1' : List Nat} {gt ge : EG} {tt : TT} {c : Expr} {te : TE} {f : Fx} {en : List Sl} {w : Wl} {σ : St} {F H : Hp}
theorem es_lc2T (hi : EI K W true ti gi) (hg : EGt K g b vs') (hv : ∀ i ∈ vs', i ∈ vs) (hi1 : EI K W0 false ti1 gi1) (hg1 : EGt K g1 b1 vs1') (hv1 : ∀ i ∈ vs1', i ∈ vs1) (ht : ET K W0 tt gt) (he : ES K W0 s te ge) (hs : s ≠ .wk) : ES K W .fr (tLc2 ti g tYes ti1 g1 tt te vs vs1) (eLc2T gi b gi1 b1 gt ge vs vs1) := by
  intro f en w σ F H Q o h
  refine hi f en w σ F H _ o ?_
  unfold eLc2T at h
  cases q : gi en w with
  | bad => rw [q] at h; exact h
  | ex c fn a w1 => rw [q] at h; exact h
  | ok ds w1 =>
    rw [q] at h
    dsimp only at h
    intro J F1 H1 gg1 wk p hp
    cases q2 : lcG2T b gi1 b1 gt ge vs1 (wipeE en vs) ds w1 with
    | bad => rw [q2] at h; exact h.elim
    | ex c fn a w2 => rw [q2] at h; exact h.elim
    | ok zs w2 =>
      rw [q2] at h
      dsimp only at h
      split at h
      · rename_i hz
        have o1 := o.step gg1
        obtain ⟨z0, np, zn⟩ := fresh0 o1 hp
        have hp0 : H p = none := by
          cases z : H p with
          | none => rfl
          | some u => exact absurd hp (gg1.ne p (by rw [z]; exact fun y => nomatch y))
        refine ⟨fun i m H' => m = ds.length - i ∧ ∃ w' F' acc us, Ok K f en w' σ F' H' ∧ Go f.aw F1 H1 F' H' w' ∧ F' p = none ∧ H' p = some (.lst us) ∧ DvAll K f.aw F' us acc ∧
          ∃ zr, lcG2T b gi1 b1 gt ge vs1 (wipeE en vs) (ds.drop i) w' = .ok zr w2 ∧ zs = acc ++ zr, ⟨_, rfl, w1, F1, [], [], ?_, gg1.here.laid hp _, o1.here.free hp, upd_same, .nil, zs, by rw [List.drop_zero]; exact q2, rfl⟩, ?_⟩
        · exact o1.poke (.inl hp) z0 (o1.here.free hp) np zn
        rintro i m H' ⟨rfl, w', F', acc, us, o', g', fp, hq, dv, zr, hw, ez⟩
        have st : Stay true f.aw F1 H1 F' H' := ⟨g'.ff, fun _ a u n z => g'.hh a _ n (fun _ y => nomatch y) z⟩
        by_cases hi2 : i < ds.length
        · obtain ⟨jg, jy⟩ := (wk i w' F' H' st o'.here).1 _ (List.getElem?_eq_getElem hi2)
          rw [List.drop_eq_getElem_cons hi2] at hw
          simp only [lcG2T] at hw
          refine .inr ⟨jg, fun H2 => ∃ w3 F3 acc us, Ok K f en w3 σ F3 H2 ∧ Go f.aw F1 H1 F3 H2 w3 ∧ F3 p = none ∧ H2 p = some (.lst us) ∧ DvAll K f.aw F3 us acc ∧
            ∃ zr, lcG2T b gi1 b1 gt ge vs1 (wipeE en vs) (ds.drop (i + 1)) w3 = .ok zr w2 ∧ zs = acc ++ zr, fun H2 z => ⟨ds.length - (i + 1), by omega, rfl, z⟩, fun x H2 hy => ?_⟩
          obtain ⟨F2, g2, r2⟩ := jy x H2 hy
          cases qb : b ds[i] (wipeE en vs) with
          | none =>
            rw [qb] at hw
            cases hw
          | some en1 =>
            rw [qb] at hw
            dsimp only at hw
            split at hw
            · rename_i hno
              have fp2 : F2 p = none := g2.fr p (Kp.of hq) fp
              have hq2 : H2 p = some (.lst us) := g2.hh p _ np (fun _ y => nomatch y) hq
              refine hg f (wipeE en vs) en1 w' (L2.wipe σ vs) F2 H2 x _ _ qb ((o'.step g2).wipe vs) (.inl r2) (fun _ _ => r2) fun σ3 o3 a3 => ⟨wipe_agree a3 hv, ?_⟩
              show ti1 σ3 H2 _
              refine hi1 f en1 w' σ3 F2 H2 _ o3 ?_
              cases qi : gi1 en1 w' with
              | bad => rw [qi] at hw; cases hw
              | ex c fn a w3 => rw [qi] at hw; cases hw
              | ok ds1 w3 =>
                rw [qi] at hw
                dsimp only at hw
                cases ql : lcG b1 gt ge (wipeE en1 vs1) ds1 w3 with
                | bad => rw [ql] at hw; cases hw
                | ex c fn a w4 => rw [ql] at hw; cases hw
                | ok zs1 w4 =>
                  rw [ql] at hw
                  dsimp only at hw
                  cases qr : lcG2T b gi1 b1 gt ge vs1 (wipeE en vs) (ds.drop (i + 1)) w4 with
                  | bad => rw [qr] at hw; cases hw
                  | ex c fn a w5 => rw [qr] at hw; cases hw
                  | ok zr1 w5 =>
                    rw [qr] at hw
                    simp only [AR.ok.injEq] at hw
                    obtain ⟨hzr, hw5⟩ := hw
                    subst hw5
                    intro J1 F3 H3 g3 wk1
                    have fp3 : F3 p = none := g3.fr p (Kp.of hq2) fp2
                    have hq3 : H3 p = some (.lst us) := g3.hh p _ np (fun _ y => nomatch y) hq2
                    refine ⟨fun j k H' => k = ds1.length - j ∧ ∃ w6 F6 acc1 us1, Ok K f en w6 σ F6 H' ∧ Ok K f en1 w6 σ3 F6 H' ∧ Go f.aw F1 H1 F6 H' w6 ∧ Same F3 F6 ∧ F6 p = none ∧ H' p = some (.lst us1) ∧ DvAll K f.aw F6 us1 acc1 ∧
                      ∃ zq, lcG b1 gt ge (wipeE en1 vs1) (ds1.drop j) w6 = .ok zq w4 ∧ acc ++ zs1 = acc1 ++ zq, ⟨_, rfl, w3, F3, acc, us, (o'.step g2).step g3, o3.step g3, (g'.trans g2).trans g3, Same.refl _, fp3, hq3, (dv.mono g2.ff).mono g3.ff, zs1, by rw [List.drop_zero]; exact ql, rfl⟩, ?_⟩
                    rintro j k H6 ⟨rfl, w6, F6, acc1, us1, o6, o6', g6, s6, fp6, hq6, dv6, zq, hw6, ez6⟩
                    have st1 : Stay false f.aw F3 H3 F6 H6 := ⟨s6, fun z => nomatch z⟩
                    by_cases hj : j < ds1.length
                    · obtain ⟨jg1, jy1⟩ := (wk1 j w6 F6 H6 st1 o6'.here).1 _ (List.getElem?_eq_getElem hj)
                      rw [List.drop_eq_getElem_cons hj] at hw6
                      simp only [lcG] at hw6
                      refine .inr ⟨jg1, fun H7 => ∃ w7 F7 acc1 us1, Ok K f en w7 σ F7 H7 ∧ Ok K f en1 w7 σ3 F7 H7 ∧ Go f.aw F1 H1 F7 H7 w7 ∧ Same F3 F7 ∧ F7 p = none ∧ H7 p = some (.lst us1) ∧ DvAll K f.aw F7 us1 acc1 ∧
                        ∃ zq, lcG b1 gt ge (wipeE en1 vs1) (ds1.drop (j + 1)) w7 = .ok zq w4 ∧ acc ++ zs1 = acc1 ++ zq, fun H7 z => ⟨ds1.length - (j + 1), by omega, rfl, z⟩, fun x1 H7 hy1 => ?_⟩
                      obtain ⟨F7, g7, r7⟩ := jy1 x1 H7 hy1
                      cases qb1 : b1 ds1[j] (wipeE en1 vs1) with
                      | none => rw [qb1] at hw6; cases hw6
                      | some en2 =>
                        rw [qb1] at hw6
                        have fp7 : F7 p = none := g7.fr p (Kp.of hq6) fp6
                        have hq7 : H7 p = some (.lst us1) := g7.hh p _ np (fun _ y => nomatch y) hq6
                        refine hg1 f (wipeE en1 vs1) en2 w6 (L2.wipe σ3 vs1) F7 H7 x1 _ _ qb1 ((o6'.step g7).wipe vs1) (.inl r7) (fun _ _ => r7) fun σ4 o4 a4 => ⟨wipe_agree a4 hv1, ?_⟩
                        refine ht f en2 w6 σ4 F7 H7 _ o4 ?_
                        dsimp only at hw6
                        cases qt : gt en2 w6 with
                        | bad => rw [qt] at hw6; cases hw6
                        | ex c fn a w7 => rw [qt] at hw6; cases hw6
                        | ok dt w7 =>
                          rw [qt] at hw6
                          cases dt <;> first
                            | (cases hw6; done)
                            | skip
                          rename_i kb
                          intro Ft Ht gt'
                          have fpt : Ft p = none := gt'.fr p (Kp.of hq7) fp7
                          have hqt : Ht p = some (.lst us1) := gt'.hh p _ np (fun _ y => nomatch y) hq7
                          have ot : Ok K f en w7 σ Ft Ht := (o6.step g7).step gt'
                          have ot' : Ok K f en1 w7 σ3 Ft Ht := (o6'.step g7).step gt'
                          have g1t : Go f.aw F1 H1 Ft Ht w7 := (g6.trans g7).trans gt'
                          have dvt := (dv6.mono g7.ff).mono gt'.ff
                          have st : Same F3 Ft := (s6.trans g7.ff).trans gt'.ff
                          cases kb with
                          | false => exact ⟨w7, Ft, acc1, us1, ot, ot', g1t, st, fpt, hqt, dvt, zq, hw6, ez6⟩
                          | true =>
                            show te σ4 Ht _
                            dsimp only at hw6
                            refine (he.toSt hs) f en2 w7 σ4 Ft Ht _ (o4.step gt') ?_
                            cases qe : ge en2 w7 with
                            | bad => rw [qe] at hw6; cases hw6
                            | ex c fn a w8 => rw [qe] at hw6; cases hw6
                            | ok z w8 =>
                              rw [qe] at hw6
                              dsimp only at hw6
                              intro v F8 H8 g8 r8
                              have fp8 : F8 p = none := g8.fr p (Kp.of hqt) fpt
                              have hq8 : H8 p = some (.lst us1) := g8.hh p _ np (fun _ y => nomatch y) hqt
                              have o8 : Ok K f en w8 σ F8 H8 := ot.step g8
                              have o8' : Ok K f en1 w8 σ3 F8 H8 := ot'.step g8
                              have g18 : Go f.aw F1 H1 F8 H8 w8 := g1t.trans g8
                              cases ql2 : lcG b1 gt ge (wipeE en1 vs1) (ds1.drop (j + 1)) w8 with
                              | bad => rw [ql2] at hw6; cases hw6
                              | ex c fn a w9 => rw [ql2] at hw6; cases hw6
                              | ok zq2 w9 =>
                                rw [ql2] at hw6
                                simp only [AR.cons, AR.ok.injEq] at hw6
                                obtain ⟨e1, e2⟩ := hw6
                                subst e2
                                have hlen : us1.length < sizeLine := by
                                  have l1 := congrArg List.length ez
                                  have l2 := congrArg List.length ez6
                                  rw [← hzr] at l1
                                  rw [← e1] at l2
                                  simp only [List.length_append, List.length_cons] at l1 l2
                                  rw [dv6.length]
                                  omega
                                refine ⟨us1, hq8, hlen, w8, F8, acc1 ++ [z], us1 ++ [v], ?_, ?_, ?_, st.trans g8.ff, fp8, upd_same, (dvt.mono g8.ff).snoc r8, zq2, ql2, ?_⟩
                                · exact o8.poke (.inr ⟨_, hq8⟩) z0 fp8 np zn
                                · exact o8'.poke (.inr ⟨_, hq8⟩) z0 fp8 np fun j es y => absurd y (noOwn_get hno j es)
                                · exact g18.wr hp fp8 np (.inr ⟨_, hq8⟩)
                                · rw [ez6, ← e1, List.append_assoc]
                                  rfl
                    · refine .inl ⟨(wk1 j w6 F6 H6 st1 o6'.here).2 (by omega), ?_⟩
                      rw [List.drop_eq_nil_of_le (by omega)] at hw6
                      simp only [lcG, AR.ok.injEq] at hw6
                      obtain ⟨e1, e2⟩ := hw6
                      subst e1 e2
                      rw [List.append_nil] at ez6
                      exact ⟨w6, F6, acc1, us1, o6, g6, fp6, hq6, dv6, zr1, qr, by rw [ez, ← hzr, ← List.append_assoc, ez6]⟩
            · cases hw
        · refine .inl ⟨(wk i w' F' H' st o'.here).2 (by omega), ?_⟩
          rw [List.drop_eq_nil_of_le (by omega)] at hw
          simp only [lcG2T, AR.ok.injEq] at hw
          obtain ⟨h1, h2⟩ := hw
          subst h1 h2
          rw [List.append_nil] at ez
          subst ez
          exact h _ F' H' (gg1.trans g') ⟨_, p, us, rfl, rfl, hp0, hq, fp, dv⟩
      · exact h.elim
theorem ds_setLc2T (i : Nat) {own : List (Str × Nat)} {scope : Scope} (hc : X.calm = true) (hN : X.N.Nodup) (hi : DI K X W true tg e ti gi) (ok : BlkOk X.N X.env.scope scope own)
    (hg : ∀ (s : Shared) (H : Hp) (C : Addr) (cl : List (Str × Addr)) (fp : List Addr), DG K (Bk X scope s H C cl fp) tg g b vs')
    (hi1 : ∀ (s : Shared) (H : Hp) (C : Addr) (cl : List (Str × Addr)) (fp : List Addr), DI K (Bk X scope s H C cl fp) W0 false tg1 e1 ti1 gi1)
    (hg1 : ∀ (s : Shared) (H : Hp) (C : Addr) (cl : List (Str × Addr)) (fp : List Addr), DG K (Bk X scope s H C cl fp) tg1 g1 b1 vs1')
    (ht : ∀ (s : Shared) (H : Hp) (C : Addr) (cl : List (Str × Addr)) (fp : List Addr), DT K (Bk X scope s H C cl fp) W0 c tt gt)
    (he : ∀ (s' : Shared) (H : Hp) (C : Addr) (cl : List (Str × Addr)) (fp : List Addr), DE K (Bk X scope s' H C cl fp) W0 s elt te ge) (vs1 : List Nat)
    (hsw : swapsWith (.ListComp elt [⟨tg, e, [], 0⟩, ⟨tg1, e1, [c], 0⟩] scope pos) (some (.Name x py)) spos.line X.env = pure true)
    (hs : s ≠ .wk := by decide) (hv : ∀ i ∈ vs', i ∈ own.map (·.2) := by decide) (hv1 : ∀ i ∈ vs1', i ∈ vs1 := by decide) (hv2 : ∀ i ∈ vs1, i ∈ own.map (·.2) := by decide) (hf : ∀ x, foldedSetIterable e X.env x = pure x := by intro _; rfl) (hf1 : ∀ env x, foldedSetIterable e1 env x = pure x := by intro _ _; rfl)
    (hy : X.N[i]? = some x := by rfl) (hyl : X.env.scope.names.lookup x = some .local := by rfl) :
    DS K X W (.Assign [.Name x py] (.ListComp elt [⟨tg, e, [], 0⟩, ⟨tg1, e1, [c], 0⟩] scope pos) spos) (tAsg (tLc2 ti g tYes ti1 g1 tt te (own.map (·.2)) vs1) (gName i)) (sSet i (eLc2T gi b gi1 b1 gt ge (own.map (·.2)) vs1)) := by
  obtain ⟨K0, T0, L0⟩ := K
  cases hi.hK
  exact ⟨ps_setLc2 hc hN hy hyl hsw hi.pi ok hv2 (fun s H C cl fp => (hg s H C cl fp).pg) (fun s H C cl fp => pts_nil) (fun s H C cl fp => (hi1 s H C cl fp).pi) (fun s H C cl fp => (hg1 s H C cl fp).pg) (fun s H C cl fp => pts_one (ht s H C cl fp).pt) (fun s H C cl fp => (he s H C cl fp).pe) hf hf1,
    ess_set (es_lc2T hi.es (hg {} (fun _ => none) 0 [] []).es hv (hi1 {} (fun _ => none) 0 [] []).es (hg1 {} (fun _ => none) 0 [] []).es hv1 (ht {} (fun _ => none) 0 [] []).es (he {} (fun _ => none) 0 [] []).es hs) (fun z => nomatch z)⟩
end
/-- a comprehension with two sources and a test, from data -/
theorem lcG_inner {α β : Type} {f : α → β → D} {e1 : β → D} {b1 : BG} {gt ge : EG} {vs1 : List Nat} {en1 : List Sl} {w : Wl} (c : α → β → Bool) (x : α) : ∀ (ys : List β), (∀ y ∈ ys, ∃ S', b1 (e1 y) (wipeE en1 vs1) = some S' ∧ gt S' w = .ok (.bl (c x y)) w ∧ (c x y = true → ge S' w = .ok (f x y) w)) →
    lcG b1 gt ge (wipeE en1 vs1) (ys.map e1) w = .ok ((ys.filter (c x)).map (f x)) w
  | [], _ => rfl
  | y :: ys, h => by
    obtain ⟨S', h1, h2, h3⟩ := h y List.mem_cons_self
    have ih := lcG_inner c x ys fun z hz => h z (List.mem_cons_of_mem _ hz)
    rw [List.map_cons]
    unfold lcG
    rw [h1]
    simp only [h2]
    cases q : c x y with
    | true =>
      simp only [h3 q, ih, AR.cons]
      rw [List.filter_cons_of_pos q, List.map_cons]
    | false =>
      simp only [ih]
      rw [List.filter_cons_of_neg (by rw [q]; simp)]
theorem eLc2T_ev {α β : Type} {enc : α → D} {enc1 : β → D} {gi gi1 : AG} {b b1 : BG} {gt ge : EG} {vs vs1 : List Nat} {en : List Sl} {w : Wl} (c : α → β → Bool) (f : α → β → D) (xs : List α) (ys : List β) (hg : gi en w = .ok (xs.map enc) w) (hl : (xs.flatMap fun x => (ys.filter (c x)).map (f x)).length ≤ sizeLine)
    (h : ∀ x ∈ xs, ∃ S', b (enc x) (wipeE en vs) = some S' ∧ noOwn S' = true ∧ gi1 S' w = .ok (ys.map enc1) w ∧ ∀ y ∈ ys, ∃ S2, b1 (enc1 y) (wipeE S' vs1) = some S2 ∧ gt S2 w = .ok (.bl (c x y)) w ∧ (c x y = true → ge S2 w = .ok (f x y) w)) :
    eLc2T gi b gi1 b1 gt ge vs vs1 en w = .ok (.lst (xs.flatMap fun x => (ys.filter (c x)).map (f x))) w := by
  have outer : ∀ (zs : List α), (∀ x ∈ zs, x ∈ xs) → lcG2T b gi1 b1 gt ge vs1 (wipeE en vs) (zs.map enc) w = .ok (zs.flatMap fun x => (ys.filter (c x)).map (f x)) w := fun zs => by
    induction zs with
    | nil => exact fun _ => rfl
    | cons x zs ih =>
      intro hx
      obtain ⟨S', h1, h2, h3, h4⟩ := h x (hx x List.mem_cons_self)
      rw [List.map_cons]
      unfold lcG2T
      rw [h1]
      simp only [h2, if_true, h3]
      rw [lcG_inner c x ys h4]
      dsimp only
      rw [ih fun z hz => hx z (List.mem_cons_of_mem _ hz)]
      dsimp only
      rw [List.flatMap_cons]
  unfold eLc2T
  rw [hg]
  dsimp only
  rw [outer xs fun _ h => h]
  dsimp only
  rw [if_pos hl]
section
variable {X : Cx} {W : WX} {K : Kt} {s1 s2 : Sg} {pos p2 pn spos py : Pos} {x : Str} {tg e ke ve : Expr} {ti : TI} {gi : AG} {g : TG} {b : BG} {vs' : List Nat} {tk tv : TE} {gk gv : EG}
/-- x = {k: v for ..}, as data -/
theorem ds_setDct (i : Nat) {own : List (Str × Nat)} {scope : Scope} (hu : X.A.units + 65 < cLine) (hc : X.calm = true) (hN : X.N.Nodup) (hi : DI K X W true tg e ti gi) (ok : BlkOk X.N X.env.scope scope own)
    (hg : ∀ (s : Shared) (H : Hp) (C : Addr) (cl : List (Str × Addr)) (fp : List Addr), DG K (Bk X scope s H C cl fp) tg g b vs')
    (hk : ∀ (s' : Shared) (H : Hp) (C : Addr) (cl : List (Str × Addr)) (fp : List Addr), DE K (Bk X scope s' H C cl fp) W0 s1 ke tk gk)
    (he : ∀ (s' : Shared) (H : Hp) (C : Addr) (cl : List (Str × Addr)) (fp : List Addr), DE K (Bk X scope s' H C cl fp) W0 s2 ve tv gv)
    (hsw : swapsWith (.DictComp ke ve [⟨tg, e, [], 0⟩] scope p2) (some (.Name x py)) spos.line X.env = pure true)
    (h1 : s1 ≠ .wk := by decide) (h2 : s2 ≠ .wk := by decide) (hv : ∀ i ∈ vs', i ∈ own.map (·.2) := by decide) (hf : ∀ x, foldedSetIterable e X.env x = pure x := by intro _; rfl)
    (hy : X.N[i]? = some x := by rfl) (hyl : X.env.scope.names.lookup x = some .local := by rfl) :
    DS K X W (.Assign [.Name x py] (.DictComp ke ve [⟨tg, e, [], 0⟩] scope p2) spos) (tAsg (tDcT ti g tYes tk tv (own.map (·.2))) (gName i)) (sSet i (eDCT gi b eYes gk gv (own.map (·.2)))) := by
  obtain ⟨K0, T0, L0⟩ := K
  cases hi.hK
  exact ⟨ps_setDcT hu hc hN hy hyl hsw hi.pi ok (fun s H C cl fp => (hg s H C cl fp).pg) (fun s H C cl fp => pts_nil) (fun s H C cl fp => (hk s H C cl fp).pe) (fun s H C cl fp => (he s H C cl fp).pe) hf,
    ess_set (es_dct hi.es (hg {} (fun _ => none) 0 [] []).es hv (fun f en w σ F H Q o h => h F H o.here) (hk {} (fun _ => none) 0 [] []).es (he {} (fun _ => none) 0 [] []).es h1 h2) (fun z => nomatch z)⟩
end
end DL

namespace PF
open PySem PySem.Spec L2 DL
open PyProof.Rows hiding St
def g_in_order : SG :=
  (sSeq (sSet 1 (eLK (eVar 0)))
  (sSeq (sSet 3 (eBin oMul (eC (.int 2)) (eMaxK (eLc (gSeq (eVar 1)) (bTupN 2 (bCons (bName 4) (bCons (bName 5) bNil))) eYes (eUn oBits (eVar 5)) [4, 5]) (eC (.int 0)))))
  (sRet (eSortL 2 (eVar 1) (eBin oFdiv (eBin oShlW (eBin oIx (eVar 2) (eC (.int 0))) (eVar 3)) (eBin oIx (eVar 2) (eC (.int 1))))))))
def G_in_order : List D → Wl → Res := fun ds w => runG 6 g_in_order ds w
def g_is_whole : SG :=
  (sRet (eBin oIs (eCall oType (aCons (eVar 0) aNil)) (eC (.ty "int"))))
def G_is_whole : List D → Wl → Res := fun ds w => runG 1 g_is_whole ds w
def g_is_row : SG :=
  (sRet (eAnd (eBin oIs (eCall oType (aCons (eVar 0) aNil)) (eC (.ty "tuple"))) (eBin oEq (eCall oLen (aCons (eVar 0) aNil)) (eVar 1))))
def G_is_row : List D → Wl → Res := fun ds w => runG 2 g_is_row ds w
def g_is_count : SG :=
  (sRet (eAnd (eFn 1 G_is_whole (aCons (eVar 0) aNil)) (eChain oLe oLe (eC (.int 1)) (eVar 0) (eC (.int 5)))))
def G_is_count : List D → Wl → Res := fun ds w => runG 1 g_is_count ds w
def g_is_fraction : SG :=
  (sSeq (sIf (eNot (eUn oTru (eFn 2 G_is_row (aCons (eVar 0) (aCons (eC (.int 2)) aNil))))) (sRet (eC (.bl false))) sPass)
  (sSeq (sAsg (eVar 0) (bTupN 2 (bCons (bName 1) (bCons (bName 2) bNil))))
  (sRet (eAnd (eFn 1 G_is_whole (aCons (eVar 1) aNil)) (eAnd (eFn 1 G_is_whole (aCons (eVar 2) aNil)) (eAnd (eBin oGt (eVar 2) (eC (.int 0))) (eBin oEq (eCall oGcd (aCons (eVar 1) (aCons (eVar 2) aNil))) (eC (.int 1)))))))))
def G_is_fraction : List D → Wl → Res := fun ds w => runG 3 g_is_fraction ds w
def g_is_number : SG :=
  (sRet (eAnd (eFn 1 G_is_fraction (aCons (eVar 0) aNil)) (eChain oLe oLe (eC (.int 0)) (eBin oIx (eVar 0) (eC (.int 0))) (eBin oIx (eVar 0) (eC (.int 1))))))
def G_is_number : List D → Wl → Res := fun ds w => runG 1 g_is_number ds w
def g_is_limit : SG :=
  (sRet (eOr (eBin oIs (eVar 0) (eC .non)) (eFn 1 G_is_number (aCons (eVar 0) aNil))))
def G_is_limit : List D → Wl → Res := fun ds w => runG 1 g_is_limit ds w
def g_is_corner : SG :=
  (sRet (eAnd (eFn 2 G_is_row (aCons (eVar 1) (aCons (eVar 0) aNil))) (eCall oAll (aCons (eLc (gSeq (eVar 1)) (bName 2) eYes (eFn 1 G_is_limit (aCons (eVar 2) aNil)) [2]) aNil))))
def G_is_corner : List D → Wl → Res := fun ds w => runG 3 g_is_corner ds w
def g_unlike_limits : SG :=
  (sRet (eLc (gRng1 (aCons (eVar 0) aNil)) (bName 3) eYes (eFn 1 G_in_order (aCons (eLc (gSeq (eVar 1)) (bName 2) (eAnd (eBin oNot (eBin oIx (eVar 2) (eVar 3)) (eC .non)) (eBin oNe (eBin oIx (eVar 2) (eVar 3)) (eC (.con ([1, 1].map .int))))) (eBin oIx (eVar 2) (eVar 3)) [2]) aNil)) [3]))
def G_unlike_limits : List D → Wl → Res := fun ds w => runG 4 g_unlike_limits ds w
def g_ranked : SG :=
  (sSeq (sSet 2 (eLc (gSeq (eVar 1)) (bName 5) eYes (eDCT (gEnum (aCons (eVar 5) aNil)) (bTupN 2 (bCons (bName 3) (bCons (bName 4) bNil))) eYes (eVar 4) (eVar 3) [3, 4]) [5]))
  (sRet (eLc (gSeq (eVar 0)) (bName 7) eYes (eCall oTup (aCons (eLc (gZip2 (aCons (eVar 7) (aCons (eVar 2) aNil))) (bTupN 2 (bCons (bName 4) (bCons (bName 6) bNil))) eYes (eDGetN (eVar 6) (eVar 4) (eCall oLenD (aCons (eVar 6) aNil))) [4, 6]) aNil)) [7])))
def G_ranked : List D → Wl → Res := fun ds w => runG 8 g_ranked ds w
def g_is_under : SG :=
  (sRet (eCall oAll (aCons (eLc (gZip (aCons (eVar 0) (aCons (eVar 1) aNil))) (bTupN 2 (bCons (bName 2) (bCons (bName 3) bNil))) eYes (eBin oLe (eVar 2) (eVar 3)) [2, 3]) aNil)))
def G_is_under : List D → Wl → Res := fun ds w => runG 4 g_is_under ds w
def g_is_index : SG :=
  (sRet (eAnd (eFn 1 G_is_whole (aCons (eVar 1) aNil)) (eChain oLe (oRel fun i j => decide (i < j)) (eC (.int 0)) (eVar 1) (eVar 0))))
def G_is_index : List D → Wl → Res := fun ds w => runG 2 g_is_index ds w
def g_is_ascending : SG :=
  (sRet (eCall oAll (aCons (eLc (gZip (aCons (eVar 0) (aCons (eSl (eVar 0) (pSome (eC (.int 1))) pNone) aNil))) (bTupN 2 (bCons (bName 1) (bCons (bName 2) bNil))) eYes (eBin oLt (eVar 1) (eVar 2)) [1, 2]) aNil)))
def G_is_ascending : List D → Wl → Res := fun ds w => runG 3 g_is_ascending ds w
def g_is_set : SG :=
  (sSeq (sIf (eOr (eBin oNot (eCall oType (aCons (eVar 1) aNil)) (eC (.ty "tuple"))) (eBin oEq (eCall oLen (aCons (eVar 1) aNil)) (eC (.int 0)))) (sRet (eC (.bl false))) sPass)
  (sRet (eAnd (eCall oAll (aCons (eLc (gSeq (eVar 1)) (bName 2) eYes (eFn 2 G_is_index (aCons (eVar 0) (aCons (eVar 2) aNil))) [2]) aNil)) (eFn 1 G_is_ascending (aCons (eVar 1) aNil)))))
def G_is_set : List D → Wl → Res := fun ds w => runG 3 g_is_set ds w
def g_is_frame : SG :=
  (sSeq (sIf (eNot (eUn oTru (eFn 2 G_is_row (aCons (eVar 0) (aCons (eC (.int 2)) aNil))))) (sRet (eC (.bl false))) sPass)
  (sSeq (sAsg (eVar 0) (bTupN 2 (bCons (bName 1) (bCons (bName 2) bNil))))
  (sSeq (sIf (eOr (eNot (eUn oTru (eFn 1 G_is_count (aCons (eVar 1) aNil)))) (eOr (eBin oNot (eCall oType (aCons (eVar 2) aNil)) (eC (.ty "tuple"))) (eBin oEq (eCall oLen (aCons (eVar 2) aNil)) (eC (.int 0))))) (sRet (eC (.bl false))) sPass)
  (sRet (eAnd (eCall oAll (aCons (eLc (gSeq (eVar 2)) (bName 3) eYes (eFn 2 G_is_set (aCons (eVar 1) (aCons (eVar 3) aNil))) [3]) aNil)) (eFn 1 G_is_ascending (aCons (eVar 2) aNil)))))))
def G_is_frame : List D → Wl → Res := fun ds w => runG 4 g_is_frame ds w
def g_is_part : SG :=
  (sRet (eCall oAll (aCons (eLc (gSeq (eVar 0)) (bName 2) eYes (eBin oIn (eVar 2) (eVar 1)) [2]) aNil)))
def G_is_part : List D → Wl → Res := fun ds w => runG 3 g_is_part ds w
def g_is_at_most : SG :=
  (sRet (eBin oLe (eBin oMul (eBin oIx (eVar 0) (eC (.int 0))) (eBin oIx (eVar 1) (eC (.int 1)))) (eBin oMul (eBin oIx (eVar 1) (eC (.int 0))) (eBin oIx (eVar 0) (eC (.int 1))))))
def G_is_at_most : List D → Wl → Res := fun ds w => runG 2 g_is_at_most ds w
def g_check_frame : SG :=
  (sIf (eNot (eUn oTru (eFn 1 G_is_frame (aCons (eVar 0) aNil)))) sNever sPass)
def G_check_frame : List D → Wl → Res := fun ds w => runG 1 g_check_frame ds w
def g_is_bar : SG :=
  (sSeq (sIf (eNot (eUn oTru (eFn 2 G_is_row (aCons (eVar 1) (aCons (eC (.int 2)) aNil))))) (sRet (eC (.bl false))) sPass)
  (sSeq (sAsg (eVar 1) (bTupN 2 (bCons (bName 2) (bCons (bName 3) bNil))))
  (sSeq (sIf (eOr (eNot (eUn oTru (eFn 2 G_is_set (aCons (eVar 0) (aCons (eVar 2) aNil))))) (eNot (eUn oTru (eFn 2 G_is_corner (aCons (eVar 0) (aCons (eVar 3) aNil)))))) (sRet (eC (.bl false))) sPass)
  (sRet (eCall oAll (aCons (eLc (gEnum (aCons (eVar 3) aNil)) (bTupN 2 (bCons (bName 4) (bCons (bName 5) bNil))) eYes (eOr (eBin oIs (eVar 5) (eC .non)) (eBin oIn (eVar 4) (eVar 2))) [4, 5]) aNil))))))
def G_is_bar : List D → Wl → Res := fun ds w => runG 6 g_is_bar ds w
def g_first_wrong_bar : SG :=
  (sSeq (sDNew 2)
  (sSeq (sFor (gEnum (aCons (eVar 1) aNil)) (bTupN 2 (bCons (bName 3) (bCons (bName 4) bNil))) (sSeq (sIf (eOr (eBin oEq (eVar 3) (eC (.int 240))) (eNot (eUn oTru (eFn 2 G_is_bar (aCons (eVar 0) (aCons (eVar 4) aNil)))))) (sRet (eVar 3)) sPass)
  (sSeq (sDPut 2 (eBin oIx (eVar 4) (eC (.int 0))) (eBin oAdd (eDGet 2 (eBin oIx (eVar 4) (eC (.int 0))) (eC (.int 0))) (eC (.int 1))))
  (sIf (eBin oGt (eDIx 2 (eBin oIx (eVar 4) (eC (.int 0)))) (eC (.int 60))) (sRet (eVar 3)) sPass))))
  (sRet (eCall oLen (aCons (eVar 1) aNil)))))
def G_first_wrong_bar : List D → Wl → Res := fun ds w => runG 5 g_first_wrong_bar ds w
def g_check_bars : SG :=
  (sSeq (sIf (eBin oNot (eCall oType (aCons (eVar 1) aNil)) (eC (.ty "tuple"))) sNever sPass)
  (sSeq (sSet 2 (eFn 2 G_first_wrong_bar (aCons (eVar 0) (aCons (eVar 1) aNil))))
  (sIf (eBin oLt (eVar 2) (eCall oLen (aCons (eVar 1) aNil))) sNever sPass)))
def G_check_bars : List D → Wl → Res := fun ds w => runG 3 g_check_bars ds w
def g_highest_within : SG :=
  (sRet (eCall oTup (aCons (eLc (gSeq (eVar 0)) (bName 1) eYes (eIf (eBin oIs (eVar 1) (eC .non)) (eC (.con ([1, 1].map .int))) (eVar 1)) [1]) aNil)))
def G_highest_within : List D → Wl → Res := fun ds w => runG 2 g_highest_within ds w
def g_first_split : SG :=
  (sSeq (sAsg (eVar 0) (bTupN 2 (bCons (bName 2) (bCons (bName 3) bNil))))
  (sSeq (sSet 4 (eLc (gSeq (eVar 1)) (bTupN 2 (bCons (bName 5) (bCons (bName 6) bNil))) eYes (eVar 6) [5, 6]))
  (sSeq (sSet 7 (eFn 2 G_ranked (aCons (eVar 4) (aCons (eFn 2 G_unlike_limits (aCons (eVar 2) (aCons (eVar 4) aNil))) aNil))))
  (sSeq (sSet 8 (eDCT (gSeq (eVar 3)) (bName 11) eYes (eVar 11) (eLc (gEnum (aCons (eVar 1) aNil)) (bTupN 2 (bCons (bName 9) (bCons (bTupN 2 (bCons (bName 10) (bCons (bName 5) bNil))) bNil))) (eBin oEq (eVar 10) (eVar 11)) (eVar 9) [9, 10, 5]) [11]))
  (sSeq (sSet 12 (eLc2T (gSeq (eVar 3)) (bName 13) (gSeq (eVar 3)) (bName 14) (eUn oTru (eFn 2 G_is_part (aCons (eVar 13) (aCons (eVar 14) aNil)))) (eTup (aCons (eVar 13) (aCons (eVar 14) aNil))) [13, 14] [14]))
  (sSeq (sFor (gSeq (eVar 12)) (bTupN 2 (bCons (bName 11) (bCons (bName 15) bNil))) (sSeq (sSet 16 (eLc (gSeq (eDIxD (eVar 8) (eVar 15))) (bName 9) eYes (eBin oIx (eVar 7) (eVar 9)) [9]))
  (sFor (gSeq (eDIxD (eVar 8) (eVar 11))) (bName 9) (sIf (eNot (eUn oTru (eCall oAny (aCons (eLc (gSeq (eVar 16)) (bName 17) eYes (eFn 2 G_is_under (aCons (eBin oIx (eVar 7) (eVar 9)) (aCons (eVar 17) aNil))) [17]) aNil)))) (sRet (eTup (aCons (eVar 11) (aCons (eVar 15) (aCons (eFn 1 G_highest_within (aCons (eBin oIx (eVar 4) (eVar 9)) aNil)) aNil))))) sPass))))
  (sRet (eC .non))))))))
def G_first_split : List D → Wl → Res := fun ds w => runG 18 g_first_split ds w
def g_is_coherent : SG :=
  (sSeq (sDrop (eFn 1 G_check_frame (aCons (eVar 0) aNil)))
  (sSeq (sDrop (eFn 2 G_check_bars (aCons (eBin oIx (eVar 0) (eC (.int 0))) (aCons (eVar 1) aNil))))
  (sRet (eBin oIs (eFn 2 G_first_split (aCons (eVar 0) (aCons (eVar 1) aNil))) (eC .non)))))
def G_is_coherent : List D → Wl → Res := fun ds w => runG 2 g_is_coherent ds w
end PF

/-! What the program's functions answer. -/
namespace PF
open PySem PySem.Spec L2 DL
open PyProof.Rows hiding St
theorem szL {n : Nat} (h : n ≤ 1000) : n ≤ sizeLine := Nat.le_trans h (show 1000 ≤ sizeLine by decide)
section
variable {w : Wl}
theorem is_whole_int (i : Int) : G_is_whole [.int i] w = .ok (.bl true) w := by
  simp [G_is_whole, g_is_whole, runG, DL.runL, DL.runN, sSeq, Out.seq, sIf, sPass, sRet, sSet, sDrop, sAsg, Res.thn, AR.thn, eBin, eUn, Res.bind, eVar, eC, eCall, eFn, aCons, aNil, AR.cons, eNot, bNot, eAnd, eOr, eIf, bIf, eChain, oOr, oRel, oI, oLe, oGt, oGe, oIs, oIsN, oIsT, oIsB, oNot, oNotN, oNotT, oNotB, D.isN, oType, oType1, D.tyName, oLen, oLen1, oTru, oTup, oTup1, eTup, eLst, bTupN, bCons, bNil, bName, oIx, atI, ixN]
theorem is_count_int (i : Int) : G_is_count [.int i] w = .ok (.bl (decide (1 ≤ i ∧ i ≤ 5))) w := by
  by_cases h : 1 ≤ i <;> simp [G_is_count, g_is_count, is_whole_int, h, runG, DL.runL, DL.runN, sSeq, Out.seq, sIf, sPass, sRet, sSet, sDrop, sAsg, Res.thn, AR.thn, eBin, eUn, Res.bind, eVar, eC, eCall, eFn, aCons, aNil, AR.cons, eNot, bNot, eAnd, eOr, eIf, bIf, eChain, oOr, oRel, oI, oLe, oGt, oGe, oIs, oIsN, oIsT, oIsB, oNot, oNotN, oNotT, oNotB, D.isN, oType, oType1, D.tyName, oLen, oLen1, oTru, oTup, oTup1, eTup, eLst, bTupN, bCons, bNil, bName, oIx, atI, ixN]
theorem is_index_int (n i : Int) : G_is_index [.int n, .int i] w = .ok (.bl (decide (0 ≤ i ∧ i < n))) w := by
  by_cases h : 0 ≤ i <;> simp [G_is_index, g_is_index, is_whole_int, h, runG, DL.runL, DL.runN, sSeq, Out.seq, sIf, sPass, sRet, sSet, sDrop, sAsg, Res.thn, AR.thn, eBin, eUn, Res.bind, eVar, eC, eCall, eFn, aCons, aNil, AR.cons, eNot, bNot, eAnd, eOr, eIf, bIf, eChain, oOr, oRel, oI, oLe, oGt, oGe, oIs, oIsN, oIsT, oIsB, oNot, oNotN, oNotT, oNotB, D.isN, oType, oType1, D.tyName, oLen, oLen1, oTru, oTup, oTup1, eTup, eLst, bTupN, bCons, bNil, bName, oIx, atI, ixN]
theorem is_row_tup (ds : List D) (m : Int) : G_is_row [.tup ds, .int m] w = .ok (.bl (decide ((ds.length : Int) = m))) w := by
  have e := oEq_ev (w := w) eqs_int (ds.length : Int) m (shp_int _ 0) (shp_int _ 0)
  simp [G_is_row, g_is_row, e, runG, DL.runL, DL.runN, sSeq, Out.seq, sIf, sPass, sRet, sSet, sDrop, sAsg, Res.thn, AR.thn, eBin, eUn, Res.bind, eVar, eC, eCall, eFn, aCons, aNil, AR.cons, eNot, bNot, eAnd, eOr, eIf, bIf, eChain, oOr, oRel, oI, oLe, oGt, oGe, oIs, oIsN, oIsT, oIsB, oNot, oNotN, oNotT, oNotB, D.isN, oType, oType1, D.tyName, oLen, oLen1, oTru, oTup, oTup1, eTup, eLst, bTupN, bCons, bNil, bName, oIx, atI, ixN]
theorem zip_map {α : Type} (enc : α → D) : ∀ xs ys : List α, pairsZ (xs.map enc) (ys.map enc) = (xs.zip ys).map fun p => .tup [enc p.1, enc p.2]
  | [], _ => rfl
  | _ :: _, [] => rfl
  | x :: xs, y :: ys => by
    have := zip_map enc xs ys
    unfold pairsZ at this ⊢
    simp [this]
theorem cutD_tail (ds : List D) : DL.cutD ds (some 1) none = ds.drop 1 := by
  unfold DL.cutD HT.sIx
  cases ds with
  | nil => simp
  | cons d ds => simp
/-- ascending: each one below the next -/
theorem is_ascending_ok {α : Type} (enc : α → D) (lt : α → α → Bool) (xs : List α) (hl : xs.length ≤ 1000) (h : ∀ x y, oLt (enc x) (enc y) w = .ok (.bl (lt x y)) w) :
    G_is_ascending [.tup (xs.map enc)] w = .ok (.bl ((xs.zip (xs.drop 1)).all fun p => lt p.1 p.2)) w := by
  unfold G_is_ascending g_is_ascending
  refine run_rt (ret_ev ?_)
  refine all_ev (fun p : α × α => .tup [enc p.1, enc p.2]) (fun p => lt p.1 p.2) (xs.zip (xs.drop 1)) ?_ ?_ ?_
  · have e := zip_map enc xs (xs.drop 1)
    rw [List.map_drop] at e
    show AR.ok (pairsZ (xs.map enc) (DL.cutD (xs.map enc) (some 1) none)) w = _
    rw [cutD_tail, e]
  · rw [List.length_zip]
    exact szL (Nat.le_trans (Nat.min_le_left _ _) hl)
  · exact fun p _ => ⟨_, rfl, h p.1 p.2⟩
theorem oLt_int (x y : Int) : oLt (.int x) (.int y) w = .ok (.bl (decide (x < y))) w := by simp [oLt, oOr, oRel, oI]
theorem oLt_set (x y : IS) : oLt (encI x) (encI y) w = .ok (.bl (HT.lexLt x y)) w := by
  simp [oLt, oOr, oRel, oI, encI, oLtT, allInts_map]
theorem asc_pair {α : Type} (lt : α → α → Bool) : ∀ xs : List α, (xs.Pairwise fun x y => lt x y = true) → ((xs.zip (xs.drop 1)).all fun p => lt p.1 p.2) = true
  | [], _ => rfl
  | [x], _ => rfl
  | x :: y :: r, h => by
    obtain ⟨h1, h2⟩ := List.pairwise_cons.mp h
    have ih := asc_pair lt (y :: r) h2
    simp only [List.drop_succ_cons, List.drop_zero] at ih
    simp only [List.drop_succ_cons, List.drop_zero, List.zip_cons_cons, List.all_cons, h1 y List.mem_cons_self, Bool.true_and]
    exact ih
theorem pair_asc : ∀ xs : IS, ((xs.zip (xs.drop 1)).all fun p => decide (p.1 < p.2)) = true → xs.Pairwise (· < ·)
  | [], _ => List.Pairwise.nil
  | [x], _ => by simp
  | x :: y :: r, h => by
    simp only [List.drop_succ_cons, List.drop_zero, List.zip_cons_cons, List.all_cons, Bool.and_eq_true, decide_eq_true_eq] at h
    have ih := pair_asc (y :: r) (by simpa using h.2)
    refine List.pairwise_cons.mpr ⟨fun z hz => ?_, ih⟩
    rcases List.mem_cons.mp hz with rfl | hz
    · exact h.1
    · have := (List.pairwise_cons.mp ih).1 z hz
      omega
theorem is_set_ev (n : Int) (s : IS) (hl : s.length ≤ 1000) : G_is_set [.int n, encI s] w = .ok (.bl (decide (isSet n s))) w := by
  have e0 := oEq_ev (w := w) eqs_int (s.length : Int) 0 (shp_int _ 0) (shp_int _ 0)
  unfold G_is_set g_is_set
  cases s with
  | nil =>
    have : isSet n [] = False := by simp [isSet]
    simp [encI, this, oEq, D.sh, D.isP, D.eqv, D.toP, SeqAt.shaped, PyData.canLay0, PyData.depth, PyData.eqv, runG, DL.runL, DL.runN, sSeq, Out.seq, sIf, sPass, sRet, sSet, sDrop, sAsg, Res.thn, AR.thn, eBin, eUn, Res.bind, eVar, eC, eCall, eFn, aCons, aNil, AR.cons, eNot, bNot, eAnd, eOr, eIf, bIf, eChain, oOr, oRel, oI, oLe, oGt, oGe, oIs, oIsN, oIsT, oIsB, oNot, oNotN, oNotT, oNotB, D.isN, oType, oType1, D.tyName, oLen, oLen1, oTru, oTup, oTup1, eTup, eLst, bTupN, bCons, bNil, bName, oIx, atI, ixN]
  | cons a r =>
    have e1 := all_ev (gi := gSeq (eVar 1)) (b := bName 2) (ge := eFn 2 G_is_index (aCons (eVar 0) (aCons (eVar 2) aNil))) (vs := [2]) (en := [.dat (.int n), .dat (encI (a :: r)), .non]) (w := w) D.int (fun i => decide (0 ≤ i ∧ i < n)) (a :: r) rfl (by exact szL hl) fun i _ => ⟨_, rfl, by
      simp [is_index_int, wipeE, runG, DL.runL, DL.runN, sSeq, Out.seq, sIf, sPass, sRet, sSet, sDrop, sAsg, Res.thn, AR.thn, eBin, eUn, Res.bind, eVar, eC, eCall, eFn, aCons, aNil, AR.cons, eNot, bNot, eAnd, eOr, eIf, bIf, eChain, oOr, oRel, oI, oLe, oGt, oGe, oIs, oIsN, oIsT, oIsB, oNot, oNotN, oNotT, oNotB, D.isN, oType, oType1, D.tyName, oLen, oLen1, oTru, oTup, oTup1, eTup, eLst, bTupN, bCons, bNil, bName, oIx, atI, ixN]⟩
    have e2 := is_ascending_ok (w := w) D.int (fun x y => decide (x < y)) (a :: r) hl fun x y => oLt_int x y
    have ha : (decide (isSet n (a :: r))) = (((a :: r).all fun i => decide (0 ≤ i ∧ i < n)) && (((a :: r).zip ((a :: r).drop 1)).all fun p => decide (p.1 < p.2))) := by
      rw [Bool.eq_iff_iff, decide_eq_true_iff, Bool.and_eq_true]
      unfold isSet
      constructor
      · rintro ⟨_, h2, h3⟩
        exact ⟨List.all_eq_true.mpr fun i hi => decide_eq_true (h3 i hi), asc_pair (fun x y => decide (x < y)) _ (h2.imp fun h => decide_eq_true h)⟩
      · rintro ⟨h1, h2⟩
        exact ⟨by simp, pair_asc _ h2, fun i hi => of_decide_eq_true (List.all_eq_true.mp h1 i hi)⟩
    have ef : decide (((a :: r).length : Int) = 0) = false := decide_eq_false (by simp only [List.length_cons]; omega)
    rw [ef] at e0
    rw [ha]
    refine run_rt ((ifF_seq (w1 := w) ((or_F (w1 := w) ?_).trans ?_)).trans (ret_ev (and_ev e1 e2)))
    · show Res.ok (.bl (!decide ("tuple" = "tuple"))) w = _
      simp
    · refine (bin_ev (lenT_ev (ds := (a :: r).map .int) rfl) rfl).trans ?_
      rw [List.length_map]
      exact e0
theorem is_part_ev (a b : IS) (hl : a.length ≤ 1000) : G_is_part [encI a, encI b] w = .ok (.bl (a.all fun i => decide (i ∈ b))) w := by
  refine run_rt (ret_ev (all_ev D.int (fun i => decide (i ∈ b)) a rfl (szL hl) fun i _ => ⟨_, rfl, ?_⟩))
  have := oInT_ev (w := w) eqs_int i b (fun z => shp_int z 0)
  exact this
/-! ties -/
abbrev Ti := IS × Int
def encT (t : Ti) : D := .tup [encI t.1, .int t.2]
theorem asc_len : ∀ (s : IS) (lo hi : Int), s.Pairwise (· < ·) → (∀ i ∈ s, lo ≤ i ∧ i < hi) → s.length ≤ (hi - lo).toNat
  | [], _, _, _, _ => Nat.zero_le _
  | a :: r, lo, hi, h, hb => by
    obtain ⟨h1, h2⟩ := List.pairwise_cons.mp h
    have ih := asc_len r (a + 1) hi h2 fun i hi' => ⟨by have := h1 i hi'; omega, (hb i (List.mem_cons_of_mem _ hi')).2⟩
    have := hb a List.mem_cons_self
    rw [List.length_cons]
    omega
theorem isSet_len {n : Nat} {s : IS} (h : isSet n s) : s.length ≤ n := by
  have := asc_len s 0 n h.2.1 h.2.2
  omega
end
end PF

/-! What the program's functions answer: frames. -/
namespace PF
open PySem PySem.Spec L2 DL
open PyProof.Rows hiding St
/-! ### first_wrong -/
def pairsFrom {α : Type} (enc : α → D) : Nat → List α → List D
  | _, [] => []
  | i, x :: xs => .tup [.int i, enc x] :: pairsFrom enc (i + 1) xs
theorem pairs_mapIdx {α : Type} (enc : α → D) : ∀ (xs : List α) (i : Nat), ((xs.map enc).mapIdx fun j d => D.tup [.int ((j + i : Nat) : Int), d]) = pairsFrom enc i xs
  | [], _ => rfl
  | x :: xs, i => by
    rw [List.map_cons, List.mapIdx_cons, pairsFrom, ← pairs_mapIdx enc xs (i + 1)]
    congr 1
    · simp
    · congr 1
      funext j d
      congr 3
      omega
theorem pairsI_map {α : Type} (enc : α → D) (xs : List α) : pairsI (xs.map enc) = pairsFrom enc 0 xs := by
  rw [← pairs_mapIdx enc xs 0]
  rfl
/-! ### ties -/
section
variable {w : Wl}
/-! ### all sets -/
/-! ### frames -/
def encF (f : Nat × List IS) : D := .tup [.int f.1, encSs f.2]
/-- frames that are right -/
theorem is_frame_ok (n : Nat) (h1 : 1 ≤ n) (h2 : n ≤ 5) (ls : List IS) (h0 : ls ≠ []) (h : ∀ s ∈ ls, isSet n s) (ho : ls.Pairwise fun s t => HT.lexLt s t = true) (hl : ls.length ≤ 1000) : G_is_frame [encF (n, ls)] w = .ok (.bl true) w := by
  have e0 := is_row_tup (w := w) [.int n, encSs ls] 2
  have e1 := is_count_int (w := w) n
  rw [show decide (1 ≤ (n : Int) ∧ (n : Int) ≤ 5) = true from decide_eq_true (by omega)] at e1
  have e2 := oEq_ev (w := w) eqs_int (ls.length : Int) 0 (shp_int _ 0) (shp_int _ 0)
  have hne : decide ((ls.length : Int) = 0) = false := decide_eq_false (by
    have : ls.length ≠ 0 := fun h => h0 (List.length_eq_zero_iff.mp h)
    omega)
  rw [hne] at e2
  have e3 := is_ascending_ok (w := w) encI HT.lexLt ls hl fun x y => oLt_set x y
  rw [asc_pair HT.lexLt ls ho] at e3
  refine run_rt ((ifF_seq (w1 := w) (not_ev (c := true) (tru_ev e0))).trans ((asg_seq (en1 := [.dat (encF (n, ls)), .dat (.int n), .dat (encSs ls), .non]) (w1 := w) rfl rfl).trans ((ifF_seq (w1 := w) ?_).trans (ret_ev ?_))))
  · refine (or_F (w1 := w) (not_ev (c := true) (tru_ev e1))).trans ((or_F (w1 := w) ?_).trans ?_)
    · show Res.ok (.bl (!decide ("tuple" = "tuple"))) w = _
      simp
    · refine (bin_ev (lenT_ev (ds := ls.map encI) rfl) rfl).trans ?_
      rw [List.length_map]
      exact e2
  · refine (and_T (w1 := w) ?_).trans e3
    refine (all_ev encI (fun _ => true) ls rfl (szL hl) fun s hs => ⟨_, rfl, ?_⟩).trans (by simp)
    have e4 := is_set_ev (w := w) n s (Nat.le_trans (isSet_len (h s hs)) (by omega))
    rw [decide_eq_true (h s hs)] at e4
    exact e4
end
end PF

namespace LW
open PySem PySem.Spec L2 DL PF
open PyProof.Rows hiding St
def g__law_take : SG :=
  (sSeq (sIf (eBin oGt (eBin oIx (eVar 0) (eC (.int 0))) (eC (.int 0))) (sSeq (sTake 0 2 (eC (.int 0)) (eBin oIx (eVar 0) (eC (.int 0))) (eVar 1))
  (sRet (eVar 2))) sPass)
  (sSeq (sPut 0 (eC (.int 2)) (eBin oAdd (eBin oIx (eVar 0) (eC (.int 2))) (eC (.int 1))))
  (sSeq (sSet 3 (eBin oAdd (eC (.int 40609)) (eBin oMul (eC (.int 2)) (eBin oMod (eCall oInt (aCons (eBin oFdiv (eBin oIx (eVar 0) (eC (.int 1))) (eC (.int 31))) aNil)) (eC (.int 9001))))))
  (sSeq (sPut 0 (eC (.int 1)) (eBin oMod (eCall oInt (aCons (eBin oAdd (eBin oAdd (eBin oMul (eBin oIx (eVar 0) (eC (.int 1))) (eVar 3)) (eBin oMul (eC (.int 52361)) (eBin oIx (eVar 0) (eC (.int 2))))) (eC (.int 13))) aNil)) (eC (.int 2147483549))))
  (sRet (eBin oMod (eCall oInt (aCons (eBin oFdiv (eBin oIx (eVar 0) (eC (.int 1))) (eC (.int 251))) aNil)) (eVar 1)))))))
def G__law_take : List D → Wl → Res := fun ds w => runG 4 g__law_take ds w
def g__law_of : SG :=
  (sRet (eBin oIx (eVar 1) (eFn 2 G__law_take (aCons (eVar 0) (aCons (eCall oLen (aCons (eVar 1) aNil)) aNil)))))
def G__law_of : List D → Wl → Res := fun ds w => runG 2 g__law_of ds w
def g__law_low : SG :=
  (sSeq (sPar 2 3 (aCons (eCall oAbs (aCons (eVar 0) aNil)) (aCons (eVar 1) aNil)))
  (sSeq (sWhile (fuInt 3) (eBin oGt (eVar 3) (eC (.int 0))) (sPar 2 3 (aCons (eVar 3) (aCons (eBin oMod (eCall oInt (aCons (eVar 2) aNil)) (eVar 3)) aNil))))
  (sRet (eTup (aCons (eBin oFdiv (eVar 0) (eVar 2)) (aCons (eBin oFdiv (eVar 1) (eVar 2)) aNil))))))
def G__law_low : List D → Wl → Res := fun ds w => runG 4 g__law_low ds w
def g__law_grain : SG :=
  (sSeq (sSet 1 (eFn 2 G__law_of (aCons (eVar 0) (aCons (eLst (aCons (eC (.int 4)) (aCons (eC (.int 6)) (aCons (eC (.int 10)) (aCons (eC (.int 12)) (aCons (eC (.int 20)) (aCons (eC (.int 20)) (aCons (eC (.int 36)) (aCons (eC (.int 97)) (aCons (eC (.int 1000)) (aCons (eBin oAdd (eBin oPow (eC (.int 10)) (eC (.int 9))) (eC (.int 7))) (aCons (eBin oAdd (eBin oPow (eC (.int 10)) (eC (.int 24))) (eC (.int 7))) aNil)))))))))))) aNil))))
  (sRet (eLst (aCons (eVar 1) (aCons (eCall oMax (aCons (eC (.int 1)) (aCons (eBin oFdiv (eVar 1) (eFn 2 G__law_of (aCons (eVar 0) (aCons (eLst (aCons (eC (.int 1)) (aCons (eC (.int 2)) (aCons (eC (.int 3)) (aCons (eC (.int 3)) (aCons (eC (.int 4)) (aCons (eC (.int 6)) aNil))))))) aNil)))) aNil))) aNil)))))
def G__law_grain : List D → Wl → Res := fun ds w => runG 2 g__law_grain ds w
def g__law_number : SG :=
  (sSeq (sAsg (eVar 1) (bTupN 2 (bCons (bName 2) (bCons (bName 3) bNil))))
  (sSeq (sIf (eBin oLt (eVar 3) (eBin oPow (eC (.int 10)) (eC (.int 6)))) (sRet (eFn 2 G__law_low (aCons (eFn 2 G__law_take (aCons (eVar 0) (aCons (eBin oAdd (eVar 3) (eC (.int 1))) aNil))) (aCons (eVar 2) aNil)))) sPass)
  (sRet (eFn 2 G__law_low (aCons (eBin oAdd (eBin oMul (eBin oFdiv (eVar 3) (eBin oPow (eC (.int 10)) (eC (.int 6)))) (eFn 2 G__law_take (aCons (eVar 0) (aCons (eBin oPow (eC (.int 10)) (eC (.int 6))) aNil)))) (eFn 2 G__law_take (aCons (eVar 0) (aCons (eC (.int 1000)) aNil)))) (aCons (eVar 2) aNil))))))
def G__law_number : List D → Wl → Res := fun ds w => runG 4 g__law_number ds w
def g__law_corner : SG :=
  (sSeq (sSet 4 (eIf (eBin oGt (eFn 2 G__law_take (aCons (eVar 0) (aCons (eC (.int 8)) aNil))) (eC (.int 0))) (eFn 2 G__law_of (aCons (eVar 0) (aCons (eVar 2) aNil))) (eVar 1)))
  (sSeq (sOwn 5 (eBin oMulL (eLst (aCons (eC .non) aNil)) (eVar 1)))
  (sSeq (sFor (gSeq (eVar 2)) (bName 6) (sIf (eOr (eBin oEq (eVar 6) (eVar 4)) (eBin oEq (eFn 2 G__law_take (aCons (eVar 0) (aCons (eC (.int 2)) aNil))) (eC (.int 0)))) (sPut 5 (eVar 6) (eIf (eBin oGt (eFn 2 G__law_take (aCons (eVar 0) (aCons (eC (.int 12)) aNil))) (eC (.int 0))) (eFn 2 G__law_number (aCons (eVar 0) (aCons (eVar 3) aNil))) (eFn 2 G__law_of (aCons (eVar 0) (aCons (eLst (aCons (eTup (aCons (eC (.int 0)) (aCons (eC (.int 1)) aNil))) (aCons (eTup (aCons (eC (.int 1)) (aCons (eC (.int 1)) aNil))) aNil))) aNil))))) sPass))
  (sRet (eCall oTup (aCons (eOwn 5) aNil))))))
def G__law_corner : List D → Wl → Res := fun ds w => runG 7 g__law_corner ds w
def g__law_at_most : SG :=
  (sRet (eBin oLe (eBin oMul (eBin oIx (eVar 0) (eC (.int 0))) (eBin oIx (eVar 1) (eC (.int 1)))) (eBin oMul (eBin oIx (eVar 1) (eC (.int 0))) (eBin oIx (eVar 0) (eC (.int 1))))))
def G__law_at_most : List D → Wl → Res := fun ds w => runG 2 g__law_at_most ds w
def g__law_sets : SG :=
  (sSeq (sSet 1 (eLst aNil))
  (sSeq (sFor (gRngD (aCons (eBin oSub (eVar 0) (eC (.int 1))) (aCons (eUn oNeg (eC (.int 1))) (aCons (eUn oNeg (eC (.int 1))) aNil)))) (bName 2) (sSet 1 (eBin oAdd (eBin oAdd (eLst (aCons (eTup (aCons (eVar 2) aNil)) aNil)) (eLc (gSeq (eVar 1)) (bName 3) eYes (eBin oAdd (eTup (aCons (eVar 2) aNil)) (eVar 3)) [3])) (eVar 1))))
  (sRet (eVar 1))))
def G__law_sets : List D → Wl → Res := fun ds w => runG 4 g__law_sets ds w
def g__law_within : SG :=
  (sRet (eCall oAll (aCons (eLc (gRng1 (aCons (eCall oLen (aCons (eVar 1) aNil)) aNil)) (bName 2) eYes (eOr (eBin oIs (eBin oIx (eVar 1) (eVar 2)) (eC .non)) (eFn 2 G__law_at_most (aCons (eBin oIx (eVar 0) (eVar 2)) (aCons (eBin oIx (eVar 1) (eVar 2)) aNil)))) [2]) aNil)))
def G__law_within : List D → Wl → Res := fun ds w => runG 3 g__law_within ds w
def g__law_frame : SG :=
  (sSeq (sAsg (eTup (aCons (eFn 1 G__law_sets (aCons (eVar 1) aNil)) (aCons (eFn 2 G__law_take (aCons (eVar 0) (aCons (eC (.int 3)) aNil))) aNil))) (bTupN 2 (bCons (bName 2) (bCons (bName 3) bNil))))
  (sSeq (sSet 4 (eLc (gSeq (eVar 2)) (bName 5) (eOr (eBin oEq (eVar 3) (eC (.int 0))) (eBin oGe (eFn 2 G__law_take (aCons (eVar 0) (aCons (eC (.int 4)) aNil))) (eVar 3))) (eVar 5) [5]))
  (sRet (eTup (aCons (eVar 1) (aCons (eCall oTup (aCons (eIf (eBin oNe (eVar 4) (eLst aNil)) (eVar 4) (eLst (aCons (eFn 2 G__law_of (aCons (eVar 0) (aCons (eVar 2) aNil))) aNil))) aNil)) aNil))))))
def G__law_frame : List D → Wl → Res := fun ds w => runG 6 g__law_frame ds w
def g__law_inside : SG :=
  (sSeq (sFor (gRng1 (aCons (eCall oLen (aCons (eVar 0) aNil)) aNil)) (bName 2) (sIf (eNot (eUn oTru (eFn 2 G__law_at_most (aCons (eIf (eBin oNot (eBin oIx (eVar 0) (eVar 2)) (eC .non)) (eBin oIx (eVar 0) (eVar 2)) (eTup (aCons (eC (.int 1)) (aCons (eC (.int 1)) aNil)))) (aCons (eIf (eBin oNot (eBin oIx (eVar 1) (eVar 2)) (eC .non)) (eBin oIx (eVar 1) (eVar 2)) (eTup (aCons (eC (.int 1)) (aCons (eC (.int 1)) aNil)))) aNil))))) (sRet (eC (.bl false))) sPass))
  (sRet (eC (.bl true))))
def G__law_inside : List D → Wl → Res := fun ds w => runG 3 g__law_inside ds w
def g__law_above : SG :=
  (sRet (eLc (gSeq (eBin oIx (eVar 0) (eC (.int 1)))) (bName 2) (eAnd (eBin oNe (eVar 2) (eVar 1)) (eBin oEq (eLc (gSeq (eVar 1)) (bName 3) (eBin oNotIn (eVar 3) (eVar 2)) (eVar 3) [3]) (eLst aNil))) (eVar 2) [2]))
def G__law_above : List D → Wl → Res := fun ds w => runG 4 g__law_above ds w
def g__law_bars : SG :=
  (sSeq (sPM2 false true 4 5 (aCons (eLc (gSeq (eBin oIx (eVar 1) (eC (.int 1)))) (bName 6) (eBin oEq (eFn 2 G__law_above (aCons (eVar 1) (aCons (eVar 6) aNil))) (eLst aNil)) (eVar 6) [6]) (aCons (eLst aNil) aNil)))
  (sSeq (sFor (gRng1 (aCons (eVar 3) aNil)) (bName 7) (sSeq (sSet 8 (eFn 2 G__law_take (aCons (eVar 0) (aCons (eC (.int 8)) aNil))))
  (sSeq (sSet 6 (eIf (eBin oEq (eVar 8) (eC (.int 0))) (eFn 2 G__law_of (aCons (eVar 0) (aCons (eFn 1 G__law_sets (aCons (eBin oIx (eVar 1) (eC (.int 0))) aNil)) aNil))) (eFn 2 G__law_of (aCons (eVar 0) (aCons (eIf (eBin oLt (eVar 8) (eC (.int 5))) (eVar 4) (eBin oIx (eVar 1) (eC (.int 1)))) aNil)))))
  (sApp 5 (eTup (aCons (eVar 6) (aCons (eFn 4 G__law_corner (aCons (eVar 0) (aCons (eBin oIx (eVar 1) (eC (.int 0))) (aCons (eCall oLst (aCons (eVar 6) aNil)) (aCons (eVar 2) aNil))))) aNil)))))))
  (sRet (eCall oTup (aCons (eOwn 5) aNil)))))
def G__law_bars : List D → Wl → Res := fun ds w => runG 9 g__law_bars ds w
def g__law_possible : SG :=
  (sSeq (sOwn 3 (eLst (aCons (eTup aNil) aNil)))
  (sSeq (sFor (gSeq (eBin oIx (eVar 0) (eC (.int 1)))) (bName 4) (sIf (eNot (eUn oTru (eCall oAny (aCons (eLc (gSeq (eVar 1)) (bName 5) eYes (eAnd (eBin oEq (eBin oIx (eVar 5) (eC (.int 0))) (eVar 4)) (eFn 2 G__law_within (aCons (eVar 2) (aCons (eBin oIx (eVar 5) (eC (.int 1))) aNil)))) [5]) aNil)))) (sApp 3 (eVar 4)) sPass))
  (sRetOwn 3)))
def G__law_possible : List D → Wl → Res := fun ds w => runG 6 g__law_possible ds w
def g__law_bar_cells : SG :=
  (sSeq (sSet 2 (eLst (aCons (eTup aNil) aNil)))
  (sSeq (sFor (gRng1 (aCons (eVar 0) aNil)) (bName 3) (sSeq (sOwn 4 (eLst (aCons (eTup (aCons (eC (.int 1)) (aCons (eC (.int 1)) aNil))) aNil)))
  (sSeq (sFor (gSeq (eVar 1)) (bTupN 2 (bCons (bName 5) (bCons (bName 6) bNil))) (sIf (eAnd (eBin oNot (eBin oIx (eVar 6) (eVar 3)) (eC .non)) (eBin oNotIn (eBin oIx (eVar 6) (eVar 3)) (eOwn 4))) (sApp 4 (eBin oIx (eVar 6) (eVar 3))) sPass))
  (sSeq (sSet 7 (eLst aNil))
  (sSeq (sFor (gSeq (eVar 2)) (bName 8) (sSet 7 (eBin oAdd (eVar 7) (eLc (gSeq (eOwn 4)) (bName 9) eYes (eBin oAdd (eVar 8) (eTup (aCons (eVar 9) aNil))) [9]))))
  (sSet 2 (eVar 7)))))))
  (sRet (eVar 2))))
def G__law_bar_cells : List D → Wl → Res := fun ds w => runG 10 g__law_bar_cells ds w
end LW

/-! What the program's functions answer: fractions, corners, books. -/
namespace PF
open PySem PySem.Spec L2 DL
open PyProof.Rows hiding St
/-! ### fractions -/
def encQ (q : Fr) : D := .tup [.int q.1, .int q.2]
theorem eqs_fr : Eqs encQ := eqs_int.pair eqs_int
theorem shp_fr (q : Fr) : Shp 1 (encQ q) := shp_tup (shp_two (shp_int _ 0) (shp_int _ 0))
/-- a fraction in lowest terms -/
def QF (q : Fr) : Prop := 0 < q.2 ∧ Nat.gcd q.1.natAbs q.2.natAbs = 1
def Sz (B : Nat) (q : Fr) : Prop := q.1.natAbs < 2 ^ B ∧ q.2.natAbs < 2 ^ B
def isNum (B : Nat) (q : Fr) : Prop := QF q ∧ (0 ≤ q.1 ∧ q.1 ≤ q.2) ∧ Sz B q
theorem log_le {x B : Nat} (h : x < 2 ^ B) : x.log2 ≤ B := by
  by_cases z : x = 0
  · rw [z]; exact Nat.zero_le _
  · exact Nat.le_of_lt ((Nat.log2_lt z).mpr h)
theorem mulW {i j : Int} {B C : Nat} (hi : i.natAbs < 2 ^ B) (hj : j.natAbs < 2 ^ C) (h : B + C < 1000000) : CMulW i j := by
  have := log_le hi
  have := log_le hj
  unfold CMulW
  omega
theorem divW {i j : Int} {B : Nat} (h0 : 0 < j) (hj : j.natAbs < 2 ^ B) (h : B < 9000) : CDivW i j := ⟨h0, by have := log_le hj; omega⟩
section
variable {w w1 w2 : Wl} {en : List Sl} {ga gb : EG}
theorem mul_ev {i j : Int} {B C : Nat} (h1 : ga en w = .ok (.int i) w1) (h2 : gb en w1 = .ok (.int j) w2) (hi : i.natAbs < 2 ^ B) (hj : j.natAbs < 2 ^ C) (h : B + C < 1000000) : eBin oMul ga gb en w = .ok (.int (i * j)) w2 := by
  refine (bin_ev h1 h2).trans ?_
  show (if decide (CMulW i j) then Res.ok (.int (i * j)) w2 else .bad) = _
  rw [decide_eq_true (mulW hi hj h)]
  rfl
theorem fdiv_ev {i j : Int} {B : Nat} (h1 : ga en w = .ok (.int i) w1) (h2 : gb en w1 = .ok (.int j) w2) (h0 : 0 < j) (hj : j.natAbs < 2 ^ B) (h : B < 9000) : eBin oFdiv ga gb en w = .ok (.int (i / j)) w2 := by
  refine (bin_ev h1 h2).trans ?_
  show (if decide (CDivW i j) then Res.ok (.int (i / j)) w2 else .bad) = _
  rw [decide_eq_true (divW h0 hj h)]
  rfl
theorem mod_ev {i j : Int} (h1 : ga en w = .ok (.int i) w1) (h2 : gb en w1 = .ok (.int j) w2) (h0 : 0 < j) : eBin oMod ga gb en w = .ok (.int (i % j)) w2 := by
  refine (bin_ev h1 h2).trans ?_
  show (if decide (0 < j) then Res.ok (.int (i % j)) w2 else .bad) = _
  rw [decide_eq_true h0]
  rfl
theorem add_ev {i j : Int} (h1 : ga en w = .ok (.int i) w1) (h2 : gb en w1 = .ok (.int j) w2) : eBin oAdd ga gb en w = .ok (.int (i + j)) w2 := (bin_ev h1 h2).trans rfl
theorem le_ev {i j : Int} (h1 : ga en w = .ok (.int i) w1) (h2 : gb en w1 = .ok (.int j) w2) : eBin oLe ga gb en w = .ok (.bl (decide (i ≤ j))) w2 := (bin_ev h1 h2).trans rfl
theorem gt_ev {i j : Int} (h1 : ga en w = .ok (.int i) w1) (h2 : gb en w1 = .ok (.int j) w2) : eBin oGt ga gb en w = .ok (.bl (decide (j < i))) w2 := (bin_ev h1 h2).trans rfl
theorem ge_ev {i j : Int} (h1 : ga en w = .ok (.int i) w1) (h2 : gb en w1 = .ok (.int j) w2) : eBin oGe ga gb en w = .ok (.bl (decide (j ≤ i))) w2 := (bin_ev h1 h2).trans rfl
theorem eqi_ev {i j : Int} (h1 : ga en w = .ok (.int i) w1) (h2 : gb en w1 = .ok (.int j) w2) : eBin oEq ga gb en w = .ok (.bl (decide (i = j))) w2 := (bin_ev h1 h2).trans (oEq_ev (w := w2) eqs_int i j (shp_int _ 0) (shp_int _ 0))
end
section
variable {w : Wl}
theorem is_at_most_ev {B C : Nat} {q r : Fr} (hq : Sz B q) (hr : Sz C r) (h : B + C < 1000000) : G_is_at_most [encQ q, encQ r] w = .ok (.bl (decide (leQ q r))) w :=
  run_rt (ret_ev (le_ev (mul_ev (w1 := w) (w2 := w) (i := q.1) (j := r.2) rfl rfl hq.1 hr.2 h) (mul_ev (w1 := w) (w2 := w) (i := r.1) (j := q.2) rfl rfl hr.1 hq.2 (by omega))))
theorem is_fraction_ok {q : Fr} (h : QF q) : G_is_fraction [encQ q] w = .ok (.bl true) w := by
  have e0 := is_row_tup (w := w) [.int q.1, .int q.2] 2
  refine run_rt ((ifF_seq (w1 := w) (not_ev (c := true) (tru_ev ((efn_ev rfl rfl).trans e0)))).trans ((asg_seq (en1 := [.dat (encQ q), .dat (.int q.1), .dat (.int q.2)]) (w1 := w) rfl rfl).trans (ret_ev ?_)))
  refine (and_T (w1 := w) ((efn_ev rfl rfl).trans (is_whole_int q.1))).trans ((and_T (w1 := w) ((efn_ev rfl rfl).trans (is_whole_int q.2))).trans ((and_T (w1 := w) ((gt_ev (w1 := w) (w2 := w) (i := q.2) (j := 0) rfl rfl).trans (by rw [decide_eq_true h.1]))).trans ?_))
  exact (eqi_ev (w1 := w) (w2 := w) (i := (Nat.gcd q.1.natAbs q.2.natAbs : Nat)) (j := 1) rfl rfl).trans (by rw [h.2]; rfl)
theorem is_number_ok {B : Nat} {q : Fr} (h : isNum B q) : G_is_number [encQ q] w = .ok (.bl true) w := by
  refine run_rt (ret_ev ((and_T (w1 := w) ((efn_ev rfl rfl).trans (is_fraction_ok h.1))).trans ?_))
  show ((Res.ok (.bl (decide ((0 : Int) ≤ q.1))) w).bind fun k w3 => match k with | .bl true => (Res.ok (.int q.2) w3).bind fun z w4 => oLe (.int q.1) z w4 | .bl false => .ok (.bl false) w3 | _ => .bad) = _
  rw [decide_eq_true h.2.1.1]
  show Res.ok (.bl (decide (q.1 ≤ q.2))) w = _
  rw [decide_eq_true h.2.1.2]
/-! ### limits, corners -/
abbrev Lim := Option Fr
def encL : Lim → D
  | none => .non
  | some q => encQ q
abbrev Cor := List Lim
def encC (c : Cor) : D := .tup (c.map encL)
def numL (B : Nat) (l : Lim) : Prop := ∀ q, l = some q → isNum B q
def isCor (B n : Nat) (c : Cor) : Prop := c.length = n ∧ ∀ l ∈ c, numL B l
theorem is_limit_ok {B : Nat} {l : Lim} (h : numL B l) : G_is_limit [encL l] w = .ok (.bl true) w := by
  cases l with
  | none => exact run_rt (ret_ev (or_T (w1 := w) rfl))
  | some q => exact run_rt (ret_ev ((or_F (w1 := w) rfl).trans ((efn_ev rfl rfl).trans (is_number_ok (h q rfl)))))
theorem is_corner_ok {B n : Nat} {c : Cor} (h : isCor B n c) (hn : n ≤ 1000) : G_is_corner [.int n, encC c] w = .ok (.bl true) w := by
  have e0 := is_row_tup (w := w) (c.map encL) n
  rw [List.length_map, h.1, decide_eq_true rfl] at e0
  refine run_rt (ret_ev ((and_T (w1 := w) ((efn_ev rfl rfl).trans e0)).trans ?_))
  refine (all_ev encL (fun _ => true) c rfl (szL (by rw [h.1]; exact hn)) fun l hl => ⟨_, rfl, (efn_ev (ds := [encL l]) (w1 := w) rfl rfl).trans (is_limit_ok (B := B) (h.2 l hl))⟩).trans (by simp)
/-! ### sayings, books -/
/-! ### numbers -/
def encN (p : List Fr) : D := .tup (p.map encQ)
def isNums (B n : Nat) (p : List Fr) : Prop := p.length = n ∧ ∀ q ∈ p, isNum B q
theorem check_frame_ok (n : Nat) (h1 : 1 ≤ n) (h2 : n ≤ 5) (ls : List IS) (h0 : ls ≠ []) (h : ∀ s ∈ ls, isSet n s) (ho : ls.Pairwise fun s t => HT.lexLt s t = true) (hl : ls.length ≤ 1000) : G_check_frame [encF (n, ls)] w = .ok .non w :=
  run_nx (en1 := [.dat (encF (n, ls))]) ((ifF (w1 := w) (not_ev (c := true) (tru_ev ((efn_ev rfl rfl).trans (is_frame_ok n h1 h2 ls h0 h ho hl))))).trans rfl)
/-! ### what sayings say -/
def inL (q : Fr) : Lim → Bool
  | none => true
  | some r => decide (leQ q r)
def isWithin (p : List Fr) (c : Cor) : Bool := (p.zip c).all fun x => inL x.1 x.2
theorem zip_map2 {α β : Type} (en1 : α → D) (en2 : β → D) : ∀ (xs : List α) (ys : List β), pairsZ (xs.map en1) (ys.map en2) = (xs.zip ys).map fun p => .tup [en1 p.1, en2 p.2]
  | [], _ => rfl
  | _ :: _, [] => rfl
  | x :: xs, y :: ys => by
    have := zip_map2 en1 en2 xs ys
    unfold pairsZ at this ⊢
    simp [this]
end
end PF

/-! What the laws' own helpers answer. -/
namespace LW
open PySem PySem.Spec L2 DL PF
open PyProof.Rows hiding St
theorem take {k : Nat} {w : Wl} {m : Int} (h : Wk (k + 1) w) (h0 : 0 < m) (h1 : m < 1073741824) : ∃ d w', G__law_take [.well, .int m] w = .ok (.int d) w' ∧ 0 ≤ d ∧ d < m ∧ Wk k w' := take_ok h h0 h1
theorem small_nat {n : Nat} (h : n ≤ 1000) : small (n : Int) = true := by
  unfold small
  simp
  omega
theorem upto_len (n : Nat) : (upto n).length = n := by simp [upto]
/-! ### one of some things -/
theorem of_ev {α : Type} {k : Nat} {w : Wl} (enc : α → D) (xs : List α) (h : Wk (k + 1) w) (h0 : xs ≠ []) (h1 : xs.length ≤ 1000) : ∃ x w', G__law_of [.well, .lst (xs.map enc)] w = .ok (enc x) w' ∧ x ∈ xs ∧ Wk k w' := by
  have hp : 0 < xs.length := List.length_pos_iff.mpr h0
  obtain ⟨d, w', e, d0, d1, k1⟩ := take (k := k) (m := xs.length) h (by omega) (by omega)
  have hd : d.toNat < xs.length := by omega
  refine ⟨xs[d.toNat], w', run_rt (ret_ev ?_), List.getElem_mem hd, k1⟩
  have e1 : (eFn 2 G__law_take (aCons (eVar 0) (aCons (eCall oLen (aCons (eVar 1) aNil)) aNil))) [.dat .well, .dat (.lst (xs.map enc))] w = .ok (.int d) w' := by
    refine (efn_ev (ds := [.well, .int xs.length]) (w1 := w) (cons_ev rfl (one_ev ((len_ev (ds := xs.map enc) (w1 := w) rfl).trans (by rw [List.length_map])))) rfl).trans e
  refine (bin_ev (w1 := w) (d := .lst (xs.map enc)) rfl e1).trans ?_
  have hx : ixN (xs.map enc).length d = some d.toNat := by
    unfold ixN
    rw [List.length_map]
    simp [d0, d1]
  show (match atI (xs.map enc) d with | some z => Res.ok z w' | none => .bad) = _
  unfold atI
  rw [hx]
  simp [hd]
/-! ### fractions in lowest terms -/
theorem low_loop {w : Wl} (d0 d1 : D) : ∀ (fu : Nat) (a b : Nat), b < fu → whileG (eBin oGt (eVar 3) (eC (.int 0))) (sPar 2 3 (aCons (eVar 3) (aCons (eBin oMod (eCall oInt (aCons (eVar 2) aNil)) (eVar 3)) aNil))) fu [.dat d0, .dat d1, .dat (.int a), .dat (.int b)] w = .nx [.dat d0, .dat d1, .dat (.int (Nat.gcd a b : Nat)), .dat (.int 0)] w
  | 0, a, b, h => by omega
  | fu + 1, a, b, h => by
    have e1 : (eBin oGt (eVar 3) (eC (.int 0))) [.dat d0, .dat d1, .dat (.int a), .dat (.int b)] w = .ok (.bl (decide ((0 : Int) < b))) w := rfl
    by_cases hb : b = 0
    · subst hb
      simp only [whileG, e1, Res.thn]
      simp
    · have hb2 : (0 : Int) < b := by omega
      have e2 : sPar 2 3 (aCons (eVar 3) (aCons (eBin oMod (eCall oInt (aCons (eVar 2) aNil)) (eVar 3)) aNil)) [.dat d0, .dat d1, .dat (.int a), .dat (.int b)] w = .nx [.dat d0, .dat d1, .dat (.int b), .dat (.int ((a % b : Nat)))] w := by
        have e3 : (aCons (eVar 3) (aCons (eBin oMod (eCall oInt (aCons (eVar 2) aNil)) (eVar 3)) aNil)) [.dat d0, .dat d1, .dat (.int a), .dat (.int b)] w = .ok [.int b, .int ((a % b : Nat))] w := by
          refine cons_ev rfl (one_ev ?_)
          refine (mod_ev (w1 := w) (w2 := w) (i := (a : Int)) (j := (b : Int)) rfl rfl hb2).trans ?_
          simp
        simp only [sPar, e3, AR.thn]
        rfl
      have ih := low_loop (w := w) d0 d1 fu b (a % b) (by have := Nat.mod_lt a (by omega : b > 0); omega)
      rw [decide_eq_true hb2] at e1
      simp only [whileG, e1, Res.thn, e2, ih]
      have : Nat.gcd b (a % b) = Nat.gcd a b := by
        rw [Nat.gcd_comm b (a % b), ← Nat.gcd_rec, Nat.gcd_comm]
      rw [this]
def lowQ (n : Int) (m : Int) : Fr := (n / (Nat.gcd n.natAbs m.natAbs : Nat), m / (Nat.gcd n.natAbs m.natAbs : Nat))
theorem low_ev {w : Wl} {B : Nat} (n m : Int) (hm : 0 < m) (hB : m.natAbs < 2 ^ B) (h : B < 9000) : G__law_low [.int n, .int m] w = .ok (encQ (lowQ n m)) w := by
  have e := low_loop (w := w) (.int n) (.int m) (m.natAbs + 1) n.natAbs m.natAbs (by omega)
  have hg : 0 < Nat.gcd n.natAbs m.natAbs := Nat.gcd_pos_of_pos_right _ (by omega)
  have hgB : (((Nat.gcd n.natAbs m.natAbs : Nat) : Int)).natAbs < 2 ^ B := by
    have := Nat.gcd_le_right n.natAbs (show 0 < m.natAbs by omega)
    rw [Int.natAbs_natCast]
    omega
  have hab : (if n < 0 then -n else n) = (n.natAbs : Int) := by split <;> omega
  have e0 : sPar 2 3 (aCons (eCall oAbs (aCons (eVar 0) aNil)) (aCons (eVar 1) aNil)) [.dat (.int n), .dat (.int m), .non, .non] w = .nx [.dat (.int n), .dat (.int m), .dat (.int n.natAbs), .dat (.int m.natAbs)] w := by
    show Out.nx [.dat (.int n), .dat (.int m), .dat (.int (if n < 0 then -n else n)), .dat (.int m)] w = _
    rw [hab, show (m.natAbs : Int) = m by omega]
  refine run_rt ((seq_nx e0).trans ((seq_nx (en1 := [.dat (.int n), .dat (.int m), .dat (.int (Nat.gcd n.natAbs m.natAbs : Nat)), .dat (.int 0)]) (w1 := w) ?_).trans (ret_ev ?_)))
  · show whileG _ _ ((m.natAbs : Int).toNat + 1) _ w = _
    rw [Int.toNat_natCast]
    exact e
  · exact etup_ev (cons_ev (fdiv_ev (w1 := w) (w2 := w) rfl rfl (by omega) hgB h) (one_ev (fdiv_ev (w1 := w) (w2 := w) rfl rfl (by omega) hgB h))) (show 2 ≤ sizeLine by decide)
theorem lowQ_nat (n m : Nat) : lowQ n m = (((n / Nat.gcd n m : Nat) : Int), ((m / Nat.gcd n m : Nat) : Int)) := by
  unfold lowQ
  simp
theorem lowQ_num {B : Nat} (n m : Nat) (hm : 0 < m) (hn : n ≤ m) (hB : m < 2 ^ B) : isNum B (lowQ n m) := by
  rw [lowQ_nat]
  have hg : 0 < Nat.gcd n m := Nat.gcd_pos_of_pos_right _ hm
  have h1 : n / Nat.gcd n m ≤ n := Nat.div_le_self _ _
  have h2 : m / Nat.gcd n m ≤ m := Nat.div_le_self _ _
  have h3 : n / Nat.gcd n m ≤ m / Nat.gcd n m := Nat.div_le_div_right hn
  have h4 : 0 < m / Nat.gcd n m := Nat.div_pos (Nat.le_of_dvd hm (Nat.gcd_dvd_right n m)) hg
  refine ⟨⟨Int.ofNat_lt.mpr h4, ?_⟩, ⟨Int.natCast_nonneg _, Int.ofNat_le.mpr h3⟩, ?_, ?_⟩
  · show Nat.gcd (((n / Nat.gcd n m : Nat) : Int)).natAbs (((m / Nat.gcd n m : Nat) : Int)).natAbs = 1
    rw [Int.natAbs_natCast, Int.natAbs_natCast]
    have := Nat.gcd_div (Nat.gcd_dvd_left n m) (Nat.gcd_dvd_right n m)
    rw [this, Nat.div_self hg]
  · show (((n / Nat.gcd n m : Nat) : Int)).natAbs < 2 ^ B
    rw [Int.natAbs_natCast]
    exact Nat.lt_of_le_of_lt (Nat.le_trans h1 hn) hB
  · show (((m / Nat.gcd n m : Nat) : Int)).natAbs < 2 ^ B
    rw [Int.natAbs_natCast]
    exact Nat.lt_of_le_of_lt h2 hB
theorem at_most_ev {w : Wl} {B C : Nat} {q r : Fr} (hq : Sz B q) (hr : Sz C r) (h : B + C < 1000000) : G__law_at_most [encQ q, encQ r] w = .ok (.bl (decide (leQ q r))) w := is_at_most_ev hq hr h
/-! ### grains, numbers, corners -/
/-- a base and the greatest part of it -/
def isGrain (b t : Int) : Prop := 4 ≤ b ∧ b < 2 ^ 90 ∧ 1 ≤ t ∧ t ≤ b ∧ (t < 1000000 ∨ t / 1000000 * 999999 + 999 ≤ b)
def encG (b t : Int) : D := .lst [.int b, .int t]
def bases : IS := [4, 6, 10, 12, 20, 20, 36, 97, 1000, 10 ^ 9 + 7, 10 ^ 24 + 7]
theorem grains_ok : ∀ b ∈ bases, ∀ p ∈ ([1, 2, 3, 3, 4, 6] : IS), 4 ≤ b ∧ b < 2 ^ 90 ∧ (if b / p > 1 then b / p else 1) ≤ b ∧ ((if b / p > 1 then b / p else 1) < 1000000 ∨ (if b / p > 1 then b / p else 1) / 1000000 * 999999 + 999 ≤ b) ∧ 0 < p ∧ p.natAbs < 2 ^ 90 := by decide
theorem grain_ev {k : Nat} {w : Wl} (h : Wk (k + 2) w) : ∃ b t w', G__law_grain [.well] w = .ok (encG b t) w' ∧ isGrain b t ∧ Wk k w' := by
  obtain ⟨b, w1, e1, hb, k1⟩ := of_ev (k := k + 1) D.int bases h (by decide) (by decide)
  obtain ⟨p, w2, e2, hp, k2⟩ := of_ev (k := k) D.int ([1, 2, 3, 3, 4, 6] : IS) k1 (by decide) (by decide)
  obtain ⟨g1, g2, g3, g4, g5, g6⟩ := grains_ok b hb p hp
  refine ⟨b, if b / p > 1 then b / p else 1, w2, run_rt ((set_seq (w1 := w1) ((efn_ev (ds := [.well, .lst (bases.map .int)]) (w1 := w) rfl rfl).trans e1)).trans (ret_ev ?_)), ⟨g1, g2, by split <;> omega, g3, g4⟩, k2⟩
  refine elst_ev (cons_ev (w1 := w1) rfl (one_ev ?_)) (show 2 ≤ sizeLine by decide)
  have ed : (eBin oFdiv (eVar 1) (eFn 2 G__law_of (aCons (eVar 0) (aCons (eLst (aCons (eC (.int 1)) (aCons (eC (.int 2)) (aCons (eC (.int 3)) (aCons (eC (.int 3)) (aCons (eC (.int 4)) (aCons (eC (.int 6)) aNil))))))) aNil)))) [.dat .well, .dat (.int b)] w1 = .ok (.int (b / p)) w2 :=
    fdiv_ev (w1 := w1) (B := 90) rfl ((efn_ev (ds := [.well, .lst (([1, 2, 3, 3, 4, 6] : IS).map .int)]) (w1 := w1) rfl rfl).trans e2) g5 g6 (by omega)
  exact (call_ev (cons_ev (w1 := w1) rfl (one_ev ed))).trans rfl
theorem pow6 {en : List Sl} {w : Wl} : eBin oPow (eC (.int 10)) (eC (.int 6)) en w = .ok (.int 1000000) w := rfl
theorem number_ev {k : Nat} {w : Wl} {b t : Int} (hg : isGrain b t) (h : Wk (k + 2) w) : ∃ q w', G__law_number [.well, encG b t] w = .ok (encQ q) w' ∧ isNum 90 q ∧ Wk k w' := by
  obtain ⟨g1, g2, g3, g4, g5⟩ := hg
  have hbB : b.natAbs < 2 ^ 90 := by omega
  by_cases ht : t < 1000000
  · obtain ⟨d, w1, e1, d0, d1, k1⟩ := take (k := k + 1) (m := t + 1) h (by omega) (by omega)
    obtain ⟨n, rfl⟩ : ∃ n : Nat, d = n := ⟨d.toNat, by omega⟩
    obtain ⟨m, rfl⟩ : ∃ m : Nat, b = m := ⟨b.toNat, by omega⟩
    refine ⟨lowQ n m, w1, run_rt ((asg_seq (en1 := [.dat .well, .dat (encG m t), .dat (.int m), .dat (.int t)]) (w1 := w) rfl rfl).trans ((ifT_seq (w1 := w) ?_).trans ?_)), lowQ_num n m (by omega) (by omega) (by omega), k1.mono (by omega)⟩
    · refine (bin_ev (w1 := w) (d := .int t) rfl pow6).trans ((oLt_int _ _).trans ?_)
      rw [decide_eq_true ht]
    · have e2 : (eFn 2 G__law_low (aCons (eFn 2 G__law_take (aCons (eVar 0) (aCons (eBin oAdd (eVar 3) (eC (.int 1))) aNil))) (aCons (eVar 2) aNil))) [.dat .well, .dat (encG m t), .dat (.int m), .dat (.int t)] w = .ok (encQ (lowQ n m)) w1 :=
        (efn_ev (ds := [.int n, .int m]) (w1 := w1) (cons_ev (w1 := w1) ((efn_ev (ds := [.well, .int (t + 1)]) (w1 := w) rfl rfl).trans e1) rfl) rfl).trans (low_ev (B := 90) n m (by omega) hbB (by omega))
      simp only [sSeq, sRet, e2, Res.thn, Out.seq]
  · have g6 : t / 1000000 * 999999 + 999 ≤ b := g5.resolve_left ht
    obtain ⟨d, w1, e1, d0, d1, k1⟩ := take (k := k + 1) (m := 1000000) h (by omega) (by omega)
    obtain ⟨e, w2, e2, f0, f1, k2⟩ := take (k := k) (m := 1000) k1 (by omega) (by omega)
    have h0 : 0 ≤ t / 1000000 := Int.ediv_nonneg (by omega) (by omega)
    have hm0 : 0 ≤ t / 1000000 * d := Int.mul_nonneg h0 d0
    have hm1 : t / 1000000 * d ≤ t / 1000000 * 999999 := Int.mul_le_mul_of_nonneg_left (by omega) h0
    obtain ⟨n, hn⟩ : ∃ n : Nat, t / 1000000 * d + e = n := ⟨(t / 1000000 * d + e).toNat, by omega⟩
    obtain ⟨m, rfl⟩ : ∃ m : Nat, b = m := ⟨b.toNat, by omega⟩
    have hq : (t / 1000000).natAbs < 2 ^ 90 := by
      have : t / 1000000 ≤ t := Int.ediv_le_self _ (by omega)
      omega
    refine ⟨lowQ n m, w2, run_rt ((asg_seq (en1 := [.dat .well, .dat (encG m t), .dat (.int m), .dat (.int t)]) (w1 := w) rfl rfl).trans ((ifF_seq (w1 := w) ?_).trans (ret_ev ?_))), lowQ_num n m (by omega) (by omega) (by omega), k2⟩
    · refine (bin_ev (w1 := w) (d := .int t) rfl pow6).trans ((oLt_int _ _).trans ?_)
      rw [decide_eq_false ht]
    · refine (efn_ev (ds := [.int n, .int m]) (w1 := w2) (cons_ev (w1 := w2) ?_ rfl) rfl).trans (low_ev (B := 90) n m (by omega) hbB (by omega))
      rw [← hn]
      refine add_ev (w1 := w1) (mul_ev (w1 := w) (B := 90) (C := 20) (fdiv_ev (w1 := w) (w2 := w) (B := 20) rfl pow6 (by omega) (by decide) (by omega)) ((efn_ev (ds := [.well, .int 1000000]) (w1 := w) rfl rfl).trans e1) hq (by omega) (by omega)) ((efn_ev (ds := [.well, .int 1000]) (w1 := w1) rfl rfl).trans e2)
end LW

/-! What the laws' own helpers answer: corners, frames, books. -/
namespace LW
open PySem PySem.Spec L2 DL PF
open PyProof.Rows hiding St
section
variable {w : Wl} {en : List Sl} {ga gb : EG}
theorem in_sets' {s : IS} {ls : List IS} (h1 : ga en w = .ok (encI s) w) (h2 : gb en w = .ok (encSs ls) w) : eBin oIn ga gb en w = .ok (.bl (decide (s ∈ ls))) w :=
  (bin_ev h1 h2).trans (oInT_ev (w := w) eqs_set s ls shp_set)
theorem notin_set {i : Int} {s : IS} (h1 : ga en w = .ok (.int i) w) (h2 : gb en w = .ok (encI s) w) : eBin oNotIn ga gb en w = .ok (.bl (!decide (i ∈ s))) w :=
  (bin_ev h1 h2).trans (oNotInT_ev (w := w) eqs_int i s (fun z => shp_int z 0))
end
section
variable {w : Wl}
theorem sets_ev (n : Nat) (h1 : 1 ≤ n) (h2 : n ≤ 5) : G__law_sets [.int n] w = .ok (.lst ((ssets n).map encI)) w := by
  have : n = 1 ∨ n = 2 ∨ n = 3 ∨ n = 4 ∨ n = 5 := by omega
  rcases this with rfl | rfl | rfl | rfl | rfl <;> rfl
theorem ix_lst {α : Type} (enc : α → D) {xs : List α} {i : Nat} {x : α} (h : xs[i]? = some x) (w : Wl) : oIx (.lst (xs.map enc)) (.int i) w = .ok (enc x) w := by
  have hl : i < xs.length := (List.getElem?_eq_some_iff.mp h).1
  have hx : ixN (xs.map enc).length (i : Int) = some i := by
    unfold ixN
    rw [List.length_map]
    simp [hl]
  show (match atI (xs.map enc) (i : Int) with | some z => Res.ok z w | none => .bad) = _
  unfold atI
  rw [hx]
  simp [h]
theorem ix_tup {α : Type} (enc : α → D) {xs : List α} {i : Nat} {x : α} (h : xs[i]? = some x) (w : Wl) : oIx (.tup (xs.map enc)) (.int i) w = .ok (enc x) w := by
  have hl : i < xs.length := (List.getElem?_eq_some_iff.mp h).1
  have hx : ixN (xs.map enc).length (i : Int) = some i := by
    unfold ixN
    rw [List.length_map]
    simp [hl]
  show (match atI (xs.map enc) (i : Int) with | some z => Res.ok z w | none => .bad) = _
  unfold atI
  rw [hx]
  simp [h]
end
/-! ### corners -/
def Binds (lot : IS) (c : Cor) : Prop := ∀ (j : Nat) (q : Fr), c[j]? = some (some q) → (j : Int) ∈ lot
def bodyN : SG := (sIf (eOr (eBin oEq (eVar 6) (eVar 4)) (eBin oEq (eFn 2 G__law_take (aCons (eVar 0) (aCons (eC (.int 2)) aNil))) (eC (.int 0)))) (sPut 5 (eVar 6) (eIf (eBin oGt (eFn 2 G__law_take (aCons (eVar 0) (aCons (eC (.int 12)) aNil))) (eC (.int 0))) (eFn 2 G__law_number (aCons (eVar 0) (aCons (eVar 3) aNil))) (eFn 2 G__law_of (aCons (eVar 0) (aCons (eLst (aCons (eTup (aCons (eC (.int 0)) (aCons (eC (.int 1)) aNil))) (aCons (eTup (aCons (eC (.int 1)) (aCons (eC (.int 1)) aNil))) aNil))) aNil))))) sPass)
theorem num0 : isNum 90 (0, 1) := ⟨⟨by decide, by decide⟩, ⟨by decide, by decide⟩, by decide, by decide⟩
theorem num1 : isNum 90 (1, 1) := ⟨⟨by decide, by decide⟩, ⟨by decide, by decide⟩, by decide, by decide⟩
theorem bodyN_ev {k : Nat} {w : Wl} {b t : Int} (hg : isGrain b t) (n : Nat) (hn : n ≤ 1000) (lot : IS) (i : Int) (hi : i ∈ lot) (hi2 : 0 ≤ i ∧ i < n) (sure : Int) (c : Cor) (hc : isCor 90 n c) (hb : Binds lot c) (h : Wk (k + 4) w) :
    ∃ c' w', bodyN [.dat .well, .dat (.int n), .dat (.lst (lot.map .int)), .dat (encG b t), .dat (.int sure), .own (c.map encL), .dat (.int i)] w = .nx [.dat .well, .dat (.int n), .dat (.lst (lot.map .int)), .dat (encG b t), .dat (.int sure), .own (c'.map encL), .dat (.int i)] w' ∧ isCor 90 n c' ∧ Binds lot c' ∧ Wk k w' := by
  have e0 : (eBin oEq (eVar 6) (eVar 4)) [.dat .well, .dat (.int n), .dat (.lst (lot.map .int)), .dat (encG b t), .dat (.int sure), .own (c.map encL), .dat (.int i)] w = .ok (.bl (decide (i = sure))) w := eqi_ev (w1 := w) (w2 := w) rfl rfl
  -- the condition
  have hcond : ∃ z w1, (eOr (eBin oEq (eVar 6) (eVar 4)) (eBin oEq (eFn 2 G__law_take (aCons (eVar 0) (aCons (eC (.int 2)) aNil))) (eC (.int 0)))) [.dat .well, .dat (.int n), .dat (.lst (lot.map .int)), .dat (encG b t), .dat (.int sure), .own (c.map encL), .dat (.int i)] w = .ok (.bl z) w1 ∧ Wk (k + 3) w1 := by
    by_cases e : i = sure
    · rw [decide_eq_true e] at e0
      exact ⟨true, w, or_T e0, h.mono (by omega)⟩
    · rw [decide_eq_false e] at e0
      obtain ⟨d, w1, e1, _, _, k1⟩ := take (k := k + 3) (m := 2) h (by omega) (by omega)
      exact ⟨decide (d = 0), w1, (or_F e0).trans (eqi_ev (w1 := w1) (w2 := w1) ((efn_ev (ds := [.well, .int 2]) (w1 := w) rfl rfl).trans e1) rfl), k1⟩
  obtain ⟨z, w1, ec, k1⟩ := hcond
  cases z with
  | false => exact ⟨c, w1, (ifF ec).trans rfl, hc, hb, k1.mono (by omega)⟩
  | true =>
    have hval : ∃ q w2, (eIf (eBin oGt (eFn 2 G__law_take (aCons (eVar 0) (aCons (eC (.int 12)) aNil))) (eC (.int 0))) (eFn 2 G__law_number (aCons (eVar 0) (aCons (eVar 3) aNil))) (eFn 2 G__law_of (aCons (eVar 0) (aCons (eLst (aCons (eTup (aCons (eC (.int 0)) (aCons (eC (.int 1)) aNil))) (aCons (eTup (aCons (eC (.int 1)) (aCons (eC (.int 1)) aNil))) aNil))) aNil)))) [.dat .well, .dat (.int n), .dat (.lst (lot.map .int)), .dat (encG b t), .dat (.int sure), .own (c.map encL), .dat (.int i)] w1 = .ok (encQ q) w2 ∧ isNum 90 q ∧ Wk k w2 := by
      obtain ⟨d, w2, e2, _, _, k2⟩ := take (k := k + 2) (m := 12) k1 (by omega) (by omega)
      have eg : (eBin oGt (eFn 2 G__law_take (aCons (eVar 0) (aCons (eC (.int 12)) aNil))) (eC (.int 0))) [.dat .well, .dat (.int n), .dat (.lst (lot.map .int)), .dat (encG b t), .dat (.int sure), .own (c.map encL), .dat (.int i)] w1 = .ok (.bl (decide (0 < d))) w2 :=
        gt_ev (w1 := w2) (w2 := w2) ((efn_ev (ds := [.well, .int 12]) (w1 := w1) rfl rfl).trans e2) rfl
      by_cases hd : 0 < d
      · rw [decide_eq_true hd] at eg
        obtain ⟨q, w3, e3, hq, k3⟩ := number_ev (k := k) hg k2
        exact ⟨q, w3, (if_T eg).trans ((efn_ev (ds := [.well, encG b t]) (w1 := w2) rfl rfl).trans e3), hq, k3⟩
      · rw [decide_eq_false hd] at eg
        obtain ⟨q, w3, e3, hq, k3⟩ := of_ev (k := k + 1) encQ [((0 : Int), (1 : Int)), (1, 1)] k2 (by decide) (by decide)
        refine ⟨q, w3, (if_F eg).trans ((efn_ev (ds := [.well, .lst ([((0 : Int), (1 : Int)), (1, 1)].map encQ)]) (w1 := w2) rfl rfl).trans e3), ?_, k3.mono (by omega)⟩
        simp only [List.mem_cons, List.not_mem_nil, or_false] at hq
        rcases hq with rfl | rfl
        · exact num0
        · exact num1
    obtain ⟨q, w2, ev, hq, k2⟩ := hval
    obtain ⟨j, rfl⟩ : ∃ j : Nat, i = j := ⟨i.toNat, by omega⟩
    refine ⟨c.set j (some q), w2, (ifT ec).trans ?_, ⟨by rw [List.length_set]; exact hc.1, fun l hl r hr => ?_⟩, fun m r hm => ?_, k2⟩
    · have hj : ixN (c.map encL).length (j : Int) = some j := by
        unfold ixN
        rw [List.length_map, hc.1]
        simp
        omega
      show ((eIf _ _ _) _ w1).thn _ _ = _
      rw [ev]
      show (match ixN (c.map encL).length (j : Int) with | some j => Out.nx [.dat .well, .dat (.int n), .dat (.lst (lot.map .int)), .dat (encG b t), .dat (.int sure), .own ((c.map encL).set j (encQ q)), .dat (.int _)] w2 | none => .bad) = _
      rw [hj]
      simp only [List.map_set]
      rfl
    · rcases List.mem_or_eq_of_mem_set hl with h1 | h1
      · exact hc.2 l h1 r hr
      · rw [h1] at hr
        cases hr
        exact hq
    · rcases set_get hm with ⟨h1, _, _⟩ | ⟨_, h1⟩
      · rw [h1]; exact hi
      · exact hb m r h1
theorem corner_ev {k : Nat} {w : Wl} {b t : Int} (hg : isGrain b t) (n : Nat) (h1 : 1 ≤ n) (hn : n ≤ 5) (lot : IS) (h0 : lot ≠ []) (hlot : ∀ i ∈ lot, 0 ≤ i ∧ i < n) (hl : lot.length ≤ 5) (h : Wk (k + 22) w) :
    ∃ c w', G__law_corner [.well, .int n, .lst (lot.map .int), encG b t] w = .ok (encC c) w' ∧ isCor 90 n c ∧ Binds lot c ∧ Wk k w' := by
  obtain ⟨d, w1, e1, _, _, k1⟩ := take (k := k + 21) (m := 8) h (by omega) (by omega)
  have hs : ∃ sure w2, (eIf (eBin oGt (eFn 2 G__law_take (aCons (eVar 0) (aCons (eC (.int 8)) aNil))) (eC (.int 0))) (eFn 2 G__law_of (aCons (eVar 0) (aCons (eVar 2) aNil))) (eVar 1)) [.dat .well, .dat (.int n), .dat (.lst (lot.map .int)), .dat (encG b t), .non, .non, .non] w = .ok (.int sure) w2 ∧ Wk (k + 20) w2 := by
    have eg : (eBin oGt (eFn 2 G__law_take (aCons (eVar 0) (aCons (eC (.int 8)) aNil))) (eC (.int 0))) [.dat .well, .dat (.int n), .dat (.lst (lot.map .int)), .dat (encG b t), .non, .non, .non] w = .ok (.bl (decide (0 < d))) w1 :=
      gt_ev (w1 := w1) (w2 := w1) ((efn_ev (ds := [.well, .int 8]) (w1 := w) rfl rfl).trans e1) rfl
    by_cases hd : 0 < d
    · rw [decide_eq_true hd] at eg
      obtain ⟨x, w2, e2, _, k2⟩ := of_ev (k := k + 20) D.int lot k1 h0 (by omega)
      exact ⟨x, w2, (if_T eg).trans ((efn_ev (ds := [.well, .lst (lot.map .int)]) (w1 := w1) rfl rfl).trans e2), k2⟩
    · rw [decide_eq_false hd] at eg
      exact ⟨n, w1, (if_F eg).trans rfl, k1.mono (by omega)⟩
  obtain ⟨sure, w2, e2, k2⟩ := hs
  have hrep : (eBin oMulL (eLst (aCons (eC .non) aNil)) (eVar 1)) [.dat .well, .dat (.int n), .dat (.lst (lot.map .int)), .dat (encG b t), .dat (.int sure), .non, .non] w2 = .ok (.lst ((List.replicate n (none : Lim)).map encL)) w2 := by
    have : n = 1 ∨ n = 2 ∨ n = 3 ∨ n = 4 ∨ n = 5 := by omega
    rcases this with rfl | rfl | rfl | rfl | rfl <;> rfl
  have hbn : Binds lot (List.replicate n (none : Lim)) := fun j q hj => by
    have := List.mem_of_getElem? hj
    rw [List.mem_replicate] at this
    cases this.2
  have hcn : isCor 90 n (List.replicate n (none : Lim)) := ⟨by simp, fun l hl q hq => by
    rw [List.eq_of_mem_replicate hl] at hq
    cases hq⟩
  obtain ⟨en', w', e3, c, s6, he, hc, hb, kk⟩ := for_inv (b := bName 6) (body := bodyN) D.int (fun rest en w => (∃ c s6, en = [.dat .well, .dat (.int n), .dat (.lst (lot.map .int)), .dat (encG b t), .dat (.int sure), .own (c.map encL), s6] ∧ isCor 90 n c ∧ Binds lot c ∧ Wk (k + 4 * rest.length) w ∧ ∀ i ∈ rest, i ∈ lot)) (fun i is en w hI => by
    obtain ⟨c, s6, rfl, hc, hb, kk, hin⟩ := hI
    rw [List.length_cons] at kk
    have hi := hin i List.mem_cons_self
    obtain ⟨c', w', e, hc', hb', k'⟩ := bodyN_ev (k := k + 4 * is.length) hg n (by omega) lot i hi (hlot i hi) sure c hc hb (kk.mono (by omega))
    exact ⟨_, _, w', rfl, e, c', _, rfl, hc', hb', k', fun j hj => hin j (List.mem_cons_of_mem _ hj)⟩) lot [.dat .well, .dat (.int n), .dat (.lst (lot.map .int)), .dat (encG b t), .dat (.int sure), .own ((List.replicate n (none : Lim)).map encL), .non] w2 ⟨_, _, rfl, hcn, hbn, k2.mono (by omega), fun i hi => hi⟩
  subst he
  refine ⟨c, w', run_rt ((set_seq (w1 := w2) e2).trans ((own_seq (w1 := w2) hrep).trans ((seq_nx ((for_ev rfl).trans e3)).trans (ret_ev (tup_ev rfl))))), hc, hb, kk.1.mono (by simp)⟩
/-! ### frames -/
theorem isFrame.lex {n : Nat} {ls : List IS} (h : isFrame n ls) : ls.Pairwise fun s t => HT.lexLt s t = true := (setsFrom_lex n 0).sublist h.2
theorem ssets_ne {n : Nat} (h1 : 1 ≤ n) : ssets n ≠ [] := by
  cases n with
  | zero => omega
  | succ n => unfold ssets; simp [setsFrom]
theorem frame_ev {k : Nat} {w : Wl} (n : Nat) (h1 : 1 ≤ n) (h5 : n ≤ 5) (h : Wk (k + 33) w) : ∃ ls w', G__law_frame [.well, .int n] w = .ok (encF (n, ls)) w' ∧ isFrame n ls ∧ Wk k w' := by
  obtain ⟨keep, w1, e1, d0, d1, k1⟩ := take (k := k + 32) (m := 3) h (by omega) (by omega)
  have hsl := ssets_len n h5
  obtain ⟨zs, w2, e2, sub, _, k2⟩ := eLc_draw (gi := gSeq (eVar 2)) (b := bName 5) (gt := eOr (eBin oEq (eVar 3) (eC (.int 0))) (eBin oGe (eFn 2 G__law_take (aCons (eVar 0) (aCons (eC (.int 4)) aNil))) (eVar 3))) (ge := eVar 5) (vs := [5]) (en := [.dat .well, .dat (.int n), .dat (.lst ((ssets n).map encI)), .dat (.int keep), .non, .non]) (w := w1) encI (fun _ => True) (fun j w => Wk (k + 1 + j) w) (ssets n) 0 rfl (szL (by omega)) (k1.mono (by omega)) fun x hx => ⟨_, rfl, fun _ => rfl, fun j w hj => by
    have e0 : (eBin oEq (eVar 3) (eC (.int 0))) ([.dat .well, .dat (.int n), .dat (.lst ((ssets n).map encI)), .dat (.int keep), .non, .dat (encI x)] : List Sl) w = .ok (.bl (decide (keep = 0))) w := eqi_ev (w1 := w) (w2 := w) rfl rfl
    by_cases hk : keep = 0
    · rw [decide_eq_true hk] at e0
      exact ⟨true, w, or_T e0, fun _ => trivial, hj.mono (by omega)⟩
    · rw [decide_eq_false hk] at e0
      obtain ⟨d, w', e3, _, _, k3⟩ := take (k := k + 1 + j) (m := 4) hj (by omega) (by omega)
      exact ⟨decide (keep ≤ d), w', (or_F e0).trans (ge_ev (w1 := w') (w2 := w') ((efn_ev (ds := [.well, .int 4]) (w1 := w) rfl rfl).trans e3) rfl), fun _ => trivial, k3⟩⟩
  have e5 := oNe_ev (w := w2) eqs_set.lst zs [] (shp_lst (shp_map shp_set zs)) (shp_lst (k := 0) (by simp))
  have en0 : (eBin oNe (eVar 4) (eLst aNil)) [.dat .well, .dat (.int n), .dat (.lst ((ssets n).map encI)), .dat (.int keep), .dat (.lst (zs.map encI)), .non] w2 = .ok (.bl (!decide (zs = []))) w2 := (bin_ev (w1 := w2) (d := .lst (zs.map encI)) (e := .lst (([] : List IS).map encI)) rfl rfl).trans e5
  have fin : ∀ (ls : List IS) (w' : Wl), (eIf (eBin oNe (eVar 4) (eLst aNil)) (eVar 4) (eLst (aCons (eFn 2 G__law_of (aCons (eVar 0) (aCons (eVar 2) aNil))) aNil))) [.dat .well, .dat (.int n), .dat (.lst ((ssets n).map encI)), .dat (.int keep), .dat (.lst (zs.map encI)), .non] w2 = .ok (.lst (ls.map encI)) w' → G__law_frame [.well, .int n] w = .ok (encF (n, ls)) w' := fun ls w' he =>
    run_rt ((asg_seq (w1 := w1) (d := .tup [.lst ((ssets n).map encI), .int keep]) (etup_ev (cons_ev (w1 := w) ((efn_ev (ds := [.int n]) rfl rfl).trans (sets_ev n h1 h5)) (one_ev ((efn_ev (ds := [.well, .int 3]) (w1 := w) rfl rfl).trans e1))) (show 2 ≤ sizeLine by decide)) rfl).trans ((set_seq (w1 := w2) e2).trans (ret_ev (etup_ev (cons_ev (w1 := w2) rfl (one_ev (tup_ev he))) (show 2 ≤ sizeLine by decide)))))
  by_cases hz : zs = []
  · rw [decide_eq_true hz] at en0
    obtain ⟨s, w3, e3, hs, k3⟩ := of_ev (k := k) encI (ssets n) (k2.mono (by omega)) (ssets_ne h1) (by omega)
    refine ⟨[s], w3, fin [s] w3 ((if_F en0).trans (elst_ev (one_ev ((efn_ev (ds := [.well, .lst ((ssets n).map encI)]) (w1 := w2) rfl rfl).trans e3)) (show 1 ≤ sizeLine by decide))), ⟨by simp, List.singleton_sublist.mpr hs⟩, k3⟩
  · rw [decide_eq_false hz] at en0
    exact ⟨zs, w2, fin zs w2 ((if_T en0).trans rfl), ⟨hz, sub⟩, k2.mono (by omega)⟩
/-! ### books -/
theorem app_ev {i : Nat} {g : EG} {en : List Sl} {w w1 : Wl} {ds : List D} {d : D} (h1 : en[i]? = some (.own ds)) (h2 : g en w = .ok d w1) (hl : ds.length < 1000) : sApp i g en w = .nx (en.set i (.own (ds ++ [d]))) w1 := by
  have : ds.length < sizeLine := szL (n := ds.length + 1) (by omega)
  simp only [sApp, h1, h2, Res.thn, this, if_true]
end LW

/-! What the laws' own helpers answer: within, wrong. -/
namespace LW
open PySem PySem.Spec L2 DL PF
open PyProof.Rows hiding St
theorem zip_range (p : List Fr) (c : Cor) (h : p.length = c.length) : p.zip c = (List.range c.length).map fun j => (p.getD j (0, 1), c.getD j none) := by
  apply List.ext_getElem
  · simp [h]
  · intro i h1 h2
    have h3 : i < c.length := by simpa using h2
    have h4 : i < p.length := by omega
    simp [h3, h4]
theorem within_range (p : List Fr) (c : Cor) (h : p.length = c.length) : isWithin p c = (upto c.length).all fun i => inL (p.getD i.toNat (0, 1)) (c.getD i.toNat none) := by
  unfold isWithin upto
  rw [zip_range p c h, List.all_map, List.all_map]
  rfl
theorem getD_some {α : Type} {xs : List α} {j : Nat} (d : α) (h : j < xs.length) : xs[j]? = some (xs.getD j d) := by
  simp [h]
theorem within_ev {w : Wl} {B C : Nat} {p : List Fr} {c : Cor} (hp : ∀ q ∈ p, Sz B q) (hc : ∀ l ∈ c, ∀ q, l = some q → Sz C q) (h : B + C < 1000000) (hl : p.length = c.length) (hl2 : c.length ≤ 1000) : G__law_within [encN p, encC c] w = .ok (.bl (isWithin p c)) w := by
  rw [within_range p c hl]
  have hg : gRng1 (aCons (eCall oLen (aCons (eVar 1) aNil)) aNil) [.dat (encN p), .dat (encC c), .non] w = .ok ((upto c.length).map .int) w := by
    have := rng_ev (g := aCons (eCall oLen (aCons (eVar 1) aNil)) aNil) (en := [.dat (encN p), .dat (encC c), .non]) (w := w) (n := (c.length : Int)) (one_ev ((lenT_ev (ds := c.map encL) (w1 := w) rfl).trans (by rw [List.length_map]))) (small_nat (by omega))
    rw [Int.toNat_natCast] at this
    exact this
  refine run_rt (ret_ev (all_ev D.int (fun i => inL (p.getD i.toNat (0, 1)) (c.getD i.toNat none)) (upto c.length) hg (by rw [upto_len]; exact szL hl2) fun i hi => ⟨_, rfl, ?_⟩))
  obtain ⟨i0, i1⟩ := mem_upto.mp hi
  obtain ⟨j, rfl⟩ : ∃ j : Nat, i = j := ⟨i.toNat, by omega⟩
  rw [Int.toNat_natCast]
  have hj : j < c.length := by omega
  have ec : (eBin oIx (eVar 1) (eVar 2)) [.dat (encN p), .dat (encC c), .dat (.int (j : Int))] w = .ok (encL (c.getD j none)) w := (bin_ev (w1 := w) (d := encC c) (e := .int j) rfl rfl).trans (ix_tup encL (getD_some none hj) w)
  have ep : (eBin oIx (eVar 0) (eVar 2)) [.dat (encN p), .dat (encC c), .dat (.int (j : Int))] w = .ok (encQ (p.getD j (0, 1))) w := (bin_ev (w1 := w) (d := encN p) (e := .int j) rfl rfl).trans (ix_tup encQ (getD_some (0, 1) (by omega)) w)
  have m1 : p.getD j (0, 1) ∈ p := List.mem_of_getElem? (getD_some (0, 1) (by omega))
  have m2 : c.getD j none ∈ c := List.mem_of_getElem? (getD_some none hj)
  show eOr _ _ [.dat (encN p), .dat (encC c), .dat (.int (j : Int))] w = _
  cases hq : c.getD j none with
  | none =>
    rw [hq] at ec
    exact or_T (w1 := w) ((bin_ev ec rfl).trans rfl)
  | some q =>
    rw [hq] at ec m2
    exact (or_F (w1 := w) ((bin_ev ec rfl).trans rfl)).trans ((efn_ev (ds := [encQ (p.getD j (0, 1)), encQ q]) (w1 := w) (cons_ev ep (one_ev ec)) rfl).trans (at_most_ev (hp _ m1) (hc _ m2 q rfl) h))
/-! ### wrong corners -/
def bodyW : SG := (sIf (eBin oGt (eVar 5) (eCall oLen (aCons (eLc (gSeq (eVar 4)) (bName 7) (eBin oNotIn (eVar 7) (eVar 2)) (eVar 7) [7]) aNil))) (sApp 3 (eCall oTup (aCons (eLc (gRng1 (aCons (eVar 0) aNil)) (bName 7) eYes (eIf (eBin oIn (eVar 7) (eVar 2)) (eBin oIx (eVar 6) (eVar 7)) (eC .non)) [7]) aNil))) sPass)
end LW

/-! What the program's functions answer: bars. -/
namespace PF
open PySem PySem.Spec L2 DL
open PyProof.Rows hiding St
theorem pairsFrom_zip {α : Type} (enc : α → D) : ∀ (xs : List α) (i : Nat), pairsFrom enc i xs = (xs.zipIdx i).map fun p => .tup [.int (p.2 : Nat), enc p.1]
  | [], i => rfl
  | x :: xs, i => by
    rw [pairsFrom, pairsFrom_zip enc xs (i + 1), List.zipIdx_cons, List.map_cons]
theorem enum_ev {α : Type} (enc : α → D) {g : AG} {en : List Sl} {w w1 : Wl} {xs : List α} (h : g en w = .ok [.tup (xs.map enc)] w1) : gEnum g en w = .ok ((xs.zipIdx 0).map fun p => .tup [.int (p.2 : Nat), enc p.1]) w1 := by
  unfold gEnum
  rw [h]
  show AR.ok (pairsI (xs.map enc)) w1 = _
  rw [pairsI_map, pairsFrom_zip]
/-! ### what a dict holds -/
theorem getK_map {kvs : Kvs} {k j : List Int} {d : D} : getK (kvs.map fun kv => if kv.1 = k then (kv.1, d) else kv) j = (getK kvs j).map fun x => if j = k then d else x := by
  induction kvs with
  | nil => rfl
  | cons p r ih =>
    rw [List.map_cons]
    by_cases e : p.1 = j
    · have e1 : (if p.1 = k then (p.1, d) else p).1 = j := by split <;> exact e
      rw [getK_pos e1, getK_pos e]
      by_cases e2 : j = k
      · rw [if_pos (e.trans e2)]
        simp [e2]
      · rw [if_neg (fun z => e2 (e.symm.trans z))]
        simp [e2]
    · have e1 : ¬ (if p.1 = k then (p.1, d) else p).1 = j := by split <;> exact e
      rw [getK_neg e1, getK_neg e, ih]
theorem getK_any (kvs : Kvs) (k : List Int) : (kvs.any fun kv => decide (kv.1 = k)) = (getK kvs k).isSome := by
  induction kvs with
  | nil => rfl
  | cons p r ih =>
    rw [List.any_cons]
    by_cases e : p.1 = k
    · rw [getK_pos e, decide_eq_true e]; rfl
    · rw [getK_neg e, decide_eq_false e, Bool.false_or, ih]
theorem getK_snoc (kvs : Kvs) (k j : List Int) (d : D) (h : getK kvs k = none) : getK (kvs ++ [(k, d)]) j = if j = k then some d else getK kvs j := by
  induction kvs with
  | nil =>
    by_cases e : k = j
    · rw [if_pos e.symm]; exact getK_pos e
    · rw [if_neg (fun z => e z.symm)]; exact getK_neg e
  | cons p r ih =>
    have hp : ¬ p.1 = k := fun z => by
      rw [getK_pos z] at h
      cases h
    rw [getK_neg hp] at h
    rw [List.cons_append]
    by_cases e : p.1 = j
    · rw [getK_pos e, getK_pos e, if_neg (fun z => hp (e.trans z))]
    · rw [getK_neg e, getK_neg e, ih h]
theorem getK_put (kvs : Kvs) (k j : List Int) (d : D) : getK (putD kvs k d) j = if j = k then some d else getK kvs j := by
  unfold putD
  rw [getK_any]
  cases h : getK kvs k with
  | none => exact getK_snoc kvs k j d h
  | some x =>
    rw [if_pos (by rfl), getK_map]
    by_cases e : j = k
    · subst e
      rw [h]
      simp
    · simp [e]
theorem putD_len (kvs : Kvs) (k : List Int) (d : D) : (putD kvs k d).length ≤ kvs.length + 1 := by
  unfold putD
  split
  · rw [List.length_map]; omega
  · rw [List.length_append]; exact Nat.le_refl _
theorem key_set (s : IS) : keyOf (encI s) = some s := allInts_map s
/-! ### bars -/
abbrev Bar := IS × Cor
def encBar (b : Bar) : D := .tup [encI b.1, encC b.2]
def encBs (bs : List Bar) : D := .tup (bs.map encBar)
def bindsP (lot : IS) (c : Cor) : Prop := ∀ (j : Nat) (q : Fr), c[j]? = some (some q) → (j : Int) ∈ lot
def isBar (B n : Nat) (b : Bar) : Prop := isSet n b.1 ∧ isCor B n b.2 ∧ bindsP b.1 b.2
section
variable {w : Wl}
theorem is_bar_ok {B n : Nat} {b : Bar} (h : isBar B n b) (hn : n ≤ 1000) : G_is_bar [.int n, encBar b] w = .ok (.bl true) w := by
  have e0 := is_row_tup (w := w) [encI b.1, encC b.2] 2
  have e1 := is_set_ev (w := w) n b.1 (Nat.le_trans (isSet_len h.1) hn)
  rw [decide_eq_true h.1] at e1
  have e2 := is_corner_ok (w := w) h.2.1 hn
  refine run_rt ((ifF_seq (w1 := w) (not_ev (c := true) (tru_ev ((efn_ev (ds := [encBar b, .int 2]) (w1 := w) rfl rfl).trans e0)))).trans ((asg_seq (en1 := [.dat (.int n), .dat (encBar b), .dat (encI b.1), .dat (encC b.2), .non, .non]) (w1 := w) rfl rfl).trans ((ifF_seq (w1 := w) ?_).trans (ret_ev ?_))))
  · exact (or_F (w1 := w) (not_ev (c := true) (tru_ev ((efn_ev (ds := [.int n, encI b.1]) (w1 := w) rfl rfl).trans e1)))).trans (not_ev (c := true) (tru_ev ((efn_ev (ds := [.int n, encC b.2]) (w1 := w) rfl rfl).trans e2)))
  · refine (all_ev (fun p : Lim × Nat => .tup [.int (p.2 : Nat), encL p.1]) (fun _ => true) (b.2.zipIdx 0) (enum_ev encL (w1 := w) rfl) (by rw [List.length_zipIdx, h.2.1.1]; exact szL hn) fun p hp => ?_).trans (by simp)
    refine ⟨[.dat (.int n), .dat (encBar b), .dat (encI b.1), .dat (encC b.2), .dat (.int (p.2 : Nat)), .dat (encL p.1)], rfl, ?_⟩
    have hm : b.2[p.2]? = some p.1 := List.mem_zipIdx_iff_getElem?.mp hp
    cases hl : p.1 with
    | none => exact or_T (w1 := w) rfl
    | some q =>
      refine (or_F (w1 := w) rfl).trans ((bin_ev (w1 := w) (d := .int (p.2 : Nat)) (e := encI b.1) rfl rfl).trans ((oInT_ev (w := w) eqs_int (p.2 : Int) b.1 (fun z => shp_int z 0)).trans ?_))
      rw [decide_eq_true (h.2.2 p.2 q (by rw [hm, hl]))]
def cntB (bs : List Bar) (k : IS) : Nat := (bs.filter fun b => decide (b.1 = k)).length
theorem cntB_app (xs ys : List Bar) (k : IS) : cntB (xs ++ ys) k = cntB xs k + cntB ys k := by
  unfold cntB
  rw [List.filter_append, List.length_append]
def bodyF : SG := (sSeq (sIf (eOr (eBin oEq (eVar 3) (eC (.int 240))) (eNot (eUn oTru (eFn 2 G_is_bar (aCons (eVar 0) (aCons (eVar 4) aNil)))))) (sRet (eVar 3)) sPass)
  (sSeq (sDPut 2 (eBin oIx (eVar 4) (eC (.int 0))) (eBin oAdd (eDGet 2 (eBin oIx (eVar 4) (eC (.int 0))) (eC (.int 0))) (eC (.int 1))))
  (sIf (eBin oGt (eDIx 2 (eBin oIx (eVar 4) (eC (.int 0)))) (eC (.int 60))) (sRet (eVar 3)) sPass)))
theorem bodyF_ev {B n : Nat} (hn : n ≤ 1000) (d1 : D) (done : List Bar) (kvs : Kvs) (hk : ∀ k, (getK kvs k).getD (.int 0) = .int (cntB done k)) (hl : kvs.length ≤ done.length) (b : Bar) (hb : isBar B n b) (i : Nat) (hi : i < 240) (hd : done.length ≤ 999) (hc : cntB (done ++ [b]) b.1 ≤ 60) :
    ∃ kvs', bodyF [.dat (.int n), .dat d1, .dic kvs, .dat (.int i), .dat (encBar b)] w = .nx [.dat (.int n), .dat d1, .dic kvs', .dat (.int i), .dat (encBar b)] w ∧ (∀ k, (getK kvs' k).getD (.int 0) = .int (cntB (done ++ [b]) k)) ∧ kvs'.length ≤ (done ++ [b]).length := by
  have e0 := oEq_ev (w := w) eqs_int (i : Int) 240 (shp_int _ 0) (shp_int _ 0)
  have hne : decide ((i : Int) = 240) = false := decide_eq_false (by omega)
  rw [hne] at e0
  have e1 := is_bar_ok (w := w) hb hn
  have hcb : cntB [b] b.1 = 1 := by simp [cntB]
  have hca := cntB_app done [b] b.1
  refine ⟨putD kvs b.1 (.int (cntB done b.1 + 1)), ?_, fun k => ?_, ?_⟩
  · refine (ifF_seq (w1 := w) ((or_F (w1 := w) e0).trans (not_ev (c := true) (tru_ev ((efn_ev (ds := [.int n, encBar b]) (w1 := w) rfl rfl).trans e1))))).trans ?_
    have eg : eDGet 2 (eBin oIx (eVar 4) (eC (.int 0))) (eC (.int 0)) [.dat (.int n), .dat d1, .dic kvs, .dat (.int i), .dat (encBar b)] w = .ok (.int (cntB done b.1)) w := by
      show (match keyOf (encI b.1) with | some k => Res.ok ((getK kvs k).getD (.int 0)) w | none => .bad) = _
      rw [key_set]
      show Res.ok ((getK kvs b.1).getD (.int 0)) w = _
      rw [hk b.1]
    have ep : sDPut 2 (eBin oIx (eVar 4) (eC (.int 0))) (eBin oAdd (eDGet 2 (eBin oIx (eVar 4) (eC (.int 0))) (eC (.int 0))) (eC (.int 1))) [.dat (.int n), .dat d1, .dic kvs, .dat (.int i), .dat (encBar b)] w = .nx [.dat (.int n), .dat d1, .dic (putD kvs b.1 (.int (cntB done b.1 + 1))), .dat (.int i), .dat (encBar b)] w := by
      have ea : (eBin oAdd (eDGet 2 (eBin oIx (eVar 4) (eC (.int 0))) (eC (.int 0))) (eC (.int 1))) [.dat (.int n), .dat d1, .dic kvs, .dat (.int i), .dat (encBar b)] w = .ok (.int ((cntB done b.1 : Int) + 1)) w := add_ev (w1 := w) eg rfl
      show (Res.thn ((eBin oAdd (eDGet 2 (eBin oIx (eVar 4) (eC (.int 0))) (eC (.int 0))) (eC (.int 1))) [.dat (.int n), .dat d1, .dic kvs, .dat (.int i), .dat (encBar b)] w) _ _) = _
      rw [ea]
      show (match keyOf (encI b.1) with | some k => if kvs.length < sizeLine then Out.nx [.dat (.int n), .dat d1, .dic (putD kvs k (.int ((cntB done b.1 : Int) + 1))), .dat (.int i), .dat (encBar b)] w else .bad | none => .bad) = _
      rw [key_set]
      have hs : kvs.length < sizeLine := szL (n := kvs.length + 1) (by omega)
      simp only [hs, if_true]
    refine (seq_nx ep).trans ((ifF (w1 := w) ((gt_ev (w1 := w) (w2 := w) (i := (cntB done b.1 : Int) + 1) (j := 60) ?_ rfl).trans ?_)).trans rfl)
    · show (match keyOf (encI b.1) with | some k => (match getK (putD kvs b.1 (.int ((cntB done b.1 : Int) + 1))) k with | some d => Res.ok d w | none => .bad) | none => .bad) = _
      rw [key_set]
      simp only [getK_put, if_true]
    · rw [decide_eq_false (by omega)]
  · rw [getK_put]
    by_cases e : k = b.1
    · rw [if_pos e, e]
      have : cntB (done ++ [b]) b.1 = cntB done b.1 + 1 := by omega
      rw [this]
      rfl
    · rw [if_neg e, hk k]
      have : cntB [b] k = 0 := by
        have : ¬ b.1 = k := fun z => e z.symm
        simp [cntB, this]
      have h2 := cntB_app done [b] k
      rw [h2, this]
      rfl
  · have := putD_len kvs b.1 (.int (cntB done b.1 + 1))
    rw [List.length_append]
    simp
    omega
theorem loopF_ev {B n : Nat} (hn : n ≤ 1000) (d1 : D) (bs : List Bar) (hc : ∀ k, cntB bs k ≤ 60) (hl : bs.length ≤ 240) : ∀ (rest done : List Bar) (kvs : Kvs) (s3 s4 : Sl), bs = done ++ rest → (∀ b ∈ rest, isBar B n b) → (∀ k, (getK kvs k).getD (.int 0) = .int (cntB done k)) → kvs.length ≤ done.length →
    ∃ en', forG (bTupN 2 (bCons (bName 3) (bCons (bName 4) bNil))) bodyF (pairsFrom encBar done.length rest) [.dat (.int n), .dat d1, .dic kvs, s3, s4] w = .nx en' w ∧ en'[1]? = some (.dat d1)
  | [], done, kvs, s3, s4, _, _, _, _ => ⟨_, rfl, rfl⟩
  | b :: rest, done, kvs, s3, s4, e, hb, hk, hkl => by
    have hlen : bs.length = done.length + (rest.length + 1) := by rw [e]; simp
    have hcb : cntB (done ++ [b]) b.1 ≤ 60 := by
      have h1 := hc b.1
      have h2 : bs = (done ++ [b]) ++ rest := by rw [e]; simp
      rw [h2, cntB_app] at h1
      omega
    obtain ⟨kvs', e1, hk', hl'⟩ := bodyF_ev (w := w) hn d1 done kvs hk hkl b (hb b List.mem_cons_self) done.length (by omega) (by omega) hcb
    obtain ⟨en', e2, h1⟩ := loopF_ev hn d1 bs hc hl rest (done ++ [b]) kvs' (.dat (.int done.length)) (.dat (encBar b)) (by rw [e]; simp) (fun c hc => hb c (List.mem_cons_of_mem _ hc)) hk' hl'
    refine ⟨en', ?_, h1⟩
    rw [show pairsFrom encBar done.length (b :: rest) = .tup [.int done.length, encBar b] :: pairsFrom encBar (done.length + 1) rest from rfl]
    refine (for_cons rfl e1).trans ?_
    rw [List.length_append] at e2
    exact e2
/-- bars that are right -/
def areBars (B n : Nat) (bs : List Bar) : Prop := (∀ b ∈ bs, isBar B n b) ∧ bs.length ≤ 240 ∧ ∀ k, cntB bs k ≤ 60
theorem cntB_le (bs : List Bar) (k : IS) : cntB bs k ≤ bs.length := List.length_filter_le _ _
theorem first_bar_ok {B n : Nat} {bs : List Bar} (h : areBars B n bs) (hn : n ≤ 1000) : G_first_wrong_bar [.int n, encBs bs] w = .ok (.int bs.length) w := by
  obtain ⟨en', e, h1⟩ := loopF_ev (w := w) hn (encBs bs) bs h.2.2 h.2.1 bs [] [] .non .non rfl h.1 (fun k => rfl) (Nat.zero_le _)
  have e0 : sFor (gEnum (aCons (eVar 1) aNil)) (bTupN 2 (bCons (bName 3) (bCons (bName 4) bNil))) bodyF [.dat (.int n), .dat (encBs bs), .dic [], .non, .non] w = .nx en' w := by
    refine (for_ev (ds := pairsFrom encBar 0 bs) (w1 := w) ?_).trans e
    rw [← pairsI_map]
    rfl
  refine run_rt ((seq_nx (en1 := [.dat (.int n), .dat (encBs bs), .dic [], .non, .non]) (w1 := w) rfl).trans ((seq_nx e0).trans (ret_ev ?_)))
  refine (lenT_ev (ds := bs.map encBar) (w1 := w) (by unfold eVar; rw [h1]; rfl)).trans ?_
  rw [List.length_map]
theorem check_bars_ok {B n : Nat} {bs : List Bar} (h : areBars B n bs) (hn : n ≤ 1000) : G_check_bars [.int n, encBs bs] w = .ok .non w := by
  have e := first_bar_ok (w := w) h hn
  refine run_nx (en1 := [.dat (.int n), .dat (encBs bs), .dat (.int bs.length)]) ((ifF_seq (w1 := w) ?_).trans ((set_seq (w1 := w) ((efn_ev (ds := [.int n, encBs bs]) (w1 := w) rfl rfl).trans e)).trans ((ifF (w1 := w) ?_).trans rfl)))
  · show Res.ok (.bl (!decide ("tuple" = "tuple"))) w = _
    simp
  · refine (bin_ev rfl (lenT_ev (ds := bs.map encBar) rfl)).trans ((oLt_int _ _).trans ?_)
    rw [List.length_map]
    simp
/-! ### the lots that are left -/
def barredB (p : List Fr) (bs : List Bar) (s : IS) : Bool := bs.any fun b => decide (b.1 = s) && isWithin p b.2
def possL (p : List Fr) (bs : List Bar) (ls : List IS) : List IS := [] :: ls.filter fun s => !barredB p bs s
theorem possL_len (p : List Fr) (bs : List Bar) (ls : List IS) : (possL p bs ls).length ≤ ls.length + 1 := by
  unfold possL
  have := List.length_filter_le (fun s => !barredB p bs s) ls
  simp only [List.length_cons]
  omega
end
end PF

/-! What the laws' own helpers answer: bars. -/
namespace LW
open PySem PySem.Spec L2 DL PF
open PyProof.Rows hiding St
/-- an ascending row within another one -/
theorem asc_sub : ∀ {a b : IS}, a.Pairwise (· < ·) → b.Pairwise (· < ·) → (∀ i ∈ a, i ∈ b) → a.Sublist b
  | [], b, _, _, _ => List.nil_sublist b
  | x :: a, [], _, _, h => absurd (h x List.mem_cons_self) (by simp)
  | x :: a, y :: b, ha, hb, h => by
    obtain ⟨a1, a2⟩ := List.pairwise_cons.mp ha
    obtain ⟨b1, b2⟩ := List.pairwise_cons.mp hb
    by_cases e : x = y
    · subst e
      refine (asc_sub a2 b2 fun i hi => ?_).cons_cons x
      rcases List.mem_cons.mp (h i (List.mem_cons_of_mem _ hi)) with z | z
      · have := a1 i hi; omega
      · exact z
    · refine (asc_sub ha b2 fun i hi => ?_).cons y
      rcases List.mem_cons.mp (h i hi) with z | z
      · rcases List.mem_cons.mp (h x List.mem_cons_self) with z2 | z2
        · exact absurd z2 e
        · have := b1 x z2
          rcases List.mem_cons.mp hi with z3 | z3
          · omega
          · have := a1 i z3; omega
      · exact z
def aboveL (ls : List IS) (lot : IS) : List IS := ls.filter fun s => (!decide (s = lot)) && decide ((lot.filter fun i => !decide (i ∈ s)) = [])
theorem above_ev {w : Wl} (n : Nat) (ls : List IS) (lot : IS) (hl : ls.length ≤ 1000) (hlot : lot.length ≤ 1000) : G__law_above [encF (n, ls), encI lot] w = .ok (.lst ((aboveL ls lot).map encI)) w := by
  refine run_rt (ret_ev (eLc_ev encI (fun s => (!decide (s = lot)) && decide ((lot.filter fun i => !decide (i ∈ s)) = [])) encI ls rfl (szL hl) fun s _ => ⟨[.dat (encF (n, ls)), .dat (encI lot), .dat (encI s), .non], rfl, and_ev ?_ ?_, fun _ => rfl⟩))
  · exact (bin_ev (w1 := w) (d := encI s) (e := encI lot) rfl rfl).trans (oNe_ev (w := w) eqs_set s lot (shp_set s) (shp_set lot))
  · have e := eLc_ev (gi := gSeq (eVar 1)) (b := bName 3) (gt := eBin oNotIn (eVar 3) (eVar 2)) (ge := eVar 3) (vs := [3]) (en := [.dat (encF (n, ls)), .dat (encI lot), .dat (encI s), .non]) (w := w) D.int (fun i => !decide (i ∈ s)) D.int lot rfl (szL hlot) fun i _ => ⟨_, rfl, notin_set rfl rfl, fun _ => rfl⟩
    exact (bin_ev (w1 := w) e (show eLst aNil _ w = .ok (.lst (([] : IS).map .int)) w from rfl)).trans (oEq_ev (w := w) eqs_int.lst _ [] (shp_lst (shp_map (fun x => shp_int x 0) _)) (shp_lst (k := 0) (by simp)))
def topsL (ls : List IS) : List IS := ls.filter fun s => decide (aboveL ls s = [])
theorem max_len : ∀ {ls : List IS}, ls ≠ [] → ∃ s ∈ ls, ∀ t ∈ ls, t.length ≤ s.length
  | [], h => absurd rfl h
  | [s], _ => by
    refine ⟨s, List.mem_cons_self, fun t ht => ?_⟩
    have : t = s := by simpa using ht
    rw [this]
    exact Nat.le_refl _
  | s :: u :: r, _ => by
    obtain ⟨m, hm, h⟩ := max_len (ls := u :: r) (by simp)
    by_cases e : m.length ≤ s.length
    · refine ⟨s, List.mem_cons_self, fun t ht => ?_⟩
      rcases List.mem_cons.mp ht with z | z
      · rw [z]; exact Nat.le_refl _
      · exact Nat.le_trans (h t z) e
    · refine ⟨m, List.mem_cons_of_mem _ hm, fun t ht => ?_⟩
      rcases List.mem_cons.mp ht with z | z
      · rw [z]; omega
      · exact h t z
theorem tops_ne {n : Nat} {ls : List IS} (h0 : ls ≠ []) (h : ∀ s ∈ ls, isSet n s) : topsL ls ≠ [] := by
  obtain ⟨s, hs, hm⟩ := max_len h0
  have : s ∈ topsL ls := by
    unfold topsL
    refine List.mem_filter.mpr ⟨hs, decide_eq_true ?_⟩
    unfold aboveL
    rw [List.filter_eq_nil_iff]
    intro t ht hc
    rw [Bool.and_eq_true, decide_eq_true_eq] at hc
    obtain ⟨c1, c2⟩ := hc
    have hne : t ≠ s := by simpa using c1
    have hsub : ∀ i ∈ s, i ∈ t := fun i hi => by
      have := (List.filter_eq_nil_iff.mp c2) i hi
      simpa using this
    have sl := asc_sub (h s hs).2.1 (h t ht).2.1 hsub
    exact hne (sl.eq_of_length (Nat.le_antisymm sl.length_le (hm t ht))).symm
  intro e
  rw [e] at this
  cases this
/-! ### drawn bars -/
def bodyP : SG := (sSeq (sSet 8 (eFn 2 G__law_take (aCons (eVar 0) (aCons (eC (.int 8)) aNil))))
  (sSeq (sSet 6 (eIf (eBin oEq (eVar 8) (eC (.int 0))) (eFn 2 G__law_of (aCons (eVar 0) (aCons (eFn 1 G__law_sets (aCons (eBin oIx (eVar 1) (eC (.int 0))) aNil)) aNil))) (eFn 2 G__law_of (aCons (eVar 0) (aCons (eIf (eBin oLt (eVar 8) (eC (.int 5))) (eVar 4) (eBin oIx (eVar 1) (eC (.int 1)))) aNil)))))
  (sApp 5 (eTup (aCons (eVar 6) (aCons (eFn 4 G__law_corner (aCons (eVar 0) (aCons (eBin oIx (eVar 1) (eC (.int 0))) (aCons (eCall oLst (aCons (eVar 6) aNil)) (aCons (eVar 2) aNil))))) aNil))))))
theorem of_tup {α : Type} {k : Nat} {w : Wl} (enc : α → D) (xs : List α) (h : Wk (k + 1) w) (h0 : xs ≠ []) (h1 : xs.length ≤ 1000) : ∃ x w', G__law_of [.well, .tup (xs.map enc)] w = .ok (enc x) w' ∧ x ∈ xs ∧ Wk k w' := by
  have hp : 0 < xs.length := List.length_pos_iff.mpr h0
  obtain ⟨d, w', e, d0, d1, k1⟩ := take (k := k) (m := xs.length) h (by omega) (by omega)
  obtain ⟨j, rfl⟩ : ∃ j : Nat, d = j := ⟨d.toNat, by omega⟩
  have hd : j < xs.length := by omega
  refine ⟨xs[j], w', run_rt (ret_ev ?_), List.getElem_mem hd, k1⟩
  have e1 : (eFn 2 G__law_take (aCons (eVar 0) (aCons (eCall oLen (aCons (eVar 1) aNil)) aNil))) [.dat .well, .dat (.tup (xs.map enc))] w = .ok (.int j) w' :=
    (efn_ev (ds := [.well, .int xs.length]) (w1 := w) (cons_ev rfl (one_ev ((lenT_ev (ds := xs.map enc) (w1 := w) rfl).trans (by rw [List.length_map])))) rfl).trans e
  exact (bin_ev (w1 := w) (d := .tup (xs.map enc)) rfl e1).trans (ix_tup enc (List.getElem?_eq_getElem hd) w')
theorem bodyP_ev {k : Nat} {w : Wl} {b t : Int} (hg : isGrain b t) (n : Nat) (h1 : 1 ≤ n) (h5 : n ≤ 5) (ls : List IS) (hf : isFrame n ls) (d3 : D) (bs : List Bar) (hl : bs.length < 1000) (s6 s7 s8 : Sl) (h : Wk (k + 24) w) :
    ∃ x w' s6' s8', bodyP [.dat .well, .dat (encF (n, ls)), .dat (encG b t), .dat d3, .dat (.lst ((topsL ls).map encI)), .own (bs.map encBar), s6, s7, s8] w = .nx [.dat .well, .dat (encF (n, ls)), .dat (encG b t), .dat d3, .dat (.lst ((topsL ls).map encI)), .own ((bs ++ [x]).map encBar), s6', s7, s8'] w' ∧ isBar 90 n x ∧ Wk k w' := by
  have hsl := ssets_len n h5
  have hll := hf.len h5
  have htl : (topsL ls).length ≤ ls.length := List.length_filter_le _ _
  obtain ⟨d, w1, e1, d0, d1, k1⟩ := take (k := k + 23) (m := 8) h (by omega) (by omega)
  have hlot : ∃ lot w2, (eIf (eBin oEq (eVar 8) (eC (.int 0))) (eFn 2 G__law_of (aCons (eVar 0) (aCons (eFn 1 G__law_sets (aCons (eBin oIx (eVar 1) (eC (.int 0))) aNil)) aNil))) (eFn 2 G__law_of (aCons (eVar 0) (aCons (eIf (eBin oLt (eVar 8) (eC (.int 5))) (eVar 4) (eBin oIx (eVar 1) (eC (.int 1)))) aNil))))
      [.dat .well, .dat (encF (n, ls)), .dat (encG b t), .dat d3, .dat (.lst ((topsL ls).map encI)), .own (bs.map encBar), s6, s7, .dat (.int d)] w1 = .ok (encI lot) w2 ∧ isSet n lot ∧ Wk (k + 22) w2 := by
    have eg : (eBin oEq (eVar 8) (eC (.int 0))) [.dat .well, .dat (encF (n, ls)), .dat (encG b t), .dat d3, .dat (.lst ((topsL ls).map encI)), .own (bs.map encBar), s6, s7, .dat (.int d)] w1 = .ok (.bl (decide (d = 0))) w1 := eqi_ev (w1 := w1) (w2 := w1) rfl rfl
    by_cases hd : d = 0
    · rw [decide_eq_true hd] at eg
      obtain ⟨s, w2, e2, hs, k2⟩ := of_ev (k := k + 22) encI (ssets n) k1 (ssets_ne h1) (by omega)
      exact ⟨s, w2, (if_T eg).trans ((efn_ev (ds := [.well, .lst ((ssets n).map encI)]) (w1 := w1) (cons_ev (w1 := w1) rfl (one_ev ((efn_ev (ds := [.int n]) (w1 := w1) rfl rfl).trans (sets_ev n h1 h5)))) rfl).trans e2), mem_ssets.mp hs, k2⟩
    · rw [decide_eq_false hd] at eg
      have el : (eBin oLt (eVar 8) (eC (.int 5))) [.dat .well, .dat (encF (n, ls)), .dat (encG b t), .dat d3, .dat (.lst ((topsL ls).map encI)), .own (bs.map encBar), s6, s7, .dat (.int d)] w1 = .ok (.bl (decide (d < 5))) w1 := (bin_ev (w1 := w1) (d := .int d) (e := .int 5) rfl rfl).trans (oLt_int _ _)
      by_cases h5' : d < 5
      · rw [decide_eq_true h5'] at el
        obtain ⟨s, w2, e2, hs, k2⟩ := of_ev (k := k + 22) encI (topsL ls) k1 (tops_ne hf.1 hf.set) (by omega)
        exact ⟨s, w2, (if_F eg).trans ((efn_ev (ds := [.well, .lst ((topsL ls).map encI)]) (w1 := w1) (cons_ev (w1 := w1) rfl (one_ev ((if_T el).trans rfl))) rfl).trans e2), hf.set s (List.mem_filter.mp hs).1, k2⟩
      · rw [decide_eq_false h5'] at el
        obtain ⟨s, w2, e2, hs, k2⟩ := of_tup (k := k + 22) encI ls k1 hf.1 (by omega)
        exact ⟨s, w2, (if_F eg).trans ((efn_ev (ds := [.well, .tup (ls.map encI)]) (w1 := w1) (cons_ev (w1 := w1) rfl (one_ev ((if_F el).trans rfl))) rfl).trans e2), hf.set s hs, k2⟩
  obtain ⟨lot, w2, e2, hlt, k2⟩ := hlot
  obtain ⟨c, w3, e3, hc, hb, k3⟩ := corner_ev (k := k) hg n h1 h5 lot hlt.1 hlt.2.2 (Nat.le_trans (isSet_len hlt) h5) k2
  refine ⟨(lot, c), w3, .dat (encI lot), .dat (.int d), (set_seq (w1 := w1) ((efn_ev (ds := [.well, .int 8]) (w1 := w) rfl rfl).trans e1)).trans ((set_seq (w1 := w2) e2).trans ?_), ⟨hlt, hc, hb⟩, k3⟩
  refine (app_ev (ds := bs.map encBar) (d := encBar (lot, c)) (w1 := w3) rfl ?_ (by rw [List.length_map]; exact hl)).trans ?_
  · exact etup_ev (cons_ev (w1 := w2) rfl (one_ev ((efn_ev (ds := [.well, .int n, .lst (lot.map .int), encG b t]) (w1 := w2) rfl rfl).trans e3))) (show 2 ≤ sizeLine by decide)
  · rw [List.map_append]
    rfl
theorem bars_ev {k : Nat} {w : Wl} {b t : Int} (hg : isGrain b t) (n : Nat) (h1 : 1 ≤ n) (h5 : n ≤ 5) (ls : List IS) (hf : isFrame n ls) (many : Nat) (hm : many ≤ 60) (h : Wk (k + 24 * many) w) :
    ∃ bs w', G__law_bars [.well, encF (n, ls), encG b t, .int many] w = .ok (encBs bs) w' ∧ areBars 90 n bs ∧ bs.length = many ∧ Wk k w' := by
  have hll := hf.len h5
  obtain ⟨en', w', e2, bs, s6, s7, s8, he, it, il, k2⟩ := for_inv (b := bName 7) (body := bodyP) D.int (fun rest en w => ∃ bs s6 s7 s8, en = [.dat .well, .dat (encF (n, ls)), .dat (encG b t), .dat (.int many), .dat (.lst ((topsL ls).map encI)), .own (bs.map encBar), s6, s7, s8] ∧ (∀ x ∈ bs, isBar 90 n x) ∧ bs.length + rest.length = many ∧ Wk (k + 24 * rest.length) w) (fun x xs en w hI => by
    obtain ⟨bs, s6, s7, s8, rfl, it, il, kk⟩ := hI
    rw [List.length_cons] at il kk
    obtain ⟨y, w', s6', s8', e, hy, k'⟩ := bodyP_ev (k := k + 24 * xs.length) (w := w) hg n h1 h5 ls hf (.int many) bs (by omega) s6 (.dat (.int x)) s8 (kk.mono (by omega))
    refine ⟨_, _, w', rfl, e, bs ++ [y], _, _, _, rfl, fun u hu => ?_, by rw [List.length_append]; simp; omega, k'⟩
    rcases List.mem_append.mp hu with h | h
    · exact it u h
    · have : u = y := by simpa using h
      rw [this]
      exact hy) (upto many) [.dat .well, .dat (encF (n, ls)), .dat (encG b t), .dat (.int many), .dat (.lst ((topsL ls).map encI)), .own (([] : List Bar).map encBar), .non, .non, .non] w ⟨[], .non, .non, .non, rfl, by simp, by rw [upto_len]; simp, by rw [upto_len]; exact h⟩
  subst he
  have bl : bs.length = many := by simpa using il
  refine ⟨bs, w', run_rt ((seq_nx (en1 := [.dat .well, .dat (encF (n, ls)), .dat (encG b t), .dat (.int many), .dat (.lst ((topsL ls).map encI)), .own [], .non, .non, .non]) (w1 := w) ?_).trans ((seq_nx ((for_ev ?_).trans e2)).trans (ret_ev (tup_ev rfl)))), ⟨it, by omega, fun k => Nat.le_trans (cntB_le bs k) (by omega)⟩, bl, by simpa using k2⟩
  · have et : (eLc (gSeq (eBin oIx (eVar 1) (eC (.int 1)))) (bName 6) (eBin oEq (eFn 2 G__law_above (aCons (eVar 1) (aCons (eVar 6) aNil))) (eLst aNil)) (eVar 6) [6]) [.dat .well, .dat (encF (n, ls)), .dat (encG b t), .dat (.int many), .non, .non, .non, .non, .non] w = .ok (.lst ((topsL ls).map encI)) w := by
      refine eLc_ev encI (fun s => decide (aboveL ls s = [])) encI ls rfl (szL (by omega)) fun s hs => ⟨[.dat .well, .dat (encF (n, ls)), .dat (encG b t), .dat (.int many), .non, .non, .dat (encI s), .non, .non], rfl, ?_, fun _ => rfl⟩
      have ea := above_ev (w := w) n ls s (by omega) (by have := isSet_len (hf.set s hs); omega)
      exact (bin_ev (w1 := w) ((efn_ev (ds := [encF (n, ls), encI s]) (w1 := w) rfl rfl).trans ea) (show eLst aNil _ w = .ok (.lst (([] : List IS).map encI)) w from rfl)).trans (oEq_ev (w := w) eqs_set.lst _ [] (shp_lst (shp_map shp_set _)) (shp_lst (k := 0) (by simp)))
    show (AR.thn ((aCons (eLc (gSeq (eBin oIx (eVar 1) (eC (.int 1)))) (bName 6) (eBin oEq (eFn 2 G__law_above (aCons (eVar 1) (aCons (eVar 6) aNil))) (eLst aNil)) (eVar 6) [6]) (aCons (eLst aNil) aNil)) [.dat .well, .dat (encF (n, ls)), .dat (encG b t), .dat (.int many), .non, .non, .non, .non, .non] w) _ _) = _
    rw [cons_ev (w1 := w) et (one_ev (d := .lst []) (w1 := w) rfl)]
    rfl
  · have := rng_ev (g := aCons (eVar 3) aNil) (en := [.dat .well, .dat (encF (n, ls)), .dat (encG b t), .dat (.int many), .dat (.lst ((topsL ls).map encI)), .own [], .non, .non, .non]) (w := w) (n := (many : Int)) rfl (small_nat (by omega))
    rw [Int.toNat_natCast] at this
    exact this
/-! ### the possible lots, the sure counts -/
def bodyQ : SG := (sIf (eNot (eUn oTru (eCall oAny (aCons (eLc (gSeq (eVar 1)) (bName 5) eYes (eAnd (eBin oEq (eBin oIx (eVar 5) (eC (.int 0))) (eVar 4)) (eFn 2 G__law_within (aCons (eVar 2) (aCons (eBin oIx (eVar 5) (eC (.int 1))) aNil)))) [5]) aNil)))) (sApp 3 (eVar 4)) sPass)
theorem bodyQ_ev {w : Wl} {B n : Nat} {p : List Fr} {bs : List Bar} (hp : isNums B n p) (hn : n ≤ 1000) (hB : B ≤ 100000) (hb : ∀ b ∈ bs, isBar B n b) (hbl : bs.length ≤ 1000) (d0 : D) (acc : List IS) (ha : acc.length < 1000) (s : IS) :
    bodyQ [.dat d0, .dat (encBs bs), .dat (encN p), .own (acc.map encI), .dat (encI s), .non] w = .nx [.dat d0, .dat (encBs bs), .dat (encN p), .own ((acc ++ if barredB p bs s then [] else [s]).map encI), .dat (encI s), .non] w := by
  have e0 := any_ev (gi := gSeq (eVar 1)) (b := bName 5) (ge := eAnd (eBin oEq (eBin oIx (eVar 5) (eC (.int 0))) (eVar 4)) (eFn 2 G__law_within (aCons (eVar 2) (aCons (eBin oIx (eVar 5) (eC (.int 1))) aNil)))) (vs := [5]) (en := [.dat d0, .dat (encBs bs), .dat (encN p), .own (acc.map encI), .dat (encI s), .non]) (w := w) encBar (fun b => decide (b.1 = s) && isWithin p b.2) bs rfl (szL hbl) fun b hbm => ⟨[.dat d0, .dat (encBs bs), .dat (encN p), .own (acc.map encI), .dat (encI s), .dat (encBar b)], rfl, by
    have hbb := hb b hbm
    refine and_ev ?_ ?_
    · exact (bin_ev (w1 := w) (d := encI b.1) (e := encI s) rfl rfl).trans (oEq_ev (w := w) eqs_set b.1 s (shp_set _) (shp_set _))
    · exact (efn_ev (ds := [encN p, encC b.2]) (w1 := w) rfl rfl).trans (within_ev (B := B) (C := B) (fun q hq => (hp.2 q hq).2.2) (fun l hl q hq => (hbb.2.1.2 l hl q hq).2.2) (by omega) (by rw [hp.1, hbb.2.1.1]) (by rw [hbb.2.1.1]; exact hn))⟩
  have e1 := not_ev (tru_ev e0)
  unfold bodyQ
  cases hbar : barredB p bs s with
  | true =>
    have e1' := e1
    rw [show (bs.any fun b => decide (b.1 = s) && isWithin p b.2) = true from hbar] at e1'
    refine (ifF e1').trans ?_
    rw [if_pos rfl, List.append_nil]
    rfl
  | false =>
    have e1' := e1
    rw [show (bs.any fun b => decide (b.1 = s) && isWithin p b.2) = false from hbar] at e1'
    refine (ifT e1').trans ((app_ev (ds := acc.map encI) (d := encI s) (w1 := w) rfl rfl (by rw [List.length_map]; exact ha)).trans ?_)
    rw [if_neg (by decide), List.map_append]
    rfl
theorem possible_ev {w : Wl} {B n : Nat} {p : List Fr} {bs : List Bar} {ls : List IS} (hp : isNums B n p) (hn : n ≤ 1000) (hB : B ≤ 100000) (hb : ∀ b ∈ bs, isBar B n b) (hbl : bs.length ≤ 1000) (hl : ls.length ≤ 900) : G__law_possible [encF (n, ls), encBs bs, encN p] w = .ok (.lst ((possL p bs ls).map encI)) w := by
  obtain ⟨en', w', e, done, s4, he, hd, hw⟩ := for_inv (b := bName 4) (body := bodyQ) encI (fun rest en v => ∃ done s4, en = [.dat (encF (n, ls)), .dat (encBs bs), .dat (encN p), .own ((possL p bs done).map encI), s4, .non] ∧ ls = done ++ rest ∧ v = w) (fun s rest en v hI => by
    obtain ⟨done, s4, rfl, hd, rfl⟩ := hI
    have hdl : ls.length = done.length + (rest.length + 1) := by rw [hd]; simp
    have := possL_len p bs done
    refine ⟨_, _, v, rfl, bodyQ_ev hp hn hB hb hbl (encF (n, ls)) (possL p bs done) (by omega) s, done ++ [s], .dat (encI s), ?_, by rw [hd]; simp, rfl⟩
    have : possL p bs (done ++ [s]) = possL p bs done ++ if barredB p bs s then [] else [s] := by
      unfold possL
      rw [List.filter_append, List.cons_append]
      cases hz : barredB p bs s <;> simp [hz]
    rw [this]) ls [.dat (encF (n, ls)), .dat (encBs bs), .dat (encN p), .own ((possL p bs []).map encI), .non, .non] w ⟨[], .non, rfl, rfl, rfl⟩
  subst he hw
  have hd' : ls = done := by simpa using hd
  subst hd'
  refine run_rt ((own_seq (ds := [encI []]) (w1 := w') rfl).trans ((seq_nx ((for_ev rfl).trans e)).trans ?_))
  rfl
/-! ### numbers near bars -/
def limsAt (bs : List Bar) (j : Nat) : List Fr := (bs.map fun b => b.2.getD j none).filterMap id
theorem limsAt_len (bs : List Bar) (j : Nat) : (limsAt bs j).length ≤ bs.length := by
  unfold limsAt
  have := List.length_filterMap_le id (bs.map fun b => b.2.getD j none)
  rw [List.length_map] at this
  exact this
end LW

namespace K22
open PySem PySem.Spec L2 DL PF LW
open PyProof.Rows hiding St
structure Txt (K : PySem.W.Frag) (TT : List (Addr × Str)) (mg : Str → Option Value) (base : Heap) : Prop where
  f__law_take : ∃ fd, FunD K "_law_take" "_law_take" (defArgs s__law_take) (defBody s__law_take) (defScope s__law_take) [] [] (He.ga K "_law_take") fd
  g__law_take : mg "_law_take" = some (.ref (He.ga K "_law_take"))
  f__law_of : ∃ fd, FunD K "_law_of" "_law_of" (defArgs s__law_of) (defBody s__law_of) (defScope s__law_of) [] [] (He.ga K "_law_of") fd
  g__law_of : mg "_law_of" = some (.ref (He.ga K "_law_of"))
  f__law_sets : ∃ fd, FunD K "_law_sets" "_law_sets" (defArgs s__law_sets) (defBody s__law_sets) (defScope s__law_sets) [] [] (He.ga K "_law_sets") fd
  g__law_sets : mg "_law_sets" = some (.ref (He.ga K "_law_sets"))
  f__law_low : ∃ fd, FunD K "_law_low" "_law_low" (defArgs s__law_low) (defBody s__law_low) (defScope s__law_low) [] [] (He.ga K "_law_low") fd
  g__law_low : mg "_law_low" = some (.ref (He.ga K "_law_low"))
  f__law_number : ∃ fd, FunD K "_law_number" "_law_number" (defArgs s__law_number) (defBody s__law_number) (defScope s__law_number) [] [] (He.ga K "_law_number") fd
  g__law_number : mg "_law_number" = some (.ref (He.ga K "_law_number"))
  f__law_corner : ∃ fd, FunD K "_law_corner" "_law_corner" (defArgs s__law_corner) (defBody s__law_corner) (defScope s__law_corner) [] [] (He.ga K "_law_corner") fd
  g__law_corner : mg "_law_corner" = some (.ref (He.ga K "_law_corner"))
  f__law_above : ∃ fd, FunD K "_law_above" "_law_above" (defArgs s__law_above) (defBody s__law_above) (defScope s__law_above) [] [] (He.ga K "_law_above") fd
  g__law_above : mg "_law_above" = some (.ref (He.ga K "_law_above"))
  f__law_bars : ∃ fd, FunD K "_law_bars" "_law_bars" (defArgs s__law_bars) (defBody s__law_bars) (defScope s__law_bars) [] [] (He.ga K "_law_bars") fd
  g__law_bars : mg "_law_bars" = some (.ref (He.ga K "_law_bars"))
  f__law_grain : ∃ fd, FunD K "_law_grain" "_law_grain" (defArgs s__law_grain) (defBody s__law_grain) (defScope s__law_grain) [] [] (He.ga K "_law_grain") fd
  g__law_grain : mg "_law_grain" = some (.ref (He.ga K "_law_grain"))
  f__law_frame : ∃ fd, FunD K "_law_frame" "_law_frame" (defArgs s__law_frame) (defBody s__law_frame) (defScope s__law_frame) [] [] (He.ga K "_law_frame") fd
  g__law_frame : mg "_law_frame" = some (.ref (He.ga K "_law_frame"))
  f_is_row : ∃ fd, FunD K "is_row" "is_row" (defArgs s_is_row) (defBody s_is_row) (defScope s_is_row) [] [] (He.ga K "is_row") fd
  g_is_row : mg "is_row" = some (.ref (He.ga K "is_row"))
  f_is_ascending : ∃ fd, FunD K "is_ascending" "is_ascending" (defArgs s_is_ascending) (defBody s_is_ascending) (defScope s_is_ascending) [] [] (He.ga K "is_ascending") fd
  g_is_ascending : mg "is_ascending" = some (.ref (He.ga K "is_ascending"))
  f_is_whole : ∃ fd, FunD K "is_whole" "is_whole" (defArgs s_is_whole) (defBody s_is_whole) (defScope s_is_whole) [] [] (He.ga K "is_whole") fd
  g_is_whole : mg "is_whole" = some (.ref (He.ga K "is_whole"))
  f_is_count : ∃ fd, FunD K "is_count" "is_count" (defArgs s_is_count) (defBody s_is_count) (defScope s_is_count) [] [] (He.ga K "is_count") fd
  g_is_count : mg "is_count" = some (.ref (He.ga K "is_count"))
  f_is_index : ∃ fd, FunD K "is_index" "is_index" (defArgs s_is_index) (defBody s_is_index) (defScope s_is_index) [] [] (He.ga K "is_index") fd
  g_is_index : mg "is_index" = some (.ref (He.ga K "is_index"))
  f_is_set : ∃ fd, FunD K "is_set" "is_set" (defArgs s_is_set) (defBody s_is_set) (defScope s_is_set) [] [] (He.ga K "is_set") fd
  g_is_set : mg "is_set" = some (.ref (He.ga K "is_set"))
  f_is_frame : ∃ fd, FunD K "is_frame" "is_frame" (defArgs s_is_frame) (defBody s_is_frame) (defScope s_is_frame) [] [] (He.ga K "is_frame") fd
  g_is_frame : mg "is_frame" = some (.ref (He.ga K "is_frame"))
  f_check_frame : ∃ fd, FunD K "check_frame" "check_frame" (defArgs s_check_frame) (defBody s_check_frame) (defScope s_check_frame) [] [] (He.ga K "check_frame") fd
  g_check_frame : mg "check_frame" = some (.ref (He.ga K "check_frame"))
  f_is_fraction : ∃ fd, FunD K "is_fraction" "is_fraction" (defArgs s_is_fraction) (defBody s_is_fraction) (defScope s_is_fraction) [] [] (He.ga K "is_fraction") fd
  g_is_fraction : mg "is_fraction" = some (.ref (He.ga K "is_fraction"))
  f_is_number : ∃ fd, FunD K "is_number" "is_number" (defArgs s_is_number) (defBody s_is_number) (defScope s_is_number) [] [] (He.ga K "is_number") fd
  g_is_number : mg "is_number" = some (.ref (He.ga K "is_number"))
  f_is_limit : ∃ fd, FunD K "is_limit" "is_limit" (defArgs s_is_limit) (defBody s_is_limit) (defScope s_is_limit) [] [] (He.ga K "is_limit") fd
  g_is_limit : mg "is_limit" = some (.ref (He.ga K "is_limit"))
  f_is_corner : ∃ fd, FunD K "is_corner" "is_corner" (defArgs s_is_corner) (defBody s_is_corner) (defScope s_is_corner) [] [] (He.ga K "is_corner") fd
  g_is_corner : mg "is_corner" = some (.ref (He.ga K "is_corner"))
  f_is_bar : ∃ fd, FunD K "is_bar" "is_bar" (defArgs s_is_bar) (defBody s_is_bar) (defScope s_is_bar) [] [] (He.ga K "is_bar") fd
  g_is_bar : mg "is_bar" = some (.ref (He.ga K "is_bar"))
  f_first_wrong_bar : ∃ fd, FunD K "first_wrong_bar" "first_wrong_bar" (defArgs s_first_wrong_bar) (defBody s_first_wrong_bar) (defScope s_first_wrong_bar) [] [] (He.ga K "first_wrong_bar") fd
  g_first_wrong_bar : mg "first_wrong_bar" = some (.ref (He.ga K "first_wrong_bar"))
  f_check_bars : ∃ fd, FunD K "check_bars" "check_bars" (defArgs s_check_bars) (defBody s_check_bars) (defScope s_check_bars) [] [] (He.ga K "check_bars") fd
  g_check_bars : mg "check_bars" = some (.ref (He.ga K "check_bars"))
  f_ranked : ∃ fd, FunD K "ranked" "ranked" (defArgs s_ranked) (defBody s_ranked) (defScope s_ranked) [] [] (He.ga K "ranked") fd
  g_ranked : mg "ranked" = some (.ref (He.ga K "ranked"))
  f_in_order : ∃ fd, FunD K "in_order" "in_order" (defArgs s_in_order) (defBody s_in_order) (defScope s_in_order) [] [] (He.ga K "in_order") fd
  g_in_order : mg "in_order" = some (.ref (He.ga K "in_order"))
  l_in_order : ∀ fd, FunD K "in_order" "in_order" (defArgs s_in_order) (defBody s_in_order) (defScope s_in_order) [] [] (He.ga K "in_order") fd → LTab TT mg base fd ((("in_order" : Str) ++ ".<locals>.") ++ "<lambda>")
  f_unlike_limits : ∃ fd, FunD K "unlike_limits" "unlike_limits" (defArgs s_unlike_limits) (defBody s_unlike_limits) (defScope s_unlike_limits) [] [] (He.ga K "unlike_limits") fd
  g_unlike_limits : mg "unlike_limits" = some (.ref (He.ga K "unlike_limits"))
  f_is_part : ∃ fd, FunD K "is_part" "is_part" (defArgs s_is_part) (defBody s_is_part) (defScope s_is_part) [] [] (He.ga K "is_part") fd
  g_is_part : mg "is_part" = some (.ref (He.ga K "is_part"))
  f_highest_within : ∃ fd, FunD K "highest_within" "highest_within" (defArgs s_highest_within) (defBody s_highest_within) (defScope s_highest_within) [] [] (He.ga K "highest_within") fd
  g_highest_within : mg "highest_within" = some (.ref (He.ga K "highest_within"))
  f_is_under : ∃ fd, FunD K "is_under" "is_under" (defArgs s_is_under) (defBody s_is_under) (defScope s_is_under) [] [] (He.ga K "is_under") fd
  g_is_under : mg "is_under" = some (.ref (He.ga K "is_under"))
  f_first_split : ∃ fd, FunD K "first_split" "first_split" (defArgs s_first_split) (defBody s_first_split) (defScope s_first_split) [] [] (He.ga K "first_split") fd
  g_first_split : mg "first_split" = some (.ref (He.ga K "first_split"))
  f_is_coherent : ∃ fd, FunD K "is_coherent" "is_coherent" (defArgs s_is_coherent) (defBody s_is_coherent) (defScope s_is_coherent) [] [] (He.ga K "is_coherent") fd
  g_is_coherent : mg "is_coherent" = some (.ref (He.ga K "is_coherent"))
  f__law_at_most : ∃ fd, FunD K "_law_at_most" "_law_at_most" (defArgs s__law_at_most) (defBody s__law_at_most) (defScope s__law_at_most) [] [] (He.ga K "_law_at_most") fd
  g__law_at_most : mg "_law_at_most" = some (.ref (He.ga K "_law_at_most"))
  f__law_inside : ∃ fd, FunD K "_law_inside" "_law_inside" (defArgs s__law_inside) (defBody s__law_inside) (defScope s__law_inside) [] [] (He.ga K "_law_inside") fd
  g__law_inside : mg "_law_inside" = some (.ref (He.ga K "_law_inside"))
  f__law_by_corners : ∃ fd, FunD K "_law_by_corners" "_law_by_corners" (defArgs s__law_by_corners) (defBody s__law_by_corners) (defScope s__law_by_corners) [] [] (He.ga K "_law_by_corners") fd
  g__law_by_corners : mg "_law_by_corners" = some (.ref (He.ga K "_law_by_corners"))
  f__law_bar_cells : ∃ fd, FunD K "_law_bar_cells" "_law_bar_cells" (defArgs s__law_bar_cells) (defBody s__law_bar_cells) (defScope s__law_bar_cells) [] [] (He.ga K "_law_bar_cells") fd
  g__law_bar_cells : mg "_law_bar_cells" = some (.ref (He.ga K "_law_bar_cells"))
  f__law_within : ∃ fd, FunD K "_law_within" "_law_within" (defArgs s__law_within) (defBody s__law_within) (defScope s__law_within) [] [] (He.ga K "_law_within") fd
  g__law_within : mg "_law_within" = some (.ref (He.ga K "_law_within"))
  f__law_possible : ∃ fd, FunD K "_law_possible" "_law_possible" (defArgs s__law_possible) (defBody s__law_possible) (defScope s__law_possible) [] [] (He.ga K "_law_possible") fd
  g__law_possible : mg "_law_possible" = some (.ref (He.ga K "_law_possible"))
  f__law_by_cells : ∃ fd, FunD K "_law_by_cells" "_law_by_cells" (defArgs s__law_by_cells) (defBody s__law_by_cells) (defScope s__law_by_cells) [] [] (He.ga K "_law_by_cells") fd
  g__law_by_cells : mg "_law_by_cells" = some (.ref (He.ga K "_law_by_cells"))
  f__law_right : ∃ fd, FunD K "_law_right" "_law_right" (defArgs s__law_right) (defBody s__law_right) (defScope s__law_right) [] [] (He.ga K "_law_right") fd
  g__law_right : mg "_law_right" = some (.ref (He.ga K "_law_right"))
  f__law_well : ∃ fd, FunD K "_law_well" "_law_well" (defArgs s__law_well) (defBody s__law_well) (defScope s__law_well) [] [] (He.ga K "_law_well") fd
  g__law_well : mg "_law_well" = some (.ref (He.ga K "_law_well"))
  f_law : ∃ fd, FunD K "law" "law" (defArgs s_law) (defBody s_law) (defScope s_law) [] [] (He.ga K "law") fd
  g_law : mg "law" = some (.ref (He.ga K "law"))
  k_ONE : mg "ONE" = some (.ref (He.ga K "ONE")) ∧ ConT K (He.ga K "ONE") [1, 1]
  z_abs : mg "abs" = none
  z_all : mg "all" = none
  z_any : mg "any" = none
  z_divmod : mg "divmod" = none
  z_enumerate : mg "enumerate" = none
  z_int : mg "int" = none
  z_len : mg "len" = none
  z_list : mg "list" = none
  z_max : mg "max" = none
  z_min : mg "min" = none
  z_range : mg "range" = none
  z_repr : mg "repr" = none
  z_sorted : mg "sorted" = none
  z_sum : mg "sum" = none
  z_tuple : mg "tuple" = none
  z_type : mg "type" = none
  z_zip : mg "zip" = none
  m_gcd : mg "gcd" = some (.builtin "math.gcd")
  c_MOST_BARS : ∃ t, mg "MOST_BARS" = some (.int 240 t)
  c_MOST_CORNERS : ∃ t, mg "MOST_CORNERS" = some (.int 60 t)
  c_MOST_COUNT : ∃ t, mg "MOST_COUNT" = some (.int 5 t)
variable {P : Program} {w : World} {K : Kt} {mg : Str → Option Value} {base : Heap}
theorem sc__law_take : FnScope ["well", "many", "digit", "factor"] ["well", "many"] (defScope s__law_take) := ⟨rfl, rfl, rfl, by decide +kernel, rfl, by decide +kernel, by decide +kernel⟩
abbrev cx__law_take (P : Program) (w : World) (K : PySem.W.Frag) (mg : Str → Option Value) (base : Heap) (cdv : Value) (A : Around) (outer : List Env) (s : Shared) (H : Hp) (E : XK) : Cx := cxOf (L2.CX P w) P w K mg base ["well", "many", "digit", "factor"] "_law_take" (defScope s__law_take) (He.ga K "_law_take") cdv A outer s H E
theorem fg__law_take (T : Txt K.K K.T mg base) {fd : FuncData} (F : FunD K.K "_law_take" "_law_take" (defArgs s__law_take) (defBody s__law_take) (defScope s__law_take) [] [] (He.ga K.K "_law_take") fd) : FG P w K mg base 1 (He.ga K "_law_take") fd ["well", "many"] (spD K 2 G__law_take) := by
  refine fg_of F sc__law_take (fun ds w h => rfl) (fun cdv hcv A outer s H E hr => ?_)
  have nd := (sc__law_take).nd
  have tk : Takes (cx__law_take P w K.K mg base cdv A outer s H E) (We E) := takes_of rfl rfl rfl rfl
  have hpo : PassesOwn (model P w) (cx__law_take P w K.K mg base cdv A outer s H E).A (cx__law_take P w K.K mg base cdv A outer s H E).env (cx__law_take P w K.K mg base cdv A outer s H E).xe := passes_of (X := cx__law_take P w K.K mg base cdv A outer s H E) rfl
  exact ⟨_, (dss_cons (ds_if (dt_gt (de_ix (de_var 0) de_int) de_int) (dss_cons (ds_take 0 2 nd rfl (by rfl) T.z_divmod de_int (de_ix (de_var 0) de_int) (de_var 1))
    (dss_one (ds_ret (de_var 2)))) dss_nil)
    (dss_cons (ds_put 0 (de_add (de_ix (de_var 0) de_int) de_int) de_int)
    (dss_cons (ds_set 3 nd (de_add de_int (de_mul de_int (de_mod (de_intOf (by rfl) T.z_int (dq_cons (de_fdiv (de_ix (de_var 0) de_int) de_int) da_nil)) de_int))))
    (dss_cons (ds_put 0 (de_mod (de_intOf (by rfl) T.z_int (dq_cons (de_add (de_add (de_mul (de_ix (de_var 0) de_int) (de_var 3)) (de_mul de_int (de_ix (de_var 0) de_int))) de_int) da_nil)) de_int) de_int)
    (dss_one (ds_ret (de_mod (de_intOf (by rfl) T.z_int (dq_cons (de_fdiv (de_ix (de_var 0) de_int) de_int) da_nil)) (de_var 1))))))))⟩
theorem cl__law_take (T : Txt K.K K.T mg base) : Cl P w K mg base 1 "_law_take" 2 G__law_take := by
  obtain ⟨fd, F⟩ := T.f__law_take
  exact ⟨fd, _, fg__law_take T F, T.g__law_take, F.kp, FunD.bindsN (ps := ["well", "many"]) F fun _ _ _ _ _ _ us hl => match us, hl with | [_, _], _ => rfl⟩
theorem sc__law_of : FnScope ["well", "some"] ["well", "some"] (defScope s__law_of) := ⟨rfl, rfl, rfl, by decide +kernel, rfl, by decide +kernel, by decide +kernel⟩
abbrev cx__law_of (P : Program) (w : World) (K : PySem.W.Frag) (mg : Str → Option Value) (base : Heap) (cdv : Value) (A : Around) (outer : List Env) (s : Shared) (H : Hp) (E : XK) : Cx := cxOf (L2.CX P w) P w K mg base ["well", "some"] "_law_of" (defScope s__law_of) (He.ga K "_law_of") cdv A outer s H E
theorem fg__law_of (T : Txt K.K K.T mg base) {fd : FuncData} (F : FunD K.K "_law_of" "_law_of" (defArgs s__law_of) (defBody s__law_of) (defScope s__law_of) [] [] (He.ga K.K "_law_of") fd) : FG P w K mg base 2 (He.ga K "_law_of") fd ["well", "some"] (spD K 2 G__law_of) := by
  refine fg_of F sc__law_of (fun ds w h => rfl) (fun cdv hcv A outer s H E hr => ?_)
  have nd := (sc__law_of).nd
  have tk : Takes (cx__law_of P w K.K mg base cdv A outer s H E) (We E) := takes_of rfl rfl rfl rfl
  have hpo : PassesOwn (model P w) (cx__law_of P w K.K mg base cdv A outer s H E).A (cx__law_of P w K.K mg base cdv A outer s H E).env (cx__law_of P w K.K mg base cdv A outer s H E).xe := passes_of (X := cx__law_of P w K.K mg base cdv A outer s H E) rfl
  exact ⟨_, (dss_one (ds_ret (de_ix (de_var 1) (de_c (cl__law_take T) hr tk (by decide) (by rfl) (da_cons (de_var 0) (da_cons (de_len (by rfl) T.z_len (dq_cons (de_var 1) da_nil)) da_nil))))))⟩
theorem cl__law_of (T : Txt K.K K.T mg base) : Cl P w K mg base 2 "_law_of" 2 G__law_of := by
  obtain ⟨fd, F⟩ := T.f__law_of
  exact ⟨fd, _, fg__law_of T F, T.g__law_of, F.kp, FunD.bindsN (ps := ["well", "some"]) F fun _ _ _ _ _ _ us hl => match us, hl with | [_, _], _ => rfl⟩
theorem sc__law_sets : FnScope ["count", "some", "i", "each"] ["count"] (defScope s__law_sets) := ⟨rfl, rfl, rfl, by decide +kernel, rfl, by decide +kernel, by decide +kernel⟩
abbrev cx__law_sets (P : Program) (w : World) (K : PySem.W.Frag) (mg : Str → Option Value) (base : Heap) (cdv : Value) (A : Around) (outer : List Env) (s : Shared) (H : Hp) (E : XK) : Cx := cxOf (L2.CX P w) P w K mg base ["count", "some", "i", "each"] "_law_sets" (defScope s__law_sets) (He.ga K "_law_sets") cdv A outer s H E
theorem fg__law_sets (T : Txt K.K K.T mg base) {fd : FuncData} (F : FunD K.K "_law_sets" "_law_sets" (defArgs s__law_sets) (defBody s__law_sets) (defScope s__law_sets) [] [] (He.ga K.K "_law_sets") fd) : FG P w K mg base 1 (He.ga K "_law_sets") fd ["count"] (spD K 1 G__law_sets) := by
  refine fg_of F sc__law_sets (fun ds w h => rfl) (fun cdv hcv A outer s H E hr => ?_)
  have nd := (sc__law_sets).nd
  have tk : Takes (cx__law_sets P w K.K mg base cdv A outer s H E) (We E) := takes_of rfl rfl rfl rfl
  have hpo : PassesOwn (model P w) (cx__law_sets P w K.K mg base cdv A outer s H E).A (cx__law_sets P w K.K mg base cdv A outer s H E).env (cx__law_sets P w K.K mg base cdv A outer s H E).xe := passes_of (X := cx__law_sets P w K.K mg base cdv A outer s H E) rfl
  exact ⟨_, (dss_cons (ds_set 1 nd (de_lst da_nil))
    (dss_cons (ds_for hpo rfl (di_rangeD (by rfl) T.z_range (dq_cons (de_sub (de_var 0) de_int) (dq_cons (de_neg de_int) (dq_cons (de_neg de_int) da_nil)))) (dg_name 2 nd) (dss_one (ds_set 1 nd (de_add (de_add (de_lst (da_cons (de_tup (da_cons (de_var 2) da_nil)) da_nil)) (de_lc (own := [("each", 3)]) rfl nd (di_seq (de_var 1)) (blkOk_by (by rfl)) (fun _ _ _ _ _ => (dg_name 3 nd)) (fun _ _ _ _ _ => (de_add (de_tup (da_cons (de_var 2) da_nil)) (de_var 3))))) (de_var 1)))))
    (dss_one (ds_ret (de_var 1)))))⟩
theorem cl__law_sets (T : Txt K.K K.T mg base) : Cl P w K mg base 1 "_law_sets" 1 G__law_sets := by
  obtain ⟨fd, F⟩ := T.f__law_sets
  exact ⟨fd, _, fg__law_sets T F, T.g__law_sets, F.kp, FunD.bindsN (ps := ["count"]) F fun _ _ _ _ _ _ us hl => match us, hl with | [_], _ => rfl⟩
theorem sc__law_low : FnScope ["n", "m", "a", "b"] ["n", "m"] (defScope s__law_low) := ⟨rfl, rfl, rfl, by decide +kernel, rfl, by decide +kernel, by decide +kernel⟩
abbrev cx__law_low (P : Program) (w : World) (K : PySem.W.Frag) (mg : Str → Option Value) (base : Heap) (cdv : Value) (A : Around) (outer : List Env) (s : Shared) (H : Hp) (E : XK) : Cx := cxOf (L2.CX P w) P w K mg base ["n", "m", "a", "b"] "_law_low" (defScope s__law_low) (He.ga K "_law_low") cdv A outer s H E
theorem fg__law_low (T : Txt K.K K.T mg base) {fd : FuncData} (F : FunD K.K "_law_low" "_law_low" (defArgs s__law_low) (defBody s__law_low) (defScope s__law_low) [] [] (He.ga K.K "_law_low") fd) : FG P w K mg base 1 (He.ga K "_law_low") fd ["n", "m"] (spD K 2 G__law_low) := by
  refine fg_of F sc__law_low (fun ds w h => rfl) (fun cdv hcv A outer s H E hr => ?_)
  have nd := (sc__law_low).nd
  have tk : Takes (cx__law_low P w K.K mg base cdv A outer s H E) (We E) := takes_of rfl rfl rfl rfl
  have hpo : PassesOwn (model P w) (cx__law_low P w K.K mg base cdv A outer s H E).A (cx__law_low P w K.K mg base cdv A outer s H E).env (cx__law_low P w K.K mg base cdv A outer s H E).xe := passes_of (X := cx__law_low P w K.K mg base cdv A outer s H E) rfl
  exact ⟨_, (dss_cons (ds_par 2 3 rfl nd (da_cons (de_abs (by rfl) T.z_abs (dq_cons (de_var 0) da_nil)) (da_cons (de_var 1) da_nil)))
    (dss_cons (ds_while (fuInt 3) hpo (dt_gt (de_var 3) de_int) (dss_one (ds_par 2 3 rfl nd (da_cons (de_var 3) (da_cons (de_mod (de_intOf (by rfl) T.z_int (dq_cons (de_var 2) da_nil)) (de_var 3)) da_nil)))))
    (dss_one (ds_ret (de_tup (da_cons (de_fdiv (de_var 0) (de_var 2)) (da_cons (de_fdiv (de_var 1) (de_var 2)) da_nil)))))))⟩
theorem cl__law_low (T : Txt K.K K.T mg base) : Cl P w K mg base 1 "_law_low" 2 G__law_low := by
  obtain ⟨fd, F⟩ := T.f__law_low
  exact ⟨fd, _, fg__law_low T F, T.g__law_low, F.kp, FunD.bindsN (ps := ["n", "m"]) F fun _ _ _ _ _ _ us hl => match us, hl with | [_, _], _ => rfl⟩
theorem sc__law_number : FnScope ["well", "grain", "base", "top"] ["well", "grain"] (defScope s__law_number) := ⟨rfl, rfl, rfl, by decide +kernel, rfl, by decide +kernel, by decide +kernel⟩
abbrev cx__law_number (P : Program) (w : World) (K : PySem.W.Frag) (mg : Str → Option Value) (base : Heap) (cdv : Value) (A : Around) (outer : List Env) (s : Shared) (H : Hp) (E : XK) : Cx := cxOf (L2.CX P w) P w K mg base ["well", "grain", "base", "top"] "_law_number" (defScope s__law_number) (He.ga K "_law_number") cdv A outer s H E
theorem fg__law_number (T : Txt K.K K.T mg base) {fd : FuncData} (F : FunD K.K "_law_number" "_law_number" (defArgs s__law_number) (defBody s__law_number) (defScope s__law_number) [] [] (He.ga K.K "_law_number") fd) : FG P w K mg base 2 (He.ga K "_law_number") fd ["well", "grain"] (spD K 2 G__law_number) := by
  refine fg_of F sc__law_number (fun ds w h => rfl) (fun cdv hcv A outer s H E hr => ?_)
  have nd := (sc__law_number).nd
  have tk : Takes (cx__law_number P w K.K mg base cdv A outer s H E) (We E) := takes_of rfl rfl rfl rfl
  have hpo : PassesOwn (model P w) (cx__law_number P w K.K mg base cdv A outer s H E).A (cx__law_number P w K.K mg base cdv A outer s H E).env (cx__law_number P w K.K mg base cdv A outer s H E).xe := passes_of (X := cx__law_number P w K.K mg base cdv A outer s H E) rfl
  exact ⟨_, (dss_cons (ds_asg (de_var 1) (dg_tup rfl (dgs_cons (dg_name 2 nd) (dgs_cons (dg_name 3 nd) dgs_nil)) 2))
    (dss_cons (ds_if (dt_lt hr.u (de_var 3) (de_pow de_int de_int)) (dss_one (ds_ret (de_c (cl__law_low T) hr tk (by decide) (by rfl) (da_cons (de_c (cl__law_take T) hr tk (by decide) (by rfl) (da_cons (de_var 0) (da_cons (de_add (de_var 3) de_int) da_nil))) (da_cons (de_var 2) da_nil))))) dss_nil)
    (dss_one (ds_ret (de_c (cl__law_low T) hr tk (by decide) (by rfl) (da_cons (de_add (de_mul (de_fdiv (de_var 3) (de_pow de_int de_int)) (de_c (cl__law_take T) hr tk (by decide) (by rfl) (da_cons (de_var 0) (da_cons (de_pow de_int de_int) da_nil)))) (de_c (cl__law_take T) hr tk (by decide) (by rfl) (da_cons (de_var 0) (da_cons de_int da_nil)))) (da_cons (de_var 2) da_nil)))))))⟩
theorem cl__law_number (T : Txt K.K K.T mg base) : Cl P w K mg base 2 "_law_number" 2 G__law_number := by
  obtain ⟨fd, F⟩ := T.f__law_number
  exact ⟨fd, _, fg__law_number T F, T.g__law_number, F.kp, FunD.bindsN (ps := ["well", "grain"]) F fun _ _ _ _ _ _ us hl => match us, hl with | [_, _], _ => rfl⟩
theorem sc__law_corner : FnScope ["well", "count", "lot", "grain", "sure", "corner", "i"] ["well", "count", "lot", "grain"] (defScope s__law_corner) := ⟨rfl, rfl, rfl, by decide +kernel, rfl, by decide +kernel, by decide +kernel⟩
abbrev cx__law_corner (P : Program) (w : World) (K : PySem.W.Frag) (mg : Str → Option Value) (base : Heap) (cdv : Value) (A : Around) (outer : List Env) (s : Shared) (H : Hp) (E : XK) : Cx := cxOf (L2.CX P w) P w K mg base ["well", "count", "lot", "grain", "sure", "corner", "i"] "_law_corner" (defScope s__law_corner) (He.ga K "_law_corner") cdv A outer s H E
theorem fg__law_corner (T : Txt K.K K.T mg base) {fd : FuncData} (F : FunD K.K "_law_corner" "_law_corner" (defArgs s__law_corner) (defBody s__law_corner) (defScope s__law_corner) [] [] (He.ga K.K "_law_corner") fd) : FG P w K mg base 3 (He.ga K "_law_corner") fd ["well", "count", "lot", "grain"] (spD K 4 G__law_corner) := by
  refine fg_of F sc__law_corner (fun ds w h => rfl) (fun cdv hcv A outer s H E hr => ?_)
  have nd := (sc__law_corner).nd
  have tk : Takes (cx__law_corner P w K.K mg base cdv A outer s H E) (We E) := takes_of rfl rfl rfl rfl
  have hpo : PassesOwn (model P w) (cx__law_corner P w K.K mg base cdv A outer s H E).A (cx__law_corner P w K.K mg base cdv A outer s H E).env (cx__law_corner P w K.K mg base cdv A outer s H E).xe := passes_of (X := cx__law_corner P w K.K mg base cdv A outer s H E) rfl
  exact ⟨_, (dss_cons (ds_set 4 nd (de_if (dt_gt (de_c (cl__law_take T) hr tk (by decide) (by rfl) (da_cons (de_var 0) (da_cons de_int da_nil))) de_int) (de_c (cl__law_of T) hr tk (by decide) (by rfl) (da_cons (de_var 0) (da_cons (de_var 2) da_nil))) (de_var 1)))
    (dss_cons (ds_own 5 nd (de_mulL (de_lst (da_cons de_non da_nil)) (de_var 1)))
    (dss_cons (ds_for hpo rfl (di_seq (de_var 2)) (dg_name 6 nd) (dss_one (ds_if (DW.dt (dw_or (dt_eq hr.u (de_var 6) (de_var 4)) (dw_or1 (dt_eq hr.u (de_c (cl__law_take T) hr tk (by decide) (by rfl) (da_cons (de_var 0) (da_cons de_int da_nil))) de_int)))) (dss_one (ds_put 5 (de_if (dt_gt (de_c (cl__law_take T) hr tk (by decide) (by rfl) (da_cons (de_var 0) (da_cons de_int da_nil))) de_int) (de_c (cl__law_number T) hr tk (by decide) (by rfl) (da_cons (de_var 0) (da_cons (de_var 3) da_nil))) (de_c (cl__law_of T) hr tk (by decide) (by rfl) (da_cons (de_var 0) (da_cons (de_lst (da_cons (de_tup (da_cons de_int (da_cons de_int da_nil))) (da_cons (de_tup (da_cons de_int (da_cons de_int da_nil))) da_nil))) da_nil)))) (de_var 6))) dss_nil)))
    (dss_one (ds_ret (de_tuple (by rfl) T.z_tuple (dq_cons (de_own 5) da_nil)))))))⟩
theorem cl__law_corner (T : Txt K.K K.T mg base) : Cl P w K mg base 3 "_law_corner" 4 G__law_corner := by
  obtain ⟨fd, F⟩ := T.f__law_corner
  exact ⟨fd, _, fg__law_corner T F, T.g__law_corner, F.kp, FunD.bindsN (ps := ["well", "count", "lot", "grain"]) F fun _ _ _ _ _ _ us hl => match us, hl with | [_, _, _, _], _ => rfl⟩
theorem sc__law_above : FnScope ["frame", "lot", "each", "i"] ["frame", "lot"] (defScope s__law_above) := ⟨rfl, rfl, rfl, by decide +kernel, rfl, by decide +kernel, by decide +kernel⟩
abbrev cx__law_above (P : Program) (w : World) (K : PySem.W.Frag) (mg : Str → Option Value) (base : Heap) (cdv : Value) (A : Around) (outer : List Env) (s : Shared) (H : Hp) (E : XK) : Cx := cxOf (L2.CX P w) P w K mg base ["frame", "lot", "each", "i"] "_law_above" (defScope s__law_above) (He.ga K "_law_above") cdv A outer s H E
theorem fg__law_above (T : Txt K.K K.T mg base) {fd : FuncData} (F : FunD K.K "_law_above" "_law_above" (defArgs s__law_above) (defBody s__law_above) (defScope s__law_above) [] [] (He.ga K.K "_law_above") fd) : FG P w K mg base 1 (He.ga K "_law_above") fd ["frame", "lot"] (spD K 2 G__law_above) := by
  refine fg_of F sc__law_above (fun ds w h => rfl) (fun cdv hcv A outer s H E hr => ?_)
  have nd := (sc__law_above).nd
  have tk : Takes (cx__law_above P w K.K mg base cdv A outer s H E) (We E) := takes_of rfl rfl rfl rfl
  have hpo : PassesOwn (model P w) (cx__law_above P w K.K mg base cdv A outer s H E).A (cx__law_above P w K.K mg base cdv A outer s H E).env (cx__law_above P w K.K mg base cdv A outer s H E).xe := passes_of (X := cx__law_above P w K.K mg base cdv A outer s H E) rfl
  exact ⟨_, (dss_one (ds_ret (de_lcIf (own := [("each", 2)]) rfl nd (di_seq (de_ix (de_var 0) de_int)) (blkOk_by (by rfl)) (fun _ _ _ _ _ => (dg_name 2 nd)) (fun _ _ _ _ _ => (DW.dt (dw_and (dt_ne hr.u (de_var 2) (de_var 1)) (dw_and1 (dt_eq hr.u (de_lcIf (own := [("i", 3)]) rfl nd (di_seq (de_var 1)) (blkOk_by (by rfl)) (fun _ _ _ _ _ => (dg_name 3 nd)) (fun _ _ _ _ _ => (dt_notin hr.u (de_var 3) (de_var 2))) (fun _ _ _ _ _ => (de_var 3))) (de_lst da_nil)))))) (fun _ _ _ _ _ => (de_var 2)))))⟩
theorem cl__law_above (T : Txt K.K K.T mg base) : Cl P w K mg base 1 "_law_above" 2 G__law_above := by
  obtain ⟨fd, F⟩ := T.f__law_above
  exact ⟨fd, _, fg__law_above T F, T.g__law_above, F.kp, FunD.bindsN (ps := ["frame", "lot"]) F fun _ _ _ _ _ _ us hl => match us, hl with | [_, _], _ => rfl⟩
theorem sc__law_bars : FnScope ["well", "frame", "grain", "many", "tops", "some", "lot", "turn", "way"] ["well", "frame", "grain", "many"] (defScope s__law_bars) := ⟨rfl, rfl, rfl, by decide +kernel, rfl, by decide +kernel, by decide +kernel⟩
abbrev cx__law_bars (P : Program) (w : World) (K : PySem.W.Frag) (mg : Str → Option Value) (base : Heap) (cdv : Value) (A : Around) (outer : List Env) (s : Shared) (H : Hp) (E : XK) : Cx := cxOf (L2.CX P w) P w K mg base ["well", "frame", "grain", "many", "tops", "some", "lot", "turn", "way"] "_law_bars" (defScope s__law_bars) (He.ga K "_law_bars") cdv A outer s H E
theorem fg__law_bars (T : Txt K.K K.T mg base) {fd : FuncData} (F : FunD K.K "_law_bars" "_law_bars" (defArgs s__law_bars) (defBody s__law_bars) (defScope s__law_bars) [] [] (He.ga K.K "_law_bars") fd) : FG P w K mg base 4 (He.ga K "_law_bars") fd ["well", "frame", "grain", "many"] (spD K 4 G__law_bars) := by
  refine fg_of F sc__law_bars (fun ds w h => rfl) (fun cdv hcv A outer s H E hr => ?_)
  have nd := (sc__law_bars).nd
  have tk : Takes (cx__law_bars P w K.K mg base cdv A outer s H E) (We E) := takes_of rfl rfl rfl rfl
  have hpo : PassesOwn (model P w) (cx__law_bars P w K.K mg base cdv A outer s H E).A (cx__law_bars P w K.K mg base cdv A outer s H E).env (cx__law_bars P w K.K mg base cdv A outer s H E).xe := passes_of (X := cx__law_bars P w K.K mg base cdv A outer s H E) rfl
  exact ⟨_, (dss_cons (ds_parM false true 4 5 rfl nd (dm_dat (de_lcIf (own := [("lot", 6)]) rfl nd (di_seq (de_ix (de_var 1) de_int)) (blkOk_by (by rfl)) (fun _ _ _ _ _ => (dg_name 6 nd)) (fun _ _ _ _ _ => (dt_eq hr.u (de_c (cl__law_above T) hr takes0 (by decide) (by rfl) (da_cons (de_var 1) (da_cons (de_var 6) da_nil))) (de_lst da_nil))) (fun _ _ _ _ _ => (de_var 6))) (dm_own (de_lst da_nil) (dm_nil))))
    (dss_cons (ds_for hpo rfl (di_range1 (by rfl) T.z_range (dq_cons (de_var 3) da_nil)) (dg_name 7 nd) (dss_cons (ds_set 8 nd (de_c (cl__law_take T) hr tk (by decide) (by rfl) (da_cons (de_var 0) (da_cons de_int da_nil))))
    (dss_cons (ds_set 6 nd (de_if (dt_eq hr.u (de_var 8) de_int) (de_c (cl__law_of T) hr tk (by decide) (by rfl) (da_cons (de_var 0) (da_cons (de_c (cl__law_sets T) hr tk (by decide) (by rfl) (da_cons (de_ix (de_var 1) de_int) da_nil)) da_nil))) (de_c (cl__law_of T) hr tk (by decide) (by rfl) (da_cons (de_var 0) (da_cons (de_if (dt_lt hr.u (de_var 8) de_int) (de_var 4) (de_ix (de_var 1) de_int)) da_nil)))))
    (dss_one (ds_app 5 (de_tup (da_cons (de_var 6) (da_cons (de_c (cl__law_corner T) hr tk (by decide) (by rfl) (da_cons (de_var 0) (da_cons (de_ix (de_var 1) de_int) (da_cons (de_list (by rfl) T.z_list (dq_cons (de_var 6) da_nil)) (da_cons (de_var 2) da_nil))))) da_nil))))))))
    (dss_one (ds_ret (de_tuple (by rfl) T.z_tuple (dq_cons (de_own 5) da_nil))))))⟩
theorem cl__law_bars (T : Txt K.K K.T mg base) : Cl P w K mg base 4 "_law_bars" 4 G__law_bars := by
  obtain ⟨fd, F⟩ := T.f__law_bars
  exact ⟨fd, _, fg__law_bars T F, T.g__law_bars, F.kp, FunD.bindsN (ps := ["well", "frame", "grain", "many"]) F fun _ _ _ _ _ _ us hl => match us, hl with | [_, _, _, _], _ => rfl⟩
theorem sc__law_grain : FnScope ["well", "base"] ["well"] (defScope s__law_grain) := ⟨rfl, rfl, rfl, by decide +kernel, rfl, by decide +kernel, by decide +kernel⟩
abbrev cx__law_grain (P : Program) (w : World) (K : PySem.W.Frag) (mg : Str → Option Value) (base : Heap) (cdv : Value) (A : Around) (outer : List Env) (s : Shared) (H : Hp) (E : XK) : Cx := cxOf (L2.CX P w) P w K mg base ["well", "base"] "_law_grain" (defScope s__law_grain) (He.ga K "_law_grain") cdv A outer s H E
theorem fg__law_grain (T : Txt K.K K.T mg base) {fd : FuncData} (F : FunD K.K "_law_grain" "_law_grain" (defArgs s__law_grain) (defBody s__law_grain) (defScope s__law_grain) [] [] (He.ga K.K "_law_grain") fd) : FG P w K mg base 3 (He.ga K "_law_grain") fd ["well"] (spD K 1 G__law_grain) := by
  refine fg_of F sc__law_grain (fun ds w h => rfl) (fun cdv hcv A outer s H E hr => ?_)
  have nd := (sc__law_grain).nd
  have tk : Takes (cx__law_grain P w K.K mg base cdv A outer s H E) (We E) := takes_of rfl rfl rfl rfl
  have hpo : PassesOwn (model P w) (cx__law_grain P w K.K mg base cdv A outer s H E).A (cx__law_grain P w K.K mg base cdv A outer s H E).env (cx__law_grain P w K.K mg base cdv A outer s H E).xe := passes_of (X := cx__law_grain P w K.K mg base cdv A outer s H E) rfl
  exact ⟨_, (dss_cons (ds_set 1 nd (de_c (cl__law_of T) hr tk (by decide) (by rfl) (da_cons (de_var 0) (da_cons (de_lst (da_cons de_int (da_cons de_int (da_cons de_int (da_cons de_int (da_cons de_int (da_cons de_int (da_cons de_int (da_cons de_int (da_cons de_int (da_cons (de_add (de_pow de_int de_int) de_int) (da_cons (de_add (de_pow de_int de_int) de_int) da_nil)))))))))))) da_nil))))
    (dss_one (ds_ret (de_lst (da_cons (de_var 1) (da_cons (de_max rfl (by rfl) T.z_max (dq_cons de_int (dq_cons (de_fdiv (de_var 1) (de_c (cl__law_of T) hr tk (by decide) (by rfl) (da_cons (de_var 0) (da_cons (de_lst (da_cons de_int (da_cons de_int (da_cons de_int (da_cons de_int (da_cons de_int (da_cons de_int da_nil))))))) da_nil)))) da_nil))) da_nil))))))⟩
theorem cl__law_grain (T : Txt K.K K.T mg base) : Cl P w K mg base 3 "_law_grain" 1 G__law_grain := by
  obtain ⟨fd, F⟩ := T.f__law_grain
  exact ⟨fd, _, fg__law_grain T F, T.g__law_grain, F.kp, FunD.bindsN (ps := ["well"]) F fun _ _ _ _ _ _ us hl => match us, hl with | [_], _ => rfl⟩
theorem sc__law_frame : FnScope ["well", "count", "sets", "keep", "lots", "each"] ["well", "count"] (defScope s__law_frame) := ⟨rfl, rfl, rfl, by decide +kernel, rfl, by decide +kernel, by decide +kernel⟩
abbrev cx__law_frame (P : Program) (w : World) (K : PySem.W.Frag) (mg : Str → Option Value) (base : Heap) (cdv : Value) (A : Around) (outer : List Env) (s : Shared) (H : Hp) (E : XK) : Cx := cxOf (L2.CX P w) P w K mg base ["well", "count", "sets", "keep", "lots", "each"] "_law_frame" (defScope s__law_frame) (He.ga K "_law_frame") cdv A outer s H E
theorem fg__law_frame (T : Txt K.K K.T mg base) {fd : FuncData} (F : FunD K.K "_law_frame" "_law_frame" (defArgs s__law_frame) (defBody s__law_frame) (defScope s__law_frame) [] [] (He.ga K.K "_law_frame") fd) : FG P w K mg base 3 (He.ga K "_law_frame") fd ["well", "count"] (spD K 2 G__law_frame) := by
  refine fg_of F sc__law_frame (fun ds w h => rfl) (fun cdv hcv A outer s H E hr => ?_)
  have nd := (sc__law_frame).nd
  have tk : Takes (cx__law_frame P w K.K mg base cdv A outer s H E) (We E) := takes_of rfl rfl rfl rfl
  have hpo : PassesOwn (model P w) (cx__law_frame P w K.K mg base cdv A outer s H E).A (cx__law_frame P w K.K mg base cdv A outer s H E).env (cx__law_frame P w K.K mg base cdv A outer s H E).xe := passes_of (X := cx__law_frame P w K.K mg base cdv A outer s H E) rfl
  exact ⟨_, (dss_cons (ds_asg (de_tup (da_cons (de_c (cl__law_sets T) hr tk (by decide) (by rfl) (da_cons (de_var 1) da_nil)) (da_cons (de_c (cl__law_take T) hr tk (by decide) (by rfl) (da_cons (de_var 0) (da_cons de_int da_nil))) da_nil))) (dg_tup rfl (dgs_cons (dg_name 2 nd) (dgs_cons (dg_name 3 nd) dgs_nil)) 2))
    (dss_cons (ds_setLcIf 4 (own := [("each", 5)]) rfl nd (di_seq (de_var 2)) (blkOk_by (by rfl)) (fun _ _ _ _ _ => (dg_name 5 nd)) (fun _ _ _ _ _ => (DW.dt (dw_or (dt_eq hr.u (de_var 3) de_int) (dw_or1 (dt_ge (de_c (cl__law_take T) hr takes0 (by decide) (by rfl) (da_cons (de_var 0) (da_cons de_int da_nil))) (de_var 3)))))) (fun _ _ _ _ _ => (de_var 5)) (sw_true rfl rfl rfl (by decide +kernel)))
    (dss_one (ds_ret (de_tup (da_cons (de_var 1) (da_cons (de_tuple (by rfl) T.z_tuple (dq_cons (de_if (dt_ne hr.u (de_var 4) (de_lst da_nil)) (de_var 4) (DE.st (de_lst (da_cons (de_c (cl__law_of T) hr tk (by decide) (by rfl) (da_cons (de_var 0) (da_cons (de_var 2) da_nil))) da_nil)))) da_nil)) da_nil)))))))⟩
theorem cl__law_frame (T : Txt K.K K.T mg base) : Cl P w K mg base 3 "_law_frame" 2 G__law_frame := by
  obtain ⟨fd, F⟩ := T.f__law_frame
  exact ⟨fd, _, fg__law_frame T F, T.g__law_frame, F.kp, FunD.bindsN (ps := ["well", "count"]) F fun _ _ _ _ _ _ us hl => match us, hl with | [_, _], _ => rfl⟩
theorem sc_is_row : FnScope ["value", "many"] ["value", "many"] (defScope s_is_row) := ⟨rfl, rfl, rfl, by decide +kernel, rfl, by decide +kernel, by decide +kernel⟩
abbrev cx_is_row (P : Program) (w : World) (K : PySem.W.Frag) (mg : Str → Option Value) (base : Heap) (cdv : Value) (A : Around) (outer : List Env) (s : Shared) (H : Hp) (E : XK) : Cx := cxOf (L2.CX P w) P w K mg base ["value", "many"] "is_row" (defScope s_is_row) (He.ga K "is_row") cdv A outer s H E
theorem fg_is_row (T : Txt K.K K.T mg base) {fd : FuncData} (F : FunD K.K "is_row" "is_row" (defArgs s_is_row) (defBody s_is_row) (defScope s_is_row) [] [] (He.ga K.K "is_row") fd) : FG P w K mg base 1 (He.ga K "is_row") fd ["value", "many"] (spD K 2 G_is_row) := by
  refine fg_of F sc_is_row (fun ds w h => rfl) (fun cdv hcv A outer s H E hr => ?_)
  have nd := (sc_is_row).nd
  have tk : Takes (cx_is_row P w K.K mg base cdv A outer s H E) (We E) := takes_of rfl rfl rfl rfl
  have hpo : PassesOwn (model P w) (cx_is_row P w K.K mg base cdv A outer s H E).A (cx_is_row P w K.K mg base cdv A outer s H E).env (cx_is_row P w K.K mg base cdv A outer s H E).xe := passes_of (X := cx_is_row P w K.K mg base cdv A outer s H E) rfl
  exact ⟨_, (dss_one (ds_ret (de_and (de_is (de_type (by rfl) T.z_type (dq_cons (de_var 0) da_nil)) (de_ty (by rfl) T.z_tuple (by decide +kernel))) (de_one (de_eq hr.u (de_len (by rfl) T.z_len (dq_cons (de_var 0) da_nil)) (de_var 1))))))⟩
theorem cl_is_row (T : Txt K.K K.T mg base) : Cl P w K mg base 1 "is_row" 2 G_is_row := by
  obtain ⟨fd, F⟩ := T.f_is_row
  exact ⟨fd, _, fg_is_row T F, T.g_is_row, F.kp, FunD.bindsN (ps := ["value", "many"]) F fun _ _ _ _ _ _ us hl => match us, hl with | [_, _], _ => rfl⟩
theorem sc_is_ascending : FnScope ["row", "one", "other"] ["row"] (defScope s_is_ascending) := ⟨rfl, rfl, rfl, by decide +kernel, rfl, by decide +kernel, by decide +kernel⟩
abbrev cx_is_ascending (P : Program) (w : World) (K : PySem.W.Frag) (mg : Str → Option Value) (base : Heap) (cdv : Value) (A : Around) (outer : List Env) (s : Shared) (H : Hp) (E : XK) : Cx := cxOf (L2.CX P w) P w K mg base ["row", "one", "other"] "is_ascending" (defScope s_is_ascending) (He.ga K "is_ascending") cdv A outer s H E
theorem fg_is_ascending (T : Txt K.K K.T mg base) {fd : FuncData} (F : FunD K.K "is_ascending" "is_ascending" (defArgs s_is_ascending) (defBody s_is_ascending) (defScope s_is_ascending) [] [] (He.ga K.K "is_ascending") fd) : FG P w K mg base 1 (He.ga K "is_ascending") fd ["row"] (spD K 1 G_is_ascending) := by
  refine fg_of F sc_is_ascending (fun ds w h => rfl) (fun cdv hcv A outer s H E hr => ?_)
  have nd := (sc_is_ascending).nd
  have tk : Takes (cx_is_ascending P w K.K mg base cdv A outer s H E) (We E) := takes_of rfl rfl rfl rfl
  have hpo : PassesOwn (model P w) (cx_is_ascending P w K.K mg base cdv A outer s H E).A (cx_is_ascending P w K.K mg base cdv A outer s H E).env (cx_is_ascending P w K.K mg base cdv A outer s H E).xe := passes_of (X := cx_is_ascending P w K.K mg base cdv A outer s H E) rfl
  exact ⟨_, (dss_one (ds_ret (de_all rfl (by rfl) T.z_all (dq_cons (de_lc (own := [("one", 1), ("other", 2)]) rfl nd (di_zip (by rfl) T.z_zip (dq_cons (de_var 0) (dq_cons (de_slice (de_var 0) (dp_some de_int) dp_none) da_nil))) (blkOk_by (by rfl)) (fun _ _ _ _ _ => (dg_tup rfl (dgs_cons (dg_name 1 nd) (dgs_cons (dg_name 2 nd) dgs_nil)) 2)) (fun _ _ _ _ _ => (de_lt hr.u (de_var 1) (de_var 2)))) da_nil))))⟩
theorem cl_is_ascending (T : Txt K.K K.T mg base) : Cl P w K mg base 1 "is_ascending" 1 G_is_ascending := by
  obtain ⟨fd, F⟩ := T.f_is_ascending
  exact ⟨fd, _, fg_is_ascending T F, T.g_is_ascending, F.kp, FunD.bindsN (ps := ["row"]) F fun _ _ _ _ _ _ us hl => match us, hl with | [_], _ => rfl⟩
theorem sc_is_whole : FnScope ["value"] ["value"] (defScope s_is_whole) := ⟨rfl, rfl, rfl, by decide +kernel, rfl, by decide +kernel, by decide +kernel⟩
abbrev cx_is_whole (P : Program) (w : World) (K : PySem.W.Frag) (mg : Str → Option Value) (base : Heap) (cdv : Value) (A : Around) (outer : List Env) (s : Shared) (H : Hp) (E : XK) : Cx := cxOf (L2.CX P w) P w K mg base ["value"] "is_whole" (defScope s_is_whole) (He.ga K "is_whole") cdv A outer s H E
theorem fg_is_whole (T : Txt K.K K.T mg base) {fd : FuncData} (F : FunD K.K "is_whole" "is_whole" (defArgs s_is_whole) (defBody s_is_whole) (defScope s_is_whole) [] [] (He.ga K.K "is_whole") fd) : FG P w K mg base 1 (He.ga K "is_whole") fd ["value"] (spD K 1 G_is_whole) := by
  refine fg_of F sc_is_whole (fun ds w h => rfl) (fun cdv hcv A outer s H E hr => ?_)
  have nd := (sc_is_whole).nd
  have tk : Takes (cx_is_whole P w K.K mg base cdv A outer s H E) (We E) := takes_of rfl rfl rfl rfl
  have hpo : PassesOwn (model P w) (cx_is_whole P w K.K mg base cdv A outer s H E).A (cx_is_whole P w K.K mg base cdv A outer s H E).env (cx_is_whole P w K.K mg base cdv A outer s H E).xe := passes_of (X := cx_is_whole P w K.K mg base cdv A outer s H E) rfl
  exact ⟨_, (dss_one (ds_ret (de_is (de_type (by rfl) T.z_type (dq_cons (de_var 0) da_nil)) (de_ty (by rfl) T.z_int (by decide +kernel)))))⟩
theorem cl_is_whole (T : Txt K.K K.T mg base) : Cl P w K mg base 1 "is_whole" 1 G_is_whole := by
  obtain ⟨fd, F⟩ := T.f_is_whole
  exact ⟨fd, _, fg_is_whole T F, T.g_is_whole, F.kp, FunD.bindsN (ps := ["value"]) F fun _ _ _ _ _ _ us hl => match us, hl with | [_], _ => rfl⟩
theorem sc_is_count : FnScope ["value"] ["value"] (defScope s_is_count) := ⟨rfl, rfl, rfl, by decide +kernel, rfl, by decide +kernel, by decide +kernel⟩
abbrev cx_is_count (P : Program) (w : World) (K : PySem.W.Frag) (mg : Str → Option Value) (base : Heap) (cdv : Value) (A : Around) (outer : List Env) (s : Shared) (H : Hp) (E : XK) : Cx := cxOf (L2.CX P w) P w K mg base ["value"] "is_count" (defScope s_is_count) (He.ga K "is_count") cdv A outer s H E
theorem fg_is_count (T : Txt K.K K.T mg base) {fd : FuncData} (F : FunD K.K "is_count" "is_count" (defArgs s_is_count) (defBody s_is_count) (defScope s_is_count) [] [] (He.ga K.K "is_count") fd) : FG P w K mg base 2 (He.ga K "is_count") fd ["value"] (spD K 1 G_is_count) := by
  refine fg_of F sc_is_count (fun ds w h => rfl) (fun cdv hcv A outer s H E hr => ?_)
  have nd := (sc_is_count).nd
  have tk : Takes (cx_is_count P w K.K mg base cdv A outer s H E) (We E) := takes_of rfl rfl rfl rfl
  have hpo : PassesOwn (model P w) (cx_is_count P w K.K mg base cdv A outer s H E).A (cx_is_count P w K.K mg base cdv A outer s H E).env (cx_is_count P w K.K mg base cdv A outer s H E).xe := passes_of (X := cx_is_count P w K.K mg base cdv A outer s H E) rfl
  exact ⟨_, (dss_one (ds_ret (de_and (de_c (cl_is_whole T) hr tk (by decide) (by rfl) (da_cons (de_var 0) da_nil)) (de_one (de_lele de_int (de_var 0) (de_gint (by rfl) T.c_MOST_COUNT))))))⟩
theorem cl_is_count (T : Txt K.K K.T mg base) : Cl P w K mg base 2 "is_count" 1 G_is_count := by
  obtain ⟨fd, F⟩ := T.f_is_count
  exact ⟨fd, _, fg_is_count T F, T.g_is_count, F.kp, FunD.bindsN (ps := ["value"]) F fun _ _ _ _ _ _ us hl => match us, hl with | [_], _ => rfl⟩
theorem sc_is_index : FnScope ["count", "value"] ["count", "value"] (defScope s_is_index) := ⟨rfl, rfl, rfl, by decide +kernel, rfl, by decide +kernel, by decide +kernel⟩
abbrev cx_is_index (P : Program) (w : World) (K : PySem.W.Frag) (mg : Str → Option Value) (base : Heap) (cdv : Value) (A : Around) (outer : List Env) (s : Shared) (H : Hp) (E : XK) : Cx := cxOf (L2.CX P w) P w K mg base ["count", "value"] "is_index" (defScope s_is_index) (He.ga K "is_index") cdv A outer s H E
theorem fg_is_index (T : Txt K.K K.T mg base) {fd : FuncData} (F : FunD K.K "is_index" "is_index" (defArgs s_is_index) (defBody s_is_index) (defScope s_is_index) [] [] (He.ga K.K "is_index") fd) : FG P w K mg base 2 (He.ga K "is_index") fd ["count", "value"] (spD K 2 G_is_index) := by
  refine fg_of F sc_is_index (fun ds w h => rfl) (fun cdv hcv A outer s H E hr => ?_)
  have nd := (sc_is_index).nd
  have tk : Takes (cx_is_index P w K.K mg base cdv A outer s H E) (We E) := takes_of rfl rfl rfl rfl
  have hpo : PassesOwn (model P w) (cx_is_index P w K.K mg base cdv A outer s H E).A (cx_is_index P w K.K mg base cdv A outer s H E).env (cx_is_index P w K.K mg base cdv A outer s H E).xe := passes_of (X := cx_is_index P w K.K mg base cdv A outer s H E) rfl
  exact ⟨_, (dss_one (ds_ret (de_and (de_c (cl_is_whole T) hr tk (by decide) (by rfl) (da_cons (de_var 1) da_nil)) (de_one (de_lelt de_int (de_var 1) (de_var 0))))))⟩
theorem cl_is_index (T : Txt K.K K.T mg base) : Cl P w K mg base 2 "is_index" 2 G_is_index := by
  obtain ⟨fd, F⟩ := T.f_is_index
  exact ⟨fd, _, fg_is_index T F, T.g_is_index, F.kp, FunD.bindsN (ps := ["count", "value"]) F fun _ _ _ _ _ _ us hl => match us, hl with | [_, _], _ => rfl⟩
theorem sc_is_set : FnScope ["count", "value", "each"] ["count", "value"] (defScope s_is_set) := ⟨rfl, rfl, rfl, by decide +kernel, rfl, by decide +kernel, by decide +kernel⟩
abbrev cx_is_set (P : Program) (w : World) (K : PySem.W.Frag) (mg : Str → Option Value) (base : Heap) (cdv : Value) (A : Around) (outer : List Env) (s : Shared) (H : Hp) (E : XK) : Cx := cxOf (L2.CX P w) P w K mg base ["count", "value", "each"] "is_set" (defScope s_is_set) (He.ga K "is_set") cdv A outer s H E
theorem fg_is_set (T : Txt K.K K.T mg base) {fd : FuncData} (F : FunD K.K "is_set" "is_set" (defArgs s_is_set) (defBody s_is_set) (defScope s_is_set) [] [] (He.ga K.K "is_set") fd) : FG P w K mg base 3 (He.ga K "is_set") fd ["count", "value"] (spD K 2 G_is_set) := by
  refine fg_of F sc_is_set (fun ds w h => rfl) (fun cdv hcv A outer s H E hr => ?_)
  have nd := (sc_is_set).nd
  have tk : Takes (cx_is_set P w K.K mg base cdv A outer s H E) (We E) := takes_of rfl rfl rfl rfl
  have hpo : PassesOwn (model P w) (cx_is_set P w K.K mg base cdv A outer s H E).A (cx_is_set P w K.K mg base cdv A outer s H E).env (cx_is_set P w K.K mg base cdv A outer s H E).xe := passes_of (X := cx_is_set P w K.K mg base cdv A outer s H E) rfl
  exact ⟨_, (dss_cons (ds_if (DW.dt (dw_or (dt_isnot (de_type (by rfl) T.z_type (dq_cons (de_var 1) da_nil)) (de_ty (by rfl) T.z_tuple (by decide +kernel))) (dw_or1 (dt_eq hr.u (de_len (by rfl) T.z_len (dq_cons (de_var 1) da_nil)) de_int)))) (dss_one (ds_ret de_bl)) dss_nil)
    (dss_one (ds_ret (de_and (de_all rfl (by rfl) T.z_all (dq_cons (de_lc (own := [("each", 2)]) rfl nd (di_seq (de_var 1)) (blkOk_by (by rfl)) (fun _ _ _ _ _ => (dg_name 2 nd)) (fun _ _ _ _ _ => (de_c (cl_is_index T) hr takes0 (by decide) (by rfl) (da_cons (de_var 0) (da_cons (de_var 2) da_nil))))) da_nil)) (de_one (de_c (cl_is_ascending T) hr tk (by decide) (by rfl) (da_cons (de_var 1) da_nil)))))))⟩
theorem cl_is_set (T : Txt K.K K.T mg base) : Cl P w K mg base 3 "is_set" 2 G_is_set := by
  obtain ⟨fd, F⟩ := T.f_is_set
  exact ⟨fd, _, fg_is_set T F, T.g_is_set, F.kp, FunD.bindsN (ps := ["count", "value"]) F fun _ _ _ _ _ _ us hl => match us, hl with | [_, _], _ => rfl⟩
theorem sc_is_frame : FnScope ["value", "count", "lots", "lot"] ["value"] (defScope s_is_frame) := ⟨rfl, rfl, rfl, by decide +kernel, rfl, by decide +kernel, by decide +kernel⟩
abbrev cx_is_frame (P : Program) (w : World) (K : PySem.W.Frag) (mg : Str → Option Value) (base : Heap) (cdv : Value) (A : Around) (outer : List Env) (s : Shared) (H : Hp) (E : XK) : Cx := cxOf (L2.CX P w) P w K mg base ["value", "count", "lots", "lot"] "is_frame" (defScope s_is_frame) (He.ga K "is_frame") cdv A outer s H E
theorem fg_is_frame (T : Txt K.K K.T mg base) {fd : FuncData} (F : FunD K.K "is_frame" "is_frame" (defArgs s_is_frame) (defBody s_is_frame) (defScope s_is_frame) [] [] (He.ga K.K "is_frame") fd) : FG P w K mg base 4 (He.ga K "is_frame") fd ["value"] (spD K 1 G_is_frame) := by
  refine fg_of F sc_is_frame (fun ds w h => rfl) (fun cdv hcv A outer s H E hr => ?_)
  have nd := (sc_is_frame).nd
  have tk : Takes (cx_is_frame P w K.K mg base cdv A outer s H E) (We E) := takes_of rfl rfl rfl rfl
  have hpo : PassesOwn (model P w) (cx_is_frame P w K.K mg base cdv A outer s H E).A (cx_is_frame P w K.K mg base cdv A outer s H E).env (cx_is_frame P w K.K mg base cdv A outer s H E).xe := passes_of (X := cx_is_frame P w K.K mg base cdv A outer s H E) rfl
  exact ⟨_, (dss_cons (ds_if (dt_not (dt_truth (de_c (cl_is_row T) hr tk (by decide) (by rfl) (da_cons (de_var 0) (da_cons de_int da_nil))))) (dss_one (ds_ret de_bl)) dss_nil)
    (dss_cons (ds_asg (de_var 0) (dg_tup rfl (dgs_cons (dg_name 1 nd) (dgs_cons (dg_name 2 nd) dgs_nil)) 2))
    (dss_cons (ds_if (DW.dt (dw_or (dt_not (dt_truth (de_c (cl_is_count T) hr tk (by decide) (by rfl) (da_cons (de_var 1) da_nil)))) (dw_or (dt_isnot (de_type (by rfl) T.z_type (dq_cons (de_var 2) da_nil)) (de_ty (by rfl) T.z_tuple (by decide +kernel))) (dw_or1 (dt_eq hr.u (de_len (by rfl) T.z_len (dq_cons (de_var 2) da_nil)) de_int))))) (dss_one (ds_ret de_bl)) dss_nil)
    (dss_one (ds_ret (de_and (de_all rfl (by rfl) T.z_all (dq_cons (de_lc (own := [("lot", 3)]) rfl nd (di_seq (de_var 2)) (blkOk_by (by rfl)) (fun _ _ _ _ _ => (dg_name 3 nd)) (fun _ _ _ _ _ => (de_c (cl_is_set T) hr takes0 (by decide) (by rfl) (da_cons (de_var 1) (da_cons (de_var 3) da_nil))))) da_nil)) (de_one (de_c (cl_is_ascending T) hr tk (by decide) (by rfl) (da_cons (de_var 2) da_nil)))))))))⟩
theorem cl_is_frame (T : Txt K.K K.T mg base) : Cl P w K mg base 4 "is_frame" 1 G_is_frame := by
  obtain ⟨fd, F⟩ := T.f_is_frame
  exact ⟨fd, _, fg_is_frame T F, T.g_is_frame, F.kp, FunD.bindsN (ps := ["value"]) F fun _ _ _ _ _ _ us hl => match us, hl with | [_], _ => rfl⟩
theorem sc_check_frame : FnScope ["frame"] ["frame"] (defScope s_check_frame) := ⟨rfl, rfl, rfl, by decide +kernel, rfl, by decide +kernel, by decide +kernel⟩
abbrev cx_check_frame (P : Program) (w : World) (K : PySem.W.Frag) (mg : Str → Option Value) (base : Heap) (cdv : Value) (A : Around) (outer : List Env) (s : Shared) (H : Hp) (E : XK) : Cx := cxOf (L2.CX P w) P w K mg base ["frame"] "check_frame" (defScope s_check_frame) (He.ga K "check_frame") cdv A outer s H E
theorem fg_check_frame (T : Txt K.K K.T mg base) {fd : FuncData} (F : FunD K.K "check_frame" "check_frame" (defArgs s_check_frame) (defBody s_check_frame) (defScope s_check_frame) [] [] (He.ga K.K "check_frame") fd) : FG P w K mg base 5 (He.ga K "check_frame") fd ["frame"] (spD K 1 G_check_frame) := by
  refine fg_of F sc_check_frame (fun ds w h => rfl) (fun cdv hcv A outer s H E hr => ?_)
  have nd := (sc_check_frame).nd
  have tk : Takes (cx_check_frame P w K.K mg base cdv A outer s H E) (We E) := takes_of rfl rfl rfl rfl
  have hpo : PassesOwn (model P w) (cx_check_frame P w K.K mg base cdv A outer s H E).A (cx_check_frame P w K.K mg base cdv A outer s H E).env (cx_check_frame P w K.K mg base cdv A outer s H E).xe := passes_of (X := cx_check_frame P w K.K mg base cdv A outer s H E) rfl
  exact ⟨_, (dss_one (ds_if (dt_not (dt_truth (de_c (cl_is_frame T) hr tk (by decide) (by rfl) (da_cons (de_var 0) da_nil)))) (dss_one (ds_never)) dss_nil))⟩
theorem cl_check_frame (T : Txt K.K K.T mg base) : Cl P w K mg base 5 "check_frame" 1 G_check_frame := by
  obtain ⟨fd, F⟩ := T.f_check_frame
  exact ⟨fd, _, fg_check_frame T F, T.g_check_frame, F.kp, FunD.bindsN (ps := ["frame"]) F fun _ _ _ _ _ _ us hl => match us, hl with | [_], _ => rfl⟩
theorem sc_is_fraction : FnScope ["value", "top", "bottom"] ["value"] (defScope s_is_fraction) := ⟨rfl, rfl, rfl, by decide +kernel, rfl, by decide +kernel, by decide +kernel⟩
abbrev cx_is_fraction (P : Program) (w : World) (K : PySem.W.Frag) (mg : Str → Option Value) (base : Heap) (cdv : Value) (A : Around) (outer : List Env) (s : Shared) (H : Hp) (E : XK) : Cx := cxOf (L2.CX P w) P w K mg base ["value", "top", "bottom"] "is_fraction" (defScope s_is_fraction) (He.ga K "is_fraction") cdv A outer s H E
theorem fg_is_fraction (T : Txt K.K K.T mg base) {fd : FuncData} (F : FunD K.K "is_fraction" "is_fraction" (defArgs s_is_fraction) (defBody s_is_fraction) (defScope s_is_fraction) [] [] (He.ga K.K "is_fraction") fd) : FG P w K mg base 2 (He.ga K "is_fraction") fd ["value"] (spD K 1 G_is_fraction) := by
  refine fg_of F sc_is_fraction (fun ds w h => rfl) (fun cdv hcv A outer s H E hr => ?_)
  have nd := (sc_is_fraction).nd
  have tk : Takes (cx_is_fraction P w K.K mg base cdv A outer s H E) (We E) := takes_of rfl rfl rfl rfl
  have hpo : PassesOwn (model P w) (cx_is_fraction P w K.K mg base cdv A outer s H E).A (cx_is_fraction P w K.K mg base cdv A outer s H E).env (cx_is_fraction P w K.K mg base cdv A outer s H E).xe := passes_of (X := cx_is_fraction P w K.K mg base cdv A outer s H E) rfl
  exact ⟨_, (dss_cons (ds_if (dt_not (dt_truth (de_c (cl_is_row T) hr tk (by decide) (by rfl) (da_cons (de_var 0) (da_cons de_int da_nil))))) (dss_one (ds_ret de_bl)) dss_nil)
    (dss_cons (ds_asg (de_var 0) (dg_tup rfl (dgs_cons (dg_name 1 nd) (dgs_cons (dg_name 2 nd) dgs_nil)) 2))
    (dss_one (ds_ret (de_and (de_c (cl_is_whole T) hr tk (by decide) (by rfl) (da_cons (de_var 1) da_nil)) (de_and (de_c (cl_is_whole T) hr tk (by decide) (by rfl) (da_cons (de_var 2) da_nil)) (de_and (de_gt (de_var 2) de_int) (de_one (de_eq hr.u (de_gcd (by rfl) T.m_gcd (dq_cons (de_var 1) (dq_cons (de_var 2) da_nil))) de_int)))))))))⟩
theorem cl_is_fraction (T : Txt K.K K.T mg base) : Cl P w K mg base 2 "is_fraction" 1 G_is_fraction := by
  obtain ⟨fd, F⟩ := T.f_is_fraction
  exact ⟨fd, _, fg_is_fraction T F, T.g_is_fraction, F.kp, FunD.bindsN (ps := ["value"]) F fun _ _ _ _ _ _ us hl => match us, hl with | [_], _ => rfl⟩
theorem sc_is_number : FnScope ["value"] ["value"] (defScope s_is_number) := ⟨rfl, rfl, rfl, by decide +kernel, rfl, by decide +kernel, by decide +kernel⟩
abbrev cx_is_number (P : Program) (w : World) (K : PySem.W.Frag) (mg : Str → Option Value) (base : Heap) (cdv : Value) (A : Around) (outer : List Env) (s : Shared) (H : Hp) (E : XK) : Cx := cxOf (L2.CX P w) P w K mg base ["value"] "is_number" (defScope s_is_number) (He.ga K "is_number") cdv A outer s H E
theorem fg_is_number (T : Txt K.K K.T mg base) {fd : FuncData} (F : FunD K.K "is_number" "is_number" (defArgs s_is_number) (defBody s_is_number) (defScope s_is_number) [] [] (He.ga K.K "is_number") fd) : FG P w K mg base 3 (He.ga K "is_number") fd ["value"] (spD K 1 G_is_number) := by
  refine fg_of F sc_is_number (fun ds w h => rfl) (fun cdv hcv A outer s H E hr => ?_)
  have nd := (sc_is_number).nd
  have tk : Takes (cx_is_number P w K.K mg base cdv A outer s H E) (We E) := takes_of rfl rfl rfl rfl
  have hpo : PassesOwn (model P w) (cx_is_number P w K.K mg base cdv A outer s H E).A (cx_is_number P w K.K mg base cdv A outer s H E).env (cx_is_number P w K.K mg base cdv A outer s H E).xe := passes_of (X := cx_is_number P w K.K mg base cdv A outer s H E) rfl
  exact ⟨_, (dss_one (ds_ret (de_and (de_c (cl_is_fraction T) hr tk (by decide) (by rfl) (da_cons (de_var 0) da_nil)) (de_one (de_lele de_int (de_ix (de_var 0) de_int) (de_ix (de_var 0) de_int))))))⟩
theorem cl_is_number (T : Txt K.K K.T mg base) : Cl P w K mg base 3 "is_number" 1 G_is_number := by
  obtain ⟨fd, F⟩ := T.f_is_number
  exact ⟨fd, _, fg_is_number T F, T.g_is_number, F.kp, FunD.bindsN (ps := ["value"]) F fun _ _ _ _ _ _ us hl => match us, hl with | [_], _ => rfl⟩
theorem sc_is_limit : FnScope ["value"] ["value"] (defScope s_is_limit) := ⟨rfl, rfl, rfl, by decide +kernel, rfl, by decide +kernel, by decide +kernel⟩
abbrev cx_is_limit (P : Program) (w : World) (K : PySem.W.Frag) (mg : Str → Option Value) (base : Heap) (cdv : Value) (A : Around) (outer : List Env) (s : Shared) (H : Hp) (E : XK) : Cx := cxOf (L2.CX P w) P w K mg base ["value"] "is_limit" (defScope s_is_limit) (He.ga K "is_limit") cdv A outer s H E
theorem fg_is_limit (T : Txt K.K K.T mg base) {fd : FuncData} (F : FunD K.K "is_limit" "is_limit" (defArgs s_is_limit) (defBody s_is_limit) (defScope s_is_limit) [] [] (He.ga K.K "is_limit") fd) : FG P w K mg base 4 (He.ga K "is_limit") fd ["value"] (spD K 1 G_is_limit) := by
  refine fg_of F sc_is_limit (fun ds w h => rfl) (fun cdv hcv A outer s H E hr => ?_)
  have nd := (sc_is_limit).nd
  have tk : Takes (cx_is_limit P w K.K mg base cdv A outer s H E) (We E) := takes_of rfl rfl rfl rfl
  have hpo : PassesOwn (model P w) (cx_is_limit P w K.K mg base cdv A outer s H E).A (cx_is_limit P w K.K mg base cdv A outer s H E).env (cx_is_limit P w K.K mg base cdv A outer s H E).xe := passes_of (X := cx_is_limit P w K.K mg base cdv A outer s H E) rfl
  exact ⟨_, (dss_one (ds_ret (de_or (de_is (de_var 0) de_non) (de_one (de_c (cl_is_number T) hr tk (by decide) (by rfl) (da_cons (de_var 0) da_nil))))))⟩
theorem cl_is_limit (T : Txt K.K K.T mg base) : Cl P w K mg base 4 "is_limit" 1 G_is_limit := by
  obtain ⟨fd, F⟩ := T.f_is_limit
  exact ⟨fd, _, fg_is_limit T F, T.g_is_limit, F.kp, FunD.bindsN (ps := ["value"]) F fun _ _ _ _ _ _ us hl => match us, hl with | [_], _ => rfl⟩
theorem sc_is_corner : FnScope ["count", "value", "limit"] ["count", "value"] (defScope s_is_corner) := ⟨rfl, rfl, rfl, by decide +kernel, rfl, by decide +kernel, by decide +kernel⟩
abbrev cx_is_corner (P : Program) (w : World) (K : PySem.W.Frag) (mg : Str → Option Value) (base : Heap) (cdv : Value) (A : Around) (outer : List Env) (s : Shared) (H : Hp) (E : XK) : Cx := cxOf (L2.CX P w) P w K mg base ["count", "value", "limit"] "is_corner" (defScope s_is_corner) (He.ga K "is_corner") cdv A outer s H E
theorem fg_is_corner (T : Txt K.K K.T mg base) {fd : FuncData} (F : FunD K.K "is_corner" "is_corner" (defArgs s_is_corner) (defBody s_is_corner) (defScope s_is_corner) [] [] (He.ga K.K "is_corner") fd) : FG P w K mg base 5 (He.ga K "is_corner") fd ["count", "value"] (spD K 2 G_is_corner) := by
  refine fg_of F sc_is_corner (fun ds w h => rfl) (fun cdv hcv A outer s H E hr => ?_)
  have nd := (sc_is_corner).nd
  have tk : Takes (cx_is_corner P w K.K mg base cdv A outer s H E) (We E) := takes_of rfl rfl rfl rfl
  have hpo : PassesOwn (model P w) (cx_is_corner P w K.K mg base cdv A outer s H E).A (cx_is_corner P w K.K mg base cdv A outer s H E).env (cx_is_corner P w K.K mg base cdv A outer s H E).xe := passes_of (X := cx_is_corner P w K.K mg base cdv A outer s H E) rfl
  exact ⟨_, (dss_one (ds_ret (de_and (de_c (cl_is_row T) hr tk (by decide) (by rfl) (da_cons (de_var 1) (da_cons (de_var 0) da_nil))) (de_one (de_all rfl (by rfl) T.z_all (dq_cons (de_lc (own := [("limit", 2)]) rfl nd (di_seq (de_var 1)) (blkOk_by (by rfl)) (fun _ _ _ _ _ => (dg_name 2 nd)) (fun _ _ _ _ _ => (de_c (cl_is_limit T) hr takes0 (by decide) (by rfl) (da_cons (de_var 2) da_nil)))) da_nil))))))⟩
theorem cl_is_corner (T : Txt K.K K.T mg base) : Cl P w K mg base 5 "is_corner" 2 G_is_corner := by
  obtain ⟨fd, F⟩ := T.f_is_corner
  exact ⟨fd, _, fg_is_corner T F, T.g_is_corner, F.kp, FunD.bindsN (ps := ["count", "value"]) F fun _ _ _ _ _ _ us hl => match us, hl with | [_, _], _ => rfl⟩
theorem sc_is_bar : FnScope ["count", "value", "lot", "corner", "at", "limit"] ["count", "value"] (defScope s_is_bar) := ⟨rfl, rfl, rfl, by decide +kernel, rfl, by decide +kernel, by decide +kernel⟩
abbrev cx_is_bar (P : Program) (w : World) (K : PySem.W.Frag) (mg : Str → Option Value) (base : Heap) (cdv : Value) (A : Around) (outer : List Env) (s : Shared) (H : Hp) (E : XK) : Cx := cxOf (L2.CX P w) P w K mg base ["count", "value", "lot", "corner", "at", "limit"] "is_bar" (defScope s_is_bar) (He.ga K "is_bar") cdv A outer s H E
theorem fg_is_bar (T : Txt K.K K.T mg base) {fd : FuncData} (F : FunD K.K "is_bar" "is_bar" (defArgs s_is_bar) (defBody s_is_bar) (defScope s_is_bar) [] [] (He.ga K.K "is_bar") fd) : FG P w K mg base 6 (He.ga K "is_bar") fd ["count", "value"] (spD K 2 G_is_bar) := by
  refine fg_of F sc_is_bar (fun ds w h => rfl) (fun cdv hcv A outer s H E hr => ?_)
  have nd := (sc_is_bar).nd
  have tk : Takes (cx_is_bar P w K.K mg base cdv A outer s H E) (We E) := takes_of rfl rfl rfl rfl
  have hpo : PassesOwn (model P w) (cx_is_bar P w K.K mg base cdv A outer s H E).A (cx_is_bar P w K.K mg base cdv A outer s H E).env (cx_is_bar P w K.K mg base cdv A outer s H E).xe := passes_of (X := cx_is_bar P w K.K mg base cdv A outer s H E) rfl
  exact ⟨_, (dss_cons (ds_if (dt_not (dt_truth (de_c (cl_is_row T) hr tk (by decide) (by rfl) (da_cons (de_var 1) (da_cons de_int da_nil))))) (dss_one (ds_ret de_bl)) dss_nil)
    (dss_cons (ds_asg (de_var 1) (dg_tup rfl (dgs_cons (dg_name 2 nd) (dgs_cons (dg_name 3 nd) dgs_nil)) 2))
    (dss_cons (ds_if (DW.dt (dw_or (dt_not (dt_truth (de_c (cl_is_set T) hr tk (by decide) (by rfl) (da_cons (de_var 0) (da_cons (de_var 2) da_nil))))) (dw_or1 (dt_not (dt_truth (de_c (cl_is_corner T) hr tk (by decide) (by rfl) (da_cons (de_var 0) (da_cons (de_var 3) da_nil)))))))) (dss_one (ds_ret de_bl)) dss_nil)
    (dss_one (ds_ret (de_all rfl (by rfl) T.z_all (dq_cons (de_lc (own := [("at", 4), ("limit", 5)]) rfl nd (di_enum (by rfl) T.z_enumerate (dq_cons (de_var 3) da_nil)) (blkOk_by (by rfl)) (fun _ _ _ _ _ => (dg_tup rfl (dgs_cons (dg_name 4 nd) (dgs_cons (dg_name 5 nd) dgs_nil)) 2)) (fun _ _ _ _ _ => (de_or (de_is (de_var 5) de_non) (de_one (de_in hr.u (de_var 4) (de_var 2)))))) da_nil)))))))⟩
theorem cl_is_bar (T : Txt K.K K.T mg base) : Cl P w K mg base 6 "is_bar" 2 G_is_bar := by
  obtain ⟨fd, F⟩ := T.f_is_bar
  exact ⟨fd, _, fg_is_bar T F, T.g_is_bar, F.kp, FunD.bindsN (ps := ["count", "value"]) F fun _ _ _ _ _ _ us hl => match us, hl with | [_, _], _ => rfl⟩
theorem sc_first_wrong_bar : FnScope ["count", "bars", "many", "at", "bar"] ["count", "bars"] (defScope s_first_wrong_bar) := ⟨rfl, rfl, rfl, by decide +kernel, rfl, by decide +kernel, by decide +kernel⟩
abbrev cx_first_wrong_bar (P : Program) (w : World) (K : PySem.W.Frag) (mg : Str → Option Value) (base : Heap) (cdv : Value) (A : Around) (outer : List Env) (s : Shared) (H : Hp) (E : XK) : Cx := cxOf (L2.CX P w) P w K mg base ["count", "bars", "many", "at", "bar"] "first_wrong_bar" (defScope s_first_wrong_bar) (He.ga K "first_wrong_bar") cdv A outer s H E
theorem fg_first_wrong_bar (T : Txt K.K K.T mg base) {fd : FuncData} (F : FunD K.K "first_wrong_bar" "first_wrong_bar" (defArgs s_first_wrong_bar) (defBody s_first_wrong_bar) (defScope s_first_wrong_bar) [] [] (He.ga K.K "first_wrong_bar") fd) : FG P w K mg base 7 (He.ga K "first_wrong_bar") fd ["count", "bars"] (spD K 2 G_first_wrong_bar) := by
  refine fg_of F sc_first_wrong_bar (fun ds w h => rfl) (fun cdv hcv A outer s H E hr => ?_)
  have nd := (sc_first_wrong_bar).nd
  have tk : Takes (cx_first_wrong_bar P w K.K mg base cdv A outer s H E) (We E) := takes_of rfl rfl rfl rfl
  have hpo : PassesOwn (model P w) (cx_first_wrong_bar P w K.K mg base cdv A outer s H E).A (cx_first_wrong_bar P w K.K mg base cdv A outer s H E).env (cx_first_wrong_bar P w K.K mg base cdv A outer s H E).xe := passes_of (X := cx_first_wrong_bar P w K.K mg base cdv A outer s H E) rfl
  exact ⟨_, (dss_cons (ds_dnew 2 nd)
    (dss_cons (ds_for hpo rfl (di_enum (by rfl) T.z_enumerate (da_cons (de_var 1) da_nil)) (dg_tup rfl (dgs_cons (dg_name 3 nd) (dgs_cons (dg_name 4 nd) dgs_nil)) 2) (dss_cons (ds_if (DW.dt (dw_or (dt_eq hr.u (de_var 3) (de_gint (by rfl) T.c_MOST_BARS)) (dw_or1 (dt_not (dt_truth (de_c (cl_is_bar T) hr tk (by decide) (by rfl) (da_cons (de_var 0) (da_cons (de_var 4) da_nil)))))))) (dss_one (ds_ret (de_var 3))) dss_nil)
    (dss_cons (ds_dput 2 hr.u (hk := (de_ix (de_var 4) de_int)) (he := (de_add (de_dget 2 hr.u (de_ix (de_var 4) de_int) de_int) de_int)))
    (dss_one (ds_if (dt_gt (de_dix 2 hr.u (de_ix (de_var 4) de_int)) (de_gint (by rfl) T.c_MOST_CORNERS)) (dss_one (ds_ret (de_var 3))) dss_nil)))))
    (dss_one (ds_ret (de_len (by rfl) T.z_len (dq_cons (de_var 1) da_nil))))))⟩
theorem cl_first_wrong_bar (T : Txt K.K K.T mg base) : Cl P w K mg base 7 "first_wrong_bar" 2 G_first_wrong_bar := by
  obtain ⟨fd, F⟩ := T.f_first_wrong_bar
  exact ⟨fd, _, fg_first_wrong_bar T F, T.g_first_wrong_bar, F.kp, FunD.bindsN (ps := ["count", "bars"]) F fun _ _ _ _ _ _ us hl => match us, hl with | [_, _], _ => rfl⟩
theorem sc_check_bars : FnScope ["count", "bars", "at"] ["count", "bars"] (defScope s_check_bars) := ⟨rfl, rfl, rfl, by decide +kernel, rfl, by decide +kernel, by decide +kernel⟩
abbrev cx_check_bars (P : Program) (w : World) (K : PySem.W.Frag) (mg : Str → Option Value) (base : Heap) (cdv : Value) (A : Around) (outer : List Env) (s : Shared) (H : Hp) (E : XK) : Cx := cxOf (L2.CX P w) P w K mg base ["count", "bars", "at"] "check_bars" (defScope s_check_bars) (He.ga K "check_bars") cdv A outer s H E
theorem fg_check_bars (T : Txt K.K K.T mg base) {fd : FuncData} (F : FunD K.K "check_bars" "check_bars" (defArgs s_check_bars) (defBody s_check_bars) (defScope s_check_bars) [] [] (He.ga K.K "check_bars") fd) : FG P w K mg base 8 (He.ga K "check_bars") fd ["count", "bars"] (spD K 2 G_check_bars) := by
  refine fg_of F sc_check_bars (fun ds w h => rfl) (fun cdv hcv A outer s H E hr => ?_)
  have nd := (sc_check_bars).nd
  have tk : Takes (cx_check_bars P w K.K mg base cdv A outer s H E) (We E) := takes_of rfl rfl rfl rfl
  have hpo : PassesOwn (model P w) (cx_check_bars P w K.K mg base cdv A outer s H E).A (cx_check_bars P w K.K mg base cdv A outer s H E).env (cx_check_bars P w K.K mg base cdv A outer s H E).xe := passes_of (X := cx_check_bars P w K.K mg base cdv A outer s H E) rfl
  exact ⟨_, (dss_cons (ds_if (dt_isnot (de_type (by rfl) T.z_type (dq_cons (de_var 1) da_nil)) (de_ty (by rfl) T.z_tuple (by decide +kernel))) (dss_one (ds_never)) dss_nil)
    (dss_cons (ds_set 2 nd (de_c (cl_first_wrong_bar T) hr tk (by decide) (by rfl) (da_cons (de_var 0) (da_cons (de_var 1) da_nil))))
    (dss_one (ds_if (dt_lt hr.u (de_var 2) (de_len (by rfl) T.z_len (dq_cons (de_var 1) da_nil))) (dss_one (ds_never)) dss_nil))))⟩
theorem cl_check_bars (T : Txt K.K K.T mg base) : Cl P w K mg base 8 "check_bars" 2 G_check_bars := by
  obtain ⟨fd, F⟩ := T.f_check_bars
  exact ⟨fd, _, fg_check_bars T F, T.g_check_bars, F.kp, FunD.bindsN (ps := ["count", "bars"]) F fun _ _ _ _ _ _ us hl => match us, hl with | [_, _], _ => rfl⟩
theorem sc_ranked : FnScope ["corners", "limits", "places", "at", "limit", "row", "place", "corner"] ["corners", "limits"] (defScope s_ranked) := ⟨rfl, rfl, rfl, by decide +kernel, rfl, by decide +kernel, by decide +kernel⟩
abbrev cx_ranked (P : Program) (w : World) (K : PySem.W.Frag) (mg : Str → Option Value) (base : Heap) (cdv : Value) (A : Around) (outer : List Env) (s : Shared) (H : Hp) (E : XK) : Cx := cxOf (L2.CX P w) P w K mg base ["corners", "limits", "places", "at", "limit", "row", "place", "corner"] "ranked" (defScope s_ranked) (He.ga K "ranked") cdv A outer s H E
theorem fg_ranked (T : Txt K.K K.T mg base) {fd : FuncData} (F : FunD K.K "ranked" "ranked" (defArgs s_ranked) (defBody s_ranked) (defScope s_ranked) [] [] (He.ga K.K "ranked") fd) : FG P w K mg base 1 (He.ga K "ranked") fd ["corners", "limits"] (spD K 2 G_ranked) := by
  refine fg_of F sc_ranked (fun ds w h => rfl) (fun cdv hcv A outer s H E hr => ?_)
  have nd := (sc_ranked).nd
  have tk : Takes (cx_ranked P w K.K mg base cdv A outer s H E) (We E) := takes_of rfl rfl rfl rfl
  have hpo : PassesOwn (model P w) (cx_ranked P w K.K mg base cdv A outer s H E).A (cx_ranked P w K.K mg base cdv A outer s H E).env (cx_ranked P w K.K mg base cdv A outer s H E).xe := passes_of (X := cx_ranked P w K.K mg base cdv A outer s H E) rfl
  exact ⟨_, (dss_cons (ds_set 2 nd (de_lc (own := [("row", 5)]) rfl nd (di_seq (de_var 1)) (blkOk_by (by rfl)) (fun _ _ _ _ _ => (dg_name 5 nd)) (fun _ _ _ _ _ => (de_dct (own := [("at", 3), ("limit", 4)]) hr.u rfl nd (di_enum (by rfl) T.z_enumerate (dq_cons (de_var 5) da_nil)) (blkOk_by (by rfl)) (fun _ _ _ _ _ => (dg_tup rfl (dgs_cons (dg_name 3 nd) (dgs_cons (dg_name 4 nd) dgs_nil)) 2)) (fun _ _ _ _ _ => (de_var 4)) (fun _ _ _ _ _ => (de_var 3))))))
    (dss_one (ds_ret (de_lc (own := [("corner", 7)]) rfl nd (di_seq (de_var 0)) (blkOk_by (by rfl)) (fun _ _ _ _ _ => (dg_name 7 nd)) (fun _ _ _ _ _ => (de_tuple (by rfl) T.z_tuple (dq_cons (de_lc (own := [("limit", 4), ("place", 6)]) rfl nd (di_zip2 (by rfl) T.z_zip (dq_cons (de_var 7) (dq_cons (de_var 2) da_nil))) (blkOk_by (by rfl)) (fun _ _ _ _ _ => (dg_tup rfl (dgs_cons (dg_name 4 nd) (dgs_cons (dg_name 6 nd) dgs_nil)) 2)) (fun _ _ _ _ _ => (de_dgetN hr.u (de_var 6) (de_var 4) (de_lenD (by rfl) T.z_len (dq_cons (de_var 6) da_nil))))) da_nil)))))))⟩
theorem cl_ranked (T : Txt K.K K.T mg base) : Cl P w K mg base 1 "ranked" 2 G_ranked := by
  obtain ⟨fd, F⟩ := T.f_ranked
  exact ⟨fd, _, fg_ranked T F, T.g_ranked, F.kp, FunD.bindsN (ps := ["corners", "limits"]) F fun _ _ _ _ _ _ us hl => match us, hl with | [_, _], _ => rfl⟩
theorem sc_in_order : FnScope ["fractions", "unlike", "each", "shift", "_", "bottom"] ["fractions"] (defScope s_in_order) := ⟨rfl, rfl, rfl, by decide +kernel, rfl, by decide +kernel, by decide +kernel⟩
abbrev cx_in_order (P : Program) (w : World) (K : PySem.W.Frag) (mg : Str → Option Value) (base : Heap) (cdv : Value) (A : Around) (outer : List Env) (s : Shared) (H : Hp) (E : XK) : Cx := cxOf (L2.CX P w) P w K mg base ["fractions", "unlike", "each", "shift", "_", "bottom"] "in_order" (defScope s_in_order) (He.ga K "in_order") cdv A outer s H E
theorem fg_in_order (T : Txt K.K K.T mg base) {fd : FuncData} (F : FunD K.K "in_order" "in_order" (defArgs s_in_order) (defBody s_in_order) (defScope s_in_order) [] [] (He.ga K.K "in_order") fd) : FG P w K mg base 4 (He.ga K "in_order") fd ["fractions"] (spD K 1 G_in_order) := by
  refine fg_of F sc_in_order (fun ds w h => rfl) (fun cdv hcv A outer s H E hr => ?_)
  have nd := (sc_in_order).nd
  have tk : Takes (cx_in_order P w K.K mg base cdv A outer s H E) (We E) := takes_of rfl rfl rfl rfl
  have hpo : PassesOwn (model P w) (cx_in_order P w K.K mg base cdv A outer s H E).A (cx_in_order P w K.K mg base cdv A outer s H E).env (cx_in_order P w K.K mg base cdv A outer s H E).xe := passes_of (X := cx_in_order P w K.K mg base cdv A outer s H E) rfl
  obtain ⟨cc, PT, hcc, tabT, hmT, huT⟩ := T.l_in_order fd F
  have hcodeT : cdv = .ref cc := hcv.symm.trans hcc
  exact ⟨_, (dss_cons (ds_set 1 nd (de_lk hr.u rfl (by rfl) T.z_list (de_var 0) (by rfl) (by rfl)))
    (dss_cons (ds_set 3 nd (de_mul de_int (de_maxK rfl hr.u (by rfl) T.z_max (de_lc (own := [("_", 4), ("bottom", 5)]) rfl nd (di_seq (de_var 1)) (blkOk_by (by rfl)) (fun _ _ _ _ _ => (dg_tup rfl (dgs_cons (dg_name 4 nd) (dgs_cons (dg_name 5 nd) dgs_nil)) 2)) (fun _ _ _ _ _ => (de_bits (de_var 5)))) de_int)))
    (dss_one (ds_ret (de_sortedLam rfl (k := 2) (k2 := 0) (a := "each") (jj := 2) (hr.mono (by decide)) (by decide) (by rfl) T.z_sorted (de_var 1) hmT huT tabT hcodeT (lamS1_by (show lamS1B (defScope s_in_order) _ _ = true by decide +kernel)) nd (by rfl) (fun A outer s H f c1 env hr2 henv => by
      subst henv
      exact (de_fdiv (de_shlW (de_ix (de_var 2) de_int) (de_var 3)) (de_ix (de_var 2) de_int))))))))⟩
theorem cl_in_order (T : Txt K.K K.T mg base) : Cl P w K mg base 4 "in_order" 1 G_in_order := by
  obtain ⟨fd, F⟩ := T.f_in_order
  exact ⟨fd, _, fg_in_order T F, T.g_in_order, F.kp, FunD.bindsN (ps := ["fractions"]) F fun _ _ _ _ _ _ us hl => match us, hl with | [_], _ => rfl⟩
theorem sc_unlike_limits : FnScope ["count", "corners", "corner", "at"] ["count", "corners"] (defScope s_unlike_limits) := ⟨rfl, rfl, rfl, by decide +kernel, rfl, by decide +kernel, by decide +kernel⟩
abbrev cx_unlike_limits (P : Program) (w : World) (K : PySem.W.Frag) (mg : Str → Option Value) (base : Heap) (cdv : Value) (A : Around) (outer : List Env) (s : Shared) (H : Hp) (E : XK) : Cx := cxOf (L2.CX P w) P w K mg base ["count", "corners", "corner", "at"] "unlike_limits" (defScope s_unlike_limits) (He.ga K "unlike_limits") cdv A outer s H E
theorem fg_unlike_limits (T : Txt K.K K.T mg base) {fd : FuncData} (F : FunD K.K "unlike_limits" "unlike_limits" (defArgs s_unlike_limits) (defBody s_unlike_limits) (defScope s_unlike_limits) [] [] (He.ga K.K "unlike_limits") fd) : FG P w K mg base 5 (He.ga K "unlike_limits") fd ["count", "corners"] (spD K 2 G_unlike_limits) := by
  refine fg_of F sc_unlike_limits (fun ds w h => rfl) (fun cdv hcv A outer s H E hr => ?_)
  have nd := (sc_unlike_limits).nd
  have tk : Takes (cx_unlike_limits P w K.K mg base cdv A outer s H E) (We E) := takes_of rfl rfl rfl rfl
  have hpo : PassesOwn (model P w) (cx_unlike_limits P w K.K mg base cdv A outer s H E).A (cx_unlike_limits P w K.K mg base cdv A outer s H E).env (cx_unlike_limits P w K.K mg base cdv A outer s H E).xe := passes_of (X := cx_unlike_limits P w K.K mg base cdv A outer s H E) rfl
  exact ⟨_, (dss_one (ds_ret (de_lc (own := [("at", 3)]) rfl nd (di_range1 (by rfl) T.z_range (dq_cons (de_var 0) da_nil)) (blkOk_by (by rfl)) (fun _ _ _ _ _ => (dg_name 3 nd)) (fun _ _ _ _ _ => (de_c (cl_in_order T) hr takes0 (by decide) (by rfl) (da_cons (de_lcIf (own := [("corner", 2)]) rfl nd (di_seq (de_var 1)) (blkOk_by (by rfl)) (fun _ _ _ _ _ => (dg_name 2 nd)) (fun _ _ _ _ _ => (DW.dt (dw_and (dt_isnot (de_ix (de_var 2) (de_var 3)) de_non) (dw_and1 (dt_ne hr.u (de_ix (de_var 2) (de_var 3)) (de_con (by rfl) T.k_ONE)))))) (fun _ _ _ _ _ => (de_ix (de_var 2) (de_var 3)))) da_nil))))))⟩
theorem cl_unlike_limits (T : Txt K.K K.T mg base) : Cl P w K mg base 5 "unlike_limits" 2 G_unlike_limits := by
  obtain ⟨fd, F⟩ := T.f_unlike_limits
  exact ⟨fd, _, fg_unlike_limits T F, T.g_unlike_limits, F.kp, FunD.bindsN (ps := ["count", "corners"]) F fun _ _ _ _ _ _ us hl => match us, hl with | [_, _], _ => rfl⟩
theorem sc_is_part : FnScope ["lot", "other", "at"] ["lot", "other"] (defScope s_is_part) := ⟨rfl, rfl, rfl, by decide +kernel, rfl, by decide +kernel, by decide +kernel⟩
abbrev cx_is_part (P : Program) (w : World) (K : PySem.W.Frag) (mg : Str → Option Value) (base : Heap) (cdv : Value) (A : Around) (outer : List Env) (s : Shared) (H : Hp) (E : XK) : Cx := cxOf (L2.CX P w) P w K mg base ["lot", "other", "at"] "is_part" (defScope s_is_part) (He.ga K "is_part") cdv A outer s H E
theorem fg_is_part (T : Txt K.K K.T mg base) {fd : FuncData} (F : FunD K.K "is_part" "is_part" (defArgs s_is_part) (defBody s_is_part) (defScope s_is_part) [] [] (He.ga K.K "is_part") fd) : FG P w K mg base 1 (He.ga K "is_part") fd ["lot", "other"] (spD K 2 G_is_part) := by
  refine fg_of F sc_is_part (fun ds w h => rfl) (fun cdv hcv A outer s H E hr => ?_)
  have nd := (sc_is_part).nd
  have tk : Takes (cx_is_part P w K.K mg base cdv A outer s H E) (We E) := takes_of rfl rfl rfl rfl
  have hpo : PassesOwn (model P w) (cx_is_part P w K.K mg base cdv A outer s H E).A (cx_is_part P w K.K mg base cdv A outer s H E).env (cx_is_part P w K.K mg base cdv A outer s H E).xe := passes_of (X := cx_is_part P w K.K mg base cdv A outer s H E) rfl
  exact ⟨_, (dss_one (ds_ret (de_all rfl (by rfl) T.z_all (dq_cons (de_lc (own := [("at", 2)]) rfl nd (di_seq (de_var 0)) (blkOk_by (by rfl)) (fun _ _ _ _ _ => (dg_name 2 nd)) (fun _ _ _ _ _ => (de_in hr.u (de_var 2) (de_var 1)))) da_nil))))⟩
theorem cl_is_part (T : Txt K.K K.T mg base) : Cl P w K mg base 1 "is_part" 2 G_is_part := by
  obtain ⟨fd, F⟩ := T.f_is_part
  exact ⟨fd, _, fg_is_part T F, T.g_is_part, F.kp, FunD.bindsN (ps := ["lot", "other"]) F fun _ _ _ _ _ _ us hl => match us, hl with | [_, _], _ => rfl⟩
theorem sc_highest_within : FnScope ["corner", "limit"] ["corner"] (defScope s_highest_within) := ⟨rfl, rfl, rfl, by decide +kernel, rfl, by decide +kernel, by decide +kernel⟩
abbrev cx_highest_within (P : Program) (w : World) (K : PySem.W.Frag) (mg : Str → Option Value) (base : Heap) (cdv : Value) (A : Around) (outer : List Env) (s : Shared) (H : Hp) (E : XK) : Cx := cxOf (L2.CX P w) P w K mg base ["corner", "limit"] "highest_within" (defScope s_highest_within) (He.ga K "highest_within") cdv A outer s H E
theorem fg_highest_within (T : Txt K.K K.T mg base) {fd : FuncData} (F : FunD K.K "highest_within" "highest_within" (defArgs s_highest_within) (defBody s_highest_within) (defScope s_highest_within) [] [] (He.ga K.K "highest_within") fd) : FG P w K mg base 1 (He.ga K "highest_within") fd ["corner"] (spD K 1 G_highest_within) := by
  refine fg_of F sc_highest_within (fun ds w h => rfl) (fun cdv hcv A outer s H E hr => ?_)
  have nd := (sc_highest_within).nd
  have tk : Takes (cx_highest_within P w K.K mg base cdv A outer s H E) (We E) := takes_of rfl rfl rfl rfl
  have hpo : PassesOwn (model P w) (cx_highest_within P w K.K mg base cdv A outer s H E).A (cx_highest_within P w K.K mg base cdv A outer s H E).env (cx_highest_within P w K.K mg base cdv A outer s H E).xe := passes_of (X := cx_highest_within P w K.K mg base cdv A outer s H E) rfl
  exact ⟨_, (dss_one (ds_ret (de_tuple (by rfl) T.z_tuple (dq_cons (de_lc (own := [("limit", 1)]) rfl nd (di_seq (de_var 0)) (blkOk_by (by rfl)) (fun _ _ _ _ _ => (dg_name 1 nd)) (fun _ _ _ _ _ => (de_if (dt_is (de_var 1) de_non) (de_con (by rfl) T.k_ONE) (de_var 1)))) da_nil))))⟩
theorem cl_highest_within (T : Txt K.K K.T mg base) : Cl P w K mg base 1 "highest_within" 1 G_highest_within := by
  obtain ⟨fd, F⟩ := T.f_highest_within
  exact ⟨fd, _, fg_highest_within T F, T.g_highest_within, F.kp, FunD.bindsN (ps := ["corner"]) F fun _ _ _ _ _ _ us hl => match us, hl with | [_], _ => rfl⟩
theorem sc_is_under : FnScope ["one", "other", "low", "high"] ["one", "other"] (defScope s_is_under) := ⟨rfl, rfl, rfl, by decide +kernel, rfl, by decide +kernel, by decide +kernel⟩
abbrev cx_is_under (P : Program) (w : World) (K : PySem.W.Frag) (mg : Str → Option Value) (base : Heap) (cdv : Value) (A : Around) (outer : List Env) (s : Shared) (H : Hp) (E : XK) : Cx := cxOf (L2.CX P w) P w K mg base ["one", "other", "low", "high"] "is_under" (defScope s_is_under) (He.ga K "is_under") cdv A outer s H E
theorem fg_is_under (T : Txt K.K K.T mg base) {fd : FuncData} (F : FunD K.K "is_under" "is_under" (defArgs s_is_under) (defBody s_is_under) (defScope s_is_under) [] [] (He.ga K.K "is_under") fd) : FG P w K mg base 1 (He.ga K "is_under") fd ["one", "other"] (spD K 2 G_is_under) := by
  refine fg_of F sc_is_under (fun ds w h => rfl) (fun cdv hcv A outer s H E hr => ?_)
  have nd := (sc_is_under).nd
  have tk : Takes (cx_is_under P w K.K mg base cdv A outer s H E) (We E) := takes_of rfl rfl rfl rfl
  have hpo : PassesOwn (model P w) (cx_is_under P w K.K mg base cdv A outer s H E).A (cx_is_under P w K.K mg base cdv A outer s H E).env (cx_is_under P w K.K mg base cdv A outer s H E).xe := passes_of (X := cx_is_under P w K.K mg base cdv A outer s H E) rfl
  exact ⟨_, (dss_one (ds_ret (de_all rfl (by rfl) T.z_all (dq_cons (de_lc (own := [("low", 2), ("high", 3)]) rfl nd (di_zip (by rfl) T.z_zip (dq_cons (de_var 0) (dq_cons (de_var 1) da_nil))) (blkOk_by (by rfl)) (fun _ _ _ _ _ => (dg_tup rfl (dgs_cons (dg_name 2 nd) (dgs_cons (dg_name 3 nd) dgs_nil)) 2)) (fun _ _ _ _ _ => (de_le (de_var 2) (de_var 3)))) da_nil))))⟩
theorem cl_is_under (T : Txt K.K K.T mg base) : Cl P w K mg base 1 "is_under" 2 G_is_under := by
  obtain ⟨fd, F⟩ := T.f_is_under
  exact ⟨fd, _, fg_is_under T F, T.g_is_under, F.kp, FunD.bindsN (ps := ["one", "other"]) F fun _ _ _ _ _ _ us hl => match us, hl with | [_, _], _ => rfl⟩
theorem sc_first_split : FnScope ["frame", "bars", "count", "lots", "corners", "_", "corner", "ranks", "places", "at", "own", "lot", "pairs", "part", "whole", "other", "outer", "row"] ["frame", "bars"] (defScope s_first_split) := ⟨rfl, rfl, rfl, by decide +kernel, rfl, by decide +kernel, by decide +kernel⟩
abbrev cx_first_split (P : Program) (w : World) (K : PySem.W.Frag) (mg : Str → Option Value) (base : Heap) (cdv : Value) (A : Around) (outer : List Env) (s : Shared) (H : Hp) (E : XK) : Cx := cxOf (L2.CX P w) P w K mg base ["frame", "bars", "count", "lots", "corners", "_", "corner", "ranks", "places", "at", "own", "lot", "pairs", "part", "whole", "other", "outer", "row"] "first_split" (defScope s_first_split) (He.ga K "first_split") cdv A outer s H E
theorem fg_first_split (T : Txt K.K K.T mg base) {fd : FuncData} (F : FunD K.K "first_split" "first_split" (defArgs s_first_split) (defBody s_first_split) (defScope s_first_split) [] [] (He.ga K.K "first_split") fd) : FG P w K mg base 6 (He.ga K "first_split") fd ["frame", "bars"] (spD K 2 G_first_split) := by
  refine fg_of F sc_first_split (fun ds w h => rfl) (fun cdv hcv A outer s H E hr => ?_)
  have nd := (sc_first_split).nd
  have tk : Takes (cx_first_split P w K.K mg base cdv A outer s H E) (We E) := takes_of rfl rfl rfl rfl
  have hpo : PassesOwn (model P w) (cx_first_split P w K.K mg base cdv A outer s H E).A (cx_first_split P w K.K mg base cdv A outer s H E).env (cx_first_split P w K.K mg base cdv A outer s H E).xe := passes_of (X := cx_first_split P w K.K mg base cdv A outer s H E) rfl
  exact ⟨_, (dss_cons (ds_asg (de_var 0) (dg_tup rfl (dgs_cons (dg_name 2 nd) (dgs_cons (dg_name 3 nd) dgs_nil)) 2))
    (dss_cons (ds_setLc 4 (own := [("_", 5), ("corner", 6)]) rfl nd (di_seq (de_var 1)) (blkOk_by (by rfl)) (fun _ _ _ _ _ => (dg_tup rfl (dgs_cons (dg_name 5 nd) (dgs_cons (dg_name 6 nd) dgs_nil)) 2)) (fun _ _ _ _ _ => (de_var 6)) (sw_true rfl rfl rfl (by decide +kernel)))
    (dss_cons (ds_set 7 nd (de_c (cl_ranked T) hr tk (by decide) (by rfl) (da_cons (de_var 4) (da_cons (de_c (cl_unlike_limits T) hr tk (by decide) (by rfl) (da_cons (de_var 2) (da_cons (de_var 4) da_nil))) da_nil))))
    (dss_cons (ds_setDct 8 (own := [("lot", 11)]) hr.u rfl nd (di_seq (de_var 3)) (blkOk_by (by rfl)) (fun _ _ _ _ _ => (dg_name 11 nd)) (fun _ _ _ _ _ => (de_var 11)) (fun _ _ _ _ _ => (de_lcIf (own := [("at", 9), ("own", 10), ("_", 5)]) rfl nd (di_enum (by rfl) T.z_enumerate (dq_cons (de_var 1) da_nil)) (blkOk_by (by rfl)) (fun _ _ _ _ _ => (dg_tup rfl (dgs_cons (dg_name 9 nd) (dgs_cons (dg_tup rfl (dgs_cons (dg_name 10 nd) (dgs_cons (dg_name 5 nd) dgs_nil)) 2) dgs_nil)) 2)) (fun _ _ _ _ _ => (dt_eq hr.u (de_var 10) (de_var 11))) (fun _ _ _ _ _ => (de_var 9)))) (swD_true rfl rfl rfl (by decide +kernel)))
    (dss_cons (ds_setLc2T 12 (own := [("part", 13), ("whole", 14)]) rfl nd (di_seq (de_var 3)) (blkOk_by (by rfl)) (fun _ _ _ _ _ => (dg_name 13 nd)) (fun _ _ _ _ _ => (di_seq (de_var 3))) (fun _ _ _ _ _ => (dg_name 14 nd)) (fun _ _ _ _ _ => (dt_truth (de_c (cl_is_part T) hr takes0 (by decide) (by rfl) (da_cons (de_var 13) (da_cons (de_var 14) da_nil))))) (fun _ _ _ _ _ => (de_tup (da_cons (de_var 13) (da_cons (de_var 14) da_nil)))) [14] (sw_true rfl rfl rfl (by decide +kernel)))
    (dss_cons (ds_for hpo rfl (di_seq (de_var 12)) (dg_tup rfl (dgs_cons (dg_name 11 nd) (dgs_cons (dg_name 15 nd) dgs_nil)) 2) (dss_cons (ds_setLc 16 (own := [("at", 9)]) rfl nd (di_seq (de_dixD hr.u (de_var 8) (de_var 15))) (blkOk_by (by rfl)) (fun _ _ _ _ _ => (dg_name 9 nd)) (fun _ _ _ _ _ => (de_ix (de_var 7) (de_var 9))) (sw_true rfl rfl rfl (by decide +kernel)))
    (dss_one (ds_for hpo rfl (di_seq (de_dixD hr.u (de_var 8) (de_var 11))) (dg_name 9 nd) (dss_one (ds_if (dt_not (dt_truth (de_any rfl (by rfl) T.z_any (dq_cons (de_lc (own := [("row", 17)]) rfl nd (di_seq (de_var 16)) (blkOk_by (by rfl)) (fun _ _ _ _ _ => (dg_name 17 nd)) (fun _ _ _ _ _ => (de_c (cl_is_under T) hr takes0 (by decide) (by rfl) (da_cons (de_ix (de_var 7) (de_var 9)) (da_cons (de_var 17) da_nil))))) da_nil)))) (dss_one (ds_ret (de_tup (da_cons (de_var 11) (da_cons (de_var 15) (da_cons (de_c (cl_highest_within T) hr tk (by decide) (by rfl) (da_cons (de_ix (de_var 4) (de_var 9)) da_nil)) da_nil)))))) dss_nil))))))
    (dss_one (ds_ret de_non))))))))⟩
theorem cl_first_split (T : Txt K.K K.T mg base) : Cl P w K mg base 6 "first_split" 2 G_first_split := by
  obtain ⟨fd, F⟩ := T.f_first_split
  exact ⟨fd, _, fg_first_split T F, T.g_first_split, F.kp, FunD.bindsN (ps := ["frame", "bars"]) F fun _ _ _ _ _ _ us hl => match us, hl with | [_, _], _ => rfl⟩
theorem sc_is_coherent : FnScope ["frame", "bars"] ["frame", "bars"] (defScope s_is_coherent) := ⟨rfl, rfl, rfl, by decide +kernel, rfl, by decide +kernel, by decide +kernel⟩
abbrev cx_is_coherent (P : Program) (w : World) (K : PySem.W.Frag) (mg : Str → Option Value) (base : Heap) (cdv : Value) (A : Around) (outer : List Env) (s : Shared) (H : Hp) (E : XK) : Cx := cxOf (L2.CX P w) P w K mg base ["frame", "bars"] "is_coherent" (defScope s_is_coherent) (He.ga K "is_coherent") cdv A outer s H E
theorem fg_is_coherent (T : Txt K.K K.T mg base) {fd : FuncData} (F : FunD K.K "is_coherent" "is_coherent" (defArgs s_is_coherent) (defBody s_is_coherent) (defScope s_is_coherent) [] [] (He.ga K.K "is_coherent") fd) : FG P w K mg base 9 (He.ga K "is_coherent") fd ["frame", "bars"] (spD K 2 G_is_coherent) := by
  refine fg_of F sc_is_coherent (fun ds w h => rfl) (fun cdv hcv A outer s H E hr => ?_)
  have nd := (sc_is_coherent).nd
  have tk : Takes (cx_is_coherent P w K.K mg base cdv A outer s H E) (We E) := takes_of rfl rfl rfl rfl
  have hpo : PassesOwn (model P w) (cx_is_coherent P w K.K mg base cdv A outer s H E).A (cx_is_coherent P w K.K mg base cdv A outer s H E).env (cx_is_coherent P w K.K mg base cdv A outer s H E).xe := passes_of (X := cx_is_coherent P w K.K mg base cdv A outer s H E) rfl
  exact ⟨_, (dss_cons (ds_drop (de_c (cl_check_frame T) hr tk (by decide) (by rfl) (da_cons (de_var 0) da_nil)))
    (dss_cons (ds_drop (de_c (cl_check_bars T) hr tk (by decide) (by rfl) (da_cons (de_ix (de_var 0) de_int) (da_cons (de_var 1) da_nil))))
    (dss_one (ds_ret (de_is (de_c (cl_first_split T) hr tk (by decide) (by rfl) (da_cons (de_var 0) (da_cons (de_var 1) da_nil))) de_non)))))⟩
theorem cl_is_coherent (T : Txt K.K K.T mg base) : Cl P w K mg base 9 "is_coherent" 2 G_is_coherent := by
  obtain ⟨fd, F⟩ := T.f_is_coherent
  exact ⟨fd, _, fg_is_coherent T F, T.g_is_coherent, F.kp, FunD.bindsN (ps := ["frame", "bars"]) F fun _ _ _ _ _ _ us hl => match us, hl with | [_, _], _ => rfl⟩
theorem ck_is_coherent_0_bars_frame (T : Txt K.K K.T mg base) : ClK P w K mg base 9 "is_coherent" 2 G_is_coherent 0 ["bars", "frame"] [1, 0] := by
  obtain ⟨fd, F⟩ := T.f_is_coherent
  exact ⟨fd, _, fg_is_coherent T F, T.g_is_coherent, F.kp, FunD.kb (ps := ["frame", "bars"]) F fun _ _ _ _ _ _ us ws h1 h2 => match us, ws, h1, h2 with | [], [_, _], _, _ => rfl⟩
theorem sc__law_at_most : FnScope ["one", "two"] ["one", "two"] (defScope s__law_at_most) := ⟨rfl, rfl, rfl, by decide +kernel, rfl, by decide +kernel, by decide +kernel⟩
abbrev cx__law_at_most (P : Program) (w : World) (K : PySem.W.Frag) (mg : Str → Option Value) (base : Heap) (cdv : Value) (A : Around) (outer : List Env) (s : Shared) (H : Hp) (E : XK) : Cx := cxOf (L2.CX P w) P w K mg base ["one", "two"] "_law_at_most" (defScope s__law_at_most) (He.ga K "_law_at_most") cdv A outer s H E
theorem fg__law_at_most (T : Txt K.K K.T mg base) {fd : FuncData} (F : FunD K.K "_law_at_most" "_law_at_most" (defArgs s__law_at_most) (defBody s__law_at_most) (defScope s__law_at_most) [] [] (He.ga K.K "_law_at_most") fd) : FG P w K mg base 1 (He.ga K "_law_at_most") fd ["one", "two"] (spD K 2 G__law_at_most) := by
  refine fg_of F sc__law_at_most (fun ds w h => rfl) (fun cdv hcv A outer s H E hr => ?_)
  have nd := (sc__law_at_most).nd
  have tk : Takes (cx__law_at_most P w K.K mg base cdv A outer s H E) (We E) := takes_of rfl rfl rfl rfl
  have hpo : PassesOwn (model P w) (cx__law_at_most P w K.K mg base cdv A outer s H E).A (cx__law_at_most P w K.K mg base cdv A outer s H E).env (cx__law_at_most P w K.K mg base cdv A outer s H E).xe := passes_of (X := cx__law_at_most P w K.K mg base cdv A outer s H E) rfl
  exact ⟨_, (dss_one (ds_ret (de_le (de_mul (de_ix (de_var 0) de_int) (de_ix (de_var 1) de_int)) (de_mul (de_ix (de_var 1) de_int) (de_ix (de_var 0) de_int)))))⟩
theorem cl__law_at_most (T : Txt K.K K.T mg base) : Cl P w K mg base 1 "_law_at_most" 2 G__law_at_most := by
  obtain ⟨fd, F⟩ := T.f__law_at_most
  exact ⟨fd, _, fg__law_at_most T F, T.g__law_at_most, F.kp, FunD.bindsN (ps := ["one", "two"]) F fun _ _ _ _ _ _ us hl => match us, hl with | [_, _], _ => rfl⟩
theorem sc__law_inside : FnScope ["one", "two", "i"] ["one", "two"] (defScope s__law_inside) := ⟨rfl, rfl, rfl, by decide +kernel, rfl, by decide +kernel, by decide +kernel⟩
abbrev cx__law_inside (P : Program) (w : World) (K : PySem.W.Frag) (mg : Str → Option Value) (base : Heap) (cdv : Value) (A : Around) (outer : List Env) (s : Shared) (H : Hp) (E : XK) : Cx := cxOf (L2.CX P w) P w K mg base ["one", "two", "i"] "_law_inside" (defScope s__law_inside) (He.ga K "_law_inside") cdv A outer s H E
theorem fg__law_inside (T : Txt K.K K.T mg base) {fd : FuncData} (F : FunD K.K "_law_inside" "_law_inside" (defArgs s__law_inside) (defBody s__law_inside) (defScope s__law_inside) [] [] (He.ga K.K "_law_inside") fd) : FG P w K mg base 2 (He.ga K "_law_inside") fd ["one", "two"] (spD K 2 G__law_inside) := by
  refine fg_of F sc__law_inside (fun ds w h => rfl) (fun cdv hcv A outer s H E hr => ?_)
  have nd := (sc__law_inside).nd
  have tk : Takes (cx__law_inside P w K.K mg base cdv A outer s H E) (We E) := takes_of rfl rfl rfl rfl
  have hpo : PassesOwn (model P w) (cx__law_inside P w K.K mg base cdv A outer s H E).A (cx__law_inside P w K.K mg base cdv A outer s H E).env (cx__law_inside P w K.K mg base cdv A outer s H E).xe := passes_of (X := cx__law_inside P w K.K mg base cdv A outer s H E) rfl
  exact ⟨_, (dss_cons (ds_for hpo rfl (di_range1 (by rfl) T.z_range (dq_cons (de_len (by rfl) T.z_len (dq_cons (de_var 0) da_nil)) da_nil)) (dg_name 2 nd) (dss_one (ds_if (dt_not (dt_truth (de_c (cl__law_at_most T) hr tk (by decide) (by rfl) (da_cons (de_if (dt_isnot (de_ix (de_var 0) (de_var 2)) de_non) (de_ix (de_var 0) (de_var 2)) (de_tup (da_cons de_int (da_cons de_int da_nil)))) (da_cons (de_if (dt_isnot (de_ix (de_var 1) (de_var 2)) de_non) (de_ix (de_var 1) (de_var 2)) (de_tup (da_cons de_int (da_cons de_int da_nil)))) da_nil))))) (dss_one (ds_ret de_bl)) dss_nil)))
    (dss_one (ds_ret de_bl)))⟩
theorem cl__law_inside (T : Txt K.K K.T mg base) : Cl P w K mg base 2 "_law_inside" 2 G__law_inside := by
  obtain ⟨fd, F⟩ := T.f__law_inside
  exact ⟨fd, _, fg__law_inside T F, T.g__law_inside, F.kp, FunD.bindsN (ps := ["one", "two"]) F fun _ _ _ _ _ _ us hl => match us, hl with | [_, _], _ => rfl⟩
theorem sc__law_by_corners : FnScope ["frame", "bars", "lot", "corner", "each", "pair"] ["frame", "bars"] (defScope s__law_by_corners) := ⟨rfl, rfl, rfl, by decide +kernel, rfl, by decide +kernel, by decide +kernel⟩
abbrev cx__law_by_corners (P : Program) (w : World) (K : PySem.W.Frag) (mg : Str → Option Value) (base : Heap) (cdv : Value) (A : Around) (outer : List Env) (s : Shared) (H : Hp) (E : XK) : Cx := cxOf (L2.CX P w) P w K mg base ["frame", "bars", "lot", "corner", "each", "pair"] "_law_by_corners" (defScope s__law_by_corners) (He.ga K "_law_by_corners") cdv A outer s H E
def g__law_by_corners : SG :=
  (sSeq (sFor (gSeq (eVar 1)) (bTupN 2 (bCons (bName 2) (bCons (bName 3) bNil))) (sIf (eBin oIn (eVar 2) (eBin oIx (eVar 0) (eC (.int 1)))) (sFor (gSeq (eFn 2 G__law_above (aCons (eVar 0) (aCons (eVar 2) aNil)))) (bName 4) (sIf (eNot (eUn oTru (eCall oAny (aCons (eLc (gSeq (eVar 1)) (bName 5) (eBin oEq (eBin oIx (eVar 5) (eC (.int 0))) (eVar 4)) (eFn 2 G__law_inside (aCons (eVar 3) (aCons (eBin oIx (eVar 5) (eC (.int 1))) aNil))) [5]) aNil)))) (sRet (eC (.bl false))) sPass)) sPass))
  (sRet (eC (.bl true))))
def G__law_by_corners : List D → Wl → Res := fun ds w => runG 6 g__law_by_corners ds w
theorem fg__law_by_corners (T : Txt K.K K.T mg base) {fd : FuncData} (F : FunD K.K "_law_by_corners" "_law_by_corners" (defArgs s__law_by_corners) (defBody s__law_by_corners) (defScope s__law_by_corners) [] [] (He.ga K.K "_law_by_corners") fd) : FG P w K mg base 3 (He.ga K "_law_by_corners") fd ["frame", "bars"] (spD K 2 G__law_by_corners) := by
  refine fg_of F sc__law_by_corners (fun ds w h => rfl) (fun cdv hcv A outer s H E hr => ?_)
  have nd := (sc__law_by_corners).nd
  have tk : Takes (cx__law_by_corners P w K.K mg base cdv A outer s H E) (We E) := takes_of rfl rfl rfl rfl
  have hpo : PassesOwn (model P w) (cx__law_by_corners P w K.K mg base cdv A outer s H E).A (cx__law_by_corners P w K.K mg base cdv A outer s H E).env (cx__law_by_corners P w K.K mg base cdv A outer s H E).xe := passes_of (X := cx__law_by_corners P w K.K mg base cdv A outer s H E) rfl
  exact ⟨_, (dss_cons (ds_for hpo rfl (di_seq (de_var 1)) (dg_tup rfl (dgs_cons (dg_name 2 nd) (dgs_cons (dg_name 3 nd) dgs_nil)) 2) (dss_one (ds_if (dt_in hr.u (de_var 2) (de_ix (de_var 0) de_int)) (dss_one (ds_for hpo rfl (di_seq (de_c (cl__law_above T) hr tk (by decide) (by rfl) (da_cons (de_var 0) (da_cons (de_var 2) da_nil)))) (dg_name 4 nd) (dss_one (ds_if (dt_not (dt_truth (de_any rfl (by rfl) T.z_any (dq_cons (de_lcIf (own := [("pair", 5)]) rfl nd (di_seq (de_var 1)) (blkOk_by (by rfl)) (fun _ _ _ _ _ => (dg_name 5 nd)) (fun _ _ _ _ _ => (dt_eq hr.u (de_ix (de_var 5) de_int) (de_var 4))) (fun _ _ _ _ _ => (de_c (cl__law_inside T) hr takes0 (by decide) (by rfl) (da_cons (de_var 3) (da_cons (de_ix (de_var 5) de_int) da_nil))))) da_nil)))) (dss_one (ds_ret de_bl)) dss_nil)))) dss_nil)))
    (dss_one (ds_ret de_bl)))⟩
theorem cl__law_by_corners (T : Txt K.K K.T mg base) : Cl P w K mg base 3 "_law_by_corners" 2 G__law_by_corners := by
  obtain ⟨fd, F⟩ := T.f__law_by_corners
  exact ⟨fd, _, fg__law_by_corners T F, T.g__law_by_corners, F.kp, FunD.bindsN (ps := ["frame", "bars"]) F fun _ _ _ _ _ _ us hl => match us, hl with | [_, _], _ => rfl⟩
theorem sc__law_bar_cells : FnScope ["count", "bars", "cells", "i", "edges", "lot", "corner", "wider", "cell", "edge"] ["count", "bars"] (defScope s__law_bar_cells) := ⟨rfl, rfl, rfl, by decide +kernel, rfl, by decide +kernel, by decide +kernel⟩
abbrev cx__law_bar_cells (P : Program) (w : World) (K : PySem.W.Frag) (mg : Str → Option Value) (base : Heap) (cdv : Value) (A : Around) (outer : List Env) (s : Shared) (H : Hp) (E : XK) : Cx := cxOf (L2.CX P w) P w K mg base ["count", "bars", "cells", "i", "edges", "lot", "corner", "wider", "cell", "edge"] "_law_bar_cells" (defScope s__law_bar_cells) (He.ga K "_law_bar_cells") cdv A outer s H E
theorem fg__law_bar_cells (T : Txt K.K K.T mg base) {fd : FuncData} (F : FunD K.K "_law_bar_cells" "_law_bar_cells" (defArgs s__law_bar_cells) (defBody s__law_bar_cells) (defScope s__law_bar_cells) [] [] (He.ga K.K "_law_bar_cells") fd) : FG P w K mg base 1 (He.ga K "_law_bar_cells") fd ["count", "bars"] (spD K 2 G__law_bar_cells) := by
  refine fg_of F sc__law_bar_cells (fun ds w h => rfl) (fun cdv hcv A outer s H E hr => ?_)
  have nd := (sc__law_bar_cells).nd
  have tk : Takes (cx__law_bar_cells P w K.K mg base cdv A outer s H E) (We E) := takes_of rfl rfl rfl rfl
  have hpo : PassesOwn (model P w) (cx__law_bar_cells P w K.K mg base cdv A outer s H E).A (cx__law_bar_cells P w K.K mg base cdv A outer s H E).env (cx__law_bar_cells P w K.K mg base cdv A outer s H E).xe := passes_of (X := cx__law_bar_cells P w K.K mg base cdv A outer s H E) rfl
  exact ⟨_, (dss_cons (ds_set 2 nd (de_lst (da_cons (de_tup da_nil) da_nil)))
    (dss_cons (ds_for hpo rfl (di_range1 (by rfl) T.z_range (dq_cons (de_var 0) da_nil)) (dg_name 3 nd) (dss_cons (ds_own 4 nd (de_lst (da_cons (de_tup (da_cons de_int (da_cons de_int da_nil))) da_nil)))
    (dss_cons (ds_for hpo rfl (di_seq (de_var 1)) (dg_tup rfl (dgs_cons (dg_name 5 nd) (dgs_cons (dg_name 6 nd) dgs_nil)) 2) (dss_one (ds_if (DW.dt (dw_and (dt_isnot (de_ix (de_var 6) (de_var 3)) de_non) (dw_and1 (dt_notin hr.u (de_ix (de_var 6) (de_var 3)) (de_own 4))))) (dss_one (ds_app 4 (de_ix (de_var 6) (de_var 3)))) dss_nil)))
    (dss_cons (ds_set 7 nd (de_lst da_nil))
    (dss_cons (ds_for hpo rfl (di_seq (de_var 2)) (dg_name 8 nd) (dss_one (ds_set 7 nd (de_add (de_var 7) (de_lc (own := [("edge", 9)]) rfl nd (di_seq (de_own 4)) (blkOk_by (by rfl)) (fun _ _ _ _ _ => (dg_name 9 nd)) (fun _ _ _ _ _ => (de_add (de_var 8) (de_tup (da_cons (de_var 9) da_nil)))))))))
    (dss_one (ds_set 2 nd (de_var 7))))))))
    (dss_one (ds_ret (de_var 2)))))⟩
theorem cl__law_bar_cells (T : Txt K.K K.T mg base) : Cl P w K mg base 1 "_law_bar_cells" 2 G__law_bar_cells := by
  obtain ⟨fd, F⟩ := T.f__law_bar_cells
  exact ⟨fd, _, fg__law_bar_cells T F, T.g__law_bar_cells, F.kp, FunD.bindsN (ps := ["count", "bars"]) F fun _ _ _ _ _ _ us hl => match us, hl with | [_, _], _ => rfl⟩
theorem sc__law_within : FnScope ["numbers", "corner", "i"] ["numbers", "corner"] (defScope s__law_within) := ⟨rfl, rfl, rfl, by decide +kernel, rfl, by decide +kernel, by decide +kernel⟩
abbrev cx__law_within (P : Program) (w : World) (K : PySem.W.Frag) (mg : Str → Option Value) (base : Heap) (cdv : Value) (A : Around) (outer : List Env) (s : Shared) (H : Hp) (E : XK) : Cx := cxOf (L2.CX P w) P w K mg base ["numbers", "corner", "i"] "_law_within" (defScope s__law_within) (He.ga K "_law_within") cdv A outer s H E
theorem fg__law_within (T : Txt K.K K.T mg base) {fd : FuncData} (F : FunD K.K "_law_within" "_law_within" (defArgs s__law_within) (defBody s__law_within) (defScope s__law_within) [] [] (He.ga K.K "_law_within") fd) : FG P w K mg base 2 (He.ga K "_law_within") fd ["numbers", "corner"] (spD K 2 G__law_within) := by
  refine fg_of F sc__law_within (fun ds w h => rfl) (fun cdv hcv A outer s H E hr => ?_)
  have nd := (sc__law_within).nd
  have tk : Takes (cx__law_within P w K.K mg base cdv A outer s H E) (We E) := takes_of rfl rfl rfl rfl
  have hpo : PassesOwn (model P w) (cx__law_within P w K.K mg base cdv A outer s H E).A (cx__law_within P w K.K mg base cdv A outer s H E).env (cx__law_within P w K.K mg base cdv A outer s H E).xe := passes_of (X := cx__law_within P w K.K mg base cdv A outer s H E) rfl
  exact ⟨_, (dss_one (ds_ret (de_all rfl (by rfl) T.z_all (dq_cons (de_lc (own := [("i", 2)]) rfl nd (di_range1 (by rfl) T.z_range (dq_cons (de_len (by rfl) T.z_len (dq_cons (de_var 1) da_nil)) da_nil)) (blkOk_by (by rfl)) (fun _ _ _ _ _ => (dg_name 2 nd)) (fun _ _ _ _ _ => (de_or (de_is (de_ix (de_var 1) (de_var 2)) de_non) (de_one (de_c (cl__law_at_most T) hr takes0 (by decide) (by rfl) (da_cons (de_ix (de_var 0) (de_var 2)) (da_cons (de_ix (de_var 1) (de_var 2)) da_nil))))))) da_nil))))⟩
theorem cl__law_within (T : Txt K.K K.T mg base) : Cl P w K mg base 2 "_law_within" 2 G__law_within := by
  obtain ⟨fd, F⟩ := T.f__law_within
  exact ⟨fd, _, fg__law_within T F, T.g__law_within, F.kp, FunD.bindsN (ps := ["numbers", "corner"]) F fun _ _ _ _ _ _ us hl => match us, hl with | [_, _], _ => rfl⟩
theorem sc__law_possible : FnScope ["frame", "bars", "numbers", "some", "lot", "each"] ["frame", "bars", "numbers"] (defScope s__law_possible) := ⟨rfl, rfl, rfl, by decide +kernel, rfl, by decide +kernel, by decide +kernel⟩
abbrev cx__law_possible (P : Program) (w : World) (K : PySem.W.Frag) (mg : Str → Option Value) (base : Heap) (cdv : Value) (A : Around) (outer : List Env) (s : Shared) (H : Hp) (E : XK) : Cx := cxOf (L2.CX P w) P w K mg base ["frame", "bars", "numbers", "some", "lot", "each"] "_law_possible" (defScope s__law_possible) (He.ga K "_law_possible") cdv A outer s H E
theorem fg__law_possible (T : Txt K.K K.T mg base) {fd : FuncData} (F : FunD K.K "_law_possible" "_law_possible" (defArgs s__law_possible) (defBody s__law_possible) (defScope s__law_possible) [] [] (He.ga K.K "_law_possible") fd) : FG P w K mg base 3 (He.ga K "_law_possible") fd ["frame", "bars", "numbers"] (spD K 3 G__law_possible) := by
  refine fg_of F sc__law_possible (fun ds w h => rfl) (fun cdv hcv A outer s H E hr => ?_)
  have nd := (sc__law_possible).nd
  have tk : Takes (cx__law_possible P w K.K mg base cdv A outer s H E) (We E) := takes_of rfl rfl rfl rfl
  have hpo : PassesOwn (model P w) (cx__law_possible P w K.K mg base cdv A outer s H E).A (cx__law_possible P w K.K mg base cdv A outer s H E).env (cx__law_possible P w K.K mg base cdv A outer s H E).xe := passes_of (X := cx__law_possible P w K.K mg base cdv A outer s H E) rfl
  exact ⟨_, (dss_cons (ds_own 3 nd (de_lst (da_cons (de_tup da_nil) da_nil)))
    (dss_cons (ds_for hpo rfl (di_seq (de_ix (de_var 0) de_int)) (dg_name 4 nd) (dss_one (ds_if (dt_not (dt_truth (de_any rfl (by rfl) T.z_any (dq_cons (de_lc (own := [("each", 5)]) rfl nd (di_seq (de_var 1)) (blkOk_by (by rfl)) (fun _ _ _ _ _ => (dg_name 5 nd)) (fun _ _ _ _ _ => (de_and (de_eq hr.u (de_ix (de_var 5) de_int) (de_var 4)) (de_one (de_c (cl__law_within T) hr takes0 (by decide) (by rfl) (da_cons (de_var 2) (da_cons (de_ix (de_var 5) de_int) da_nil))))))) da_nil)))) (dss_one (ds_app 3 (de_var 4))) dss_nil)))
    (dss_one (ds_retOwn 3))))⟩
theorem cl__law_possible (T : Txt K.K K.T mg base) : Cl P w K mg base 3 "_law_possible" 3 G__law_possible := by
  obtain ⟨fd, F⟩ := T.f__law_possible
  exact ⟨fd, _, fg__law_possible T F, T.g__law_possible, F.kp, FunD.bindsN (ps := ["frame", "bars", "numbers"]) F fun _ _ _ _ _ _ us hl => match us, hl with | [_, _, _], _ => rfl⟩
theorem sc__law_by_cells : FnScope ["frame", "bars", "cell", "free", "lot", "each"] ["frame", "bars"] (defScope s__law_by_cells) := ⟨rfl, rfl, rfl, by decide +kernel, rfl, by decide +kernel, by decide +kernel⟩
abbrev cx__law_by_cells (P : Program) (w : World) (K : PySem.W.Frag) (mg : Str → Option Value) (base : Heap) (cdv : Value) (A : Around) (outer : List Env) (s : Shared) (H : Hp) (E : XK) : Cx := cxOf (L2.CX P w) P w K mg base ["frame", "bars", "cell", "free", "lot", "each"] "_law_by_cells" (defScope s__law_by_cells) (He.ga K "_law_by_cells") cdv A outer s H E
def g__law_by_cells : SG :=
  (sSeq (sFor (gSeq (eFn 2 G__law_bar_cells (aCons (eBin oIx (eVar 0) (eC (.int 0))) (aCons (eVar 1) aNil)))) (bName 2) (sSeq (sSet 3 (eFn 3 G__law_possible (aCons (eVar 0) (aCons (eVar 1) (aCons (eVar 2) aNil)))))
  (sFor (gSeq (eBin oIx (eVar 0) (eC (.int 1)))) (bName 4) (sIf (eAnd (eBin oNotIn (eVar 4) (eVar 3)) (eUn oTru (eCall oAny (aCons (eLc (gSeq (eFn 2 G__law_above (aCons (eVar 0) (aCons (eVar 4) aNil)))) (bName 5) eYes (eBin oIn (eVar 5) (eVar 3)) [5]) aNil)))) (sRet (eC (.bl false))) sPass))))
  (sRet (eC (.bl true))))
def G__law_by_cells : List D → Wl → Res := fun ds w => runG 6 g__law_by_cells ds w
theorem fg__law_by_cells (T : Txt K.K K.T mg base) {fd : FuncData} (F : FunD K.K "_law_by_cells" "_law_by_cells" (defArgs s__law_by_cells) (defBody s__law_by_cells) (defScope s__law_by_cells) [] [] (He.ga K.K "_law_by_cells") fd) : FG P w K mg base 4 (He.ga K "_law_by_cells") fd ["frame", "bars"] (spD K 2 G__law_by_cells) := by
  refine fg_of F sc__law_by_cells (fun ds w h => rfl) (fun cdv hcv A outer s H E hr => ?_)
  have nd := (sc__law_by_cells).nd
  have tk : Takes (cx__law_by_cells P w K.K mg base cdv A outer s H E) (We E) := takes_of rfl rfl rfl rfl
  have hpo : PassesOwn (model P w) (cx__law_by_cells P w K.K mg base cdv A outer s H E).A (cx__law_by_cells P w K.K mg base cdv A outer s H E).env (cx__law_by_cells P w K.K mg base cdv A outer s H E).xe := passes_of (X := cx__law_by_cells P w K.K mg base cdv A outer s H E) rfl
  exact ⟨_, (dss_cons (ds_for hpo rfl (di_seq (de_c (cl__law_bar_cells T) hr tk (by decide) (by rfl) (da_cons (de_ix (de_var 0) de_int) (da_cons (de_var 1) da_nil)))) (dg_name 2 nd) (dss_cons (ds_set 3 nd (de_c (cl__law_possible T) hr tk (by decide) (by rfl) (da_cons (de_var 0) (da_cons (de_var 1) (da_cons (de_var 2) da_nil)))))
    (dss_one (ds_for hpo rfl (di_seq (de_ix (de_var 0) de_int)) (dg_name 4 nd) (dss_one (ds_if (DW.dt (dw_and (dt_notin hr.u (de_var 4) (de_var 3)) (dw_and1 (dt_truth (de_any rfl (by rfl) T.z_any (dq_cons (de_lc (own := [("each", 5)]) rfl nd (di_seq (de_c (cl__law_above T) hr tk (by decide) (by rfl) (da_cons (de_var 0) (da_cons (de_var 4) da_nil)))) (blkOk_by (by rfl)) (fun _ _ _ _ _ => (dg_name 5 nd)) (fun _ _ _ _ _ => (de_in hr.u (de_var 5) (de_var 3)))) da_nil)))))) (dss_one (ds_ret de_bl)) dss_nil))))))
    (dss_one (ds_ret de_bl)))⟩
theorem cl__law_by_cells (T : Txt K.K K.T mg base) : Cl P w K mg base 4 "_law_by_cells" 2 G__law_by_cells := by
  obtain ⟨fd, F⟩ := T.f__law_by_cells
  exact ⟨fd, _, fg__law_by_cells T F, T.g__law_by_cells, F.kp, FunD.bindsN (ps := ["frame", "bars"]) F fun _ _ _ _ _ _ us hl => match us, hl with | [_, _], _ => rfl⟩
theorem sc__law_right : FnScope ["well", "count", "grain", "frame", "is_told", "bars", "lot", "corner", "each", "less", "due", "told"] ["well"] (defScope s__law_right) := ⟨rfl, rfl, rfl, by decide +kernel, rfl, by decide +kernel, by decide +kernel⟩
abbrev cx__law_right (P : Program) (w : World) (K : PySem.W.Frag) (mg : Str → Option Value) (base : Heap) (cdv : Value) (A : Around) (outer : List Env) (s : Shared) (H : Hp) (E : XK) : Cx := cxOf (L2.CX P w) P w K mg base ["well", "count", "grain", "frame", "is_told", "bars", "lot", "corner", "each", "less", "due", "told"] "_law_right" (defScope s__law_right) (He.ga K "_law_right") cdv A outer s H E
def g__law_right : SG :=
  (sSeq (sPar 1 2 (aCons (eBin oAdd (eC (.int 1)) (eFn 2 G__law_take (aCons (eVar 0) (aCons (eC (.int 3)) aNil)))) (aCons (eFn 1 G__law_grain (aCons (eVar 0) aNil)) aNil)))
  (sSeq (sPar 3 4 (aCons (eFn 2 G__law_frame (aCons (eVar 0) (aCons (eVar 1) aNil))) (aCons (eBin oEq (eFn 2 G__law_take (aCons (eVar 0) (aCons (eC (.int 2)) aNil))) (eC (.int 0))) aNil)))
  (sSeq (sSet 5 (eFn 4 G__law_bars (aCons (eVar 0) (aCons (eVar 3) (aCons (eVar 2) (aCons (eFn 2 G__law_take (aCons (eVar 0) (aCons (eC (.int 5)) aNil))) aNil))))))
  (sSeq (sIf (eUn oTru (eVar 4)) (sFor (gSeq (eCall oLst (aCons (eVar 5) aNil))) (bTupN 2 (bCons (bName 6) (bCons (bName 7) bNil))) (sSet 5 (eBin oAdd (eVar 5) (eCall oTup (aCons (eLc (gSeq (eFn 2 G__law_above (aCons (eVar 3) (aCons (eVar 6) aNil)))) (bName 8) eYes (eTup (aCons (eVar 8) (aCons (eVar 7) aNil))) [8]) aNil))))) sPass)
  (sSeq (sPar 9 10 (aCons (eSl (eVar 5) (pSome (eC (.int 1))) pNone) (aCons (eIf (eUn oTru (eVar 4)) (eLst (aCons (eC (.bl true)) aNil)) (eLst (aCons (eFn 2 G__law_by_cells (aCons (eVar 3) (aCons (eVar 5) aNil))) aNil))) aNil)))
  (sSeq (sSet 11 (eLst (aCons (eFn 2 G_is_coherent (aCons (eVar 3) (aCons (eVar 5) aNil))) (aCons (eFnK 0 2 [1, 0] G_is_coherent aNil (aCons (eVar 5) (aCons (eVar 3) aNil))) aNil))))
  (sSeq (sSet 11 (eBin oAdd (eVar 11) (eLst (aCons (eFn 2 G_is_coherent (aCons (eVar 3) (aCons (eVar 9) aNil))) (aCons (eFn 2 G_is_coherent (aCons (eVar 3) (aCons (eTup aNil) aNil))) aNil)))))
  (sSeq (sSet 10 (eBin oAdd (eVar 10) (eLst (aCons (eFn 2 G__law_by_corners (aCons (eVar 3) (aCons (eVar 5) aNil))) (aCons (eFn 2 G__law_by_cells (aCons (eVar 3) (aCons (eVar 9) aNil))) (aCons (eC (.bl true)) aNil))))))
  (sRet (eBin oEq (eCall oRepr (aCons (eVar 11) aNil)) (eCall oRepr (aCons (eVar 10) aNil))))))))))))
def G__law_right : List D → Wl → Res := fun ds w => runG 12 g__law_right ds w
theorem fg__law_right (T : Txt K.K K.T mg base) {fd : FuncData} (F : FunD K.K "_law_right" "_law_right" (defArgs s__law_right) (defBody s__law_right) (defScope s__law_right) [] [] (He.ga K.K "_law_right") fd) : FG P w K mg base 10 (He.ga K "_law_right") fd ["well"] (spD K 1 G__law_right) := by
  refine fg_of F sc__law_right (fun ds w h => rfl) (fun cdv hcv A outer s H E hr => ?_)
  have nd := (sc__law_right).nd
  have tk : Takes (cx__law_right P w K.K mg base cdv A outer s H E) (We E) := takes_of rfl rfl rfl rfl
  have hpo : PassesOwn (model P w) (cx__law_right P w K.K mg base cdv A outer s H E).A (cx__law_right P w K.K mg base cdv A outer s H E).env (cx__law_right P w K.K mg base cdv A outer s H E).xe := passes_of (X := cx__law_right P w K.K mg base cdv A outer s H E) rfl
  exact ⟨_, (dss_cons (ds_par 1 2 rfl nd (da_cons (de_add de_int (de_c (cl__law_take T) hr tk (by decide) (by rfl) (da_cons (de_var 0) (da_cons de_int da_nil)))) (da_cons (de_c (cl__law_grain T) hr tk (by decide) (by rfl) (da_cons (de_var 0) da_nil)) da_nil)))
    (dss_cons (ds_par 3 4 rfl nd (da_cons (de_c (cl__law_frame T) hr tk (by decide) (by rfl) (da_cons (de_var 0) (da_cons (de_var 1) da_nil))) (da_cons (de_eq hr.u (de_c (cl__law_take T) hr tk (by decide) (by rfl) (da_cons (de_var 0) (da_cons de_int da_nil))) de_int) da_nil)))
    (dss_cons (ds_set 5 nd (de_c (cl__law_bars T) hr tk (by decide) (by rfl) (da_cons (de_var 0) (da_cons (de_var 3) (da_cons (de_var 2) (da_cons (de_c (cl__law_take T) hr tk (by decide) (by rfl) (da_cons (de_var 0) (da_cons de_int da_nil))) da_nil))))))
    (dss_cons (ds_if (dt_truth (de_var 4)) (dss_one (ds_for hpo rfl (di_seq (de_list (by rfl) T.z_list (dq_cons (de_var 5) da_nil))) (dg_tup rfl (dgs_cons (dg_name 6 nd) (dgs_cons (dg_name 7 nd) dgs_nil)) 2) (dss_one (ds_set 5 nd (de_add (de_var 5) (de_tuple (by rfl) T.z_tuple (dq_cons (de_lc (own := [("each", 8)]) rfl nd (di_seq (de_c (cl__law_above T) hr tk (by decide) (by rfl) (da_cons (de_var 3) (da_cons (de_var 6) da_nil)))) (blkOk_by (by rfl)) (fun _ _ _ _ _ => (dg_name 8 nd)) (fun _ _ _ _ _ => (de_tup (da_cons (de_var 8) (da_cons (de_var 7) da_nil))))) da_nil))))))) dss_nil)
    (dss_cons (ds_par 9 10 rfl nd (da_cons (de_slice (de_var 5) (dp_some de_int) dp_none) (da_cons (de_if (dt_truth (de_var 4)) (de_lst (da_cons de_bl da_nil)) (de_lst (da_cons (de_c (cl__law_by_cells T) hr tk (by decide) (by rfl) (da_cons (de_var 3) (da_cons (de_var 5) da_nil))) da_nil))) da_nil)))
    (dss_cons (ds_set 11 nd (de_lst (da_cons (de_c (cl_is_coherent T) hr tk (by decide) (by rfl) (da_cons (de_var 3) (da_cons (de_var 5) da_nil))) (da_cons (de_cK0 (ck_is_coherent_0_bars_frame T) hr tk (by decide) (by rfl) (dk_cons (de_var 5) (dk_cons (de_var 3) dk_nil))) da_nil))))
    (dss_cons (ds_set 11 nd (de_add (de_var 11) (de_lst (da_cons (de_c (cl_is_coherent T) hr tk (by decide) (by rfl) (da_cons (de_var 3) (da_cons (de_var 9) da_nil))) (da_cons (de_c (cl_is_coherent T) hr tk (by decide) (by rfl) (da_cons (de_var 3) (da_cons (de_tup da_nil) da_nil))) da_nil)))))
    (dss_cons (ds_set 10 nd (de_add (de_var 10) (de_lst (da_cons (de_c (cl__law_by_corners T) hr tk (by decide) (by rfl) (da_cons (de_var 3) (da_cons (de_var 5) da_nil))) (da_cons (de_c (cl__law_by_cells T) hr tk (by decide) (by rfl) (da_cons (de_var 3) (da_cons (de_var 9) da_nil))) (da_cons de_bl da_nil))))))
    (dss_one (ds_ret (de_eq hr.u (de_repr hr (by rfl) T.z_repr (dq_cons (de_var 11) da_nil)) (de_repr hr (by rfl) T.z_repr (dq_cons (de_var 10) da_nil)))))))))))))⟩
theorem cl__law_right (T : Txt K.K K.T mg base) : Cl P w K mg base 10 "_law_right" 1 G__law_right := by
  obtain ⟨fd, F⟩ := T.f__law_right
  exact ⟨fd, _, fg__law_right T F, T.g__law_right, F.kp, FunD.bindsN (ps := ["well"]) F fun _ _ _ _ _ _ us hl => match us, hl with | [_], _ => rfl⟩
theorem sc__law_well : FnScope ["script", "turn", "own", "stirred", "each"] ["script", "turn"] (defScope s__law_well) := ⟨rfl, rfl, rfl, by decide +kernel, rfl, by decide +kernel, by decide +kernel⟩
abbrev cx__law_well (P : Program) (w : World) (K : PySem.W.Frag) (mg : Str → Option Value) (base : Heap) (cdv : Value) (A : Around) (outer : List Env) (s : Shared) (H : Hp) (E : XK) : Cx := cxOf (L2.CX P w) P w K mg base ["script", "turn", "own", "stirred", "each"] "_law_well" (defScope s__law_well) (He.ga K "_law_well") cdv A outer s H E
def g__law_well : SG :=
  (sSeq (sSet 2 (eIf (eBin oLt (eVar 1) (eCall oLen (aCons (eVar 0) aNil))) (eCall oInt (aCons (eBin oIx (eVar 0) (eVar 1)) aNil)) (eBin oAdd (eBin oAdd (eC (.int 6007)) (eBin oMul (eC (.int 1009)) (eVar 1))) (eBin oMod (eCall oInt (aCons (eCall oSum (aCons (eSl (eVar 0) pNone (pSome (eC (.int 2)))) aNil)) aNil)) (eC (.int 1000003))))))
  (sSeq (sSet 3 (eBin oAdd (eC (.int 91009)) (eBin oMul (eC (.int 499)) (eVar 1))))
  (sSeq (sFor (gSeq (eSl (eVar 0) pNone (pSome (eC (.int 9))))) (bName 4) (sSet 3 (eBin oMod (eCall oInt (aCons (eBin oAdd (eBin oAdd (eBin oMul (eVar 3) (eC (.int 60493))) (eBin oMul (eBin oMod (eCall oInt (aCons (eVar 4) aNil)) (eC (.int 2147483549))) (eC (.int 5)))) (eC (.int 11))) aNil)) (eC (.int 2147483549)))))
  (sSeq (sSet 3 (eBin oMod (eCall oInt (aCons (eBin oAdd (eBin oAdd (eBin oMul (eVar 3) (eC (.int 197))) (eBin oMul (eBin oMod (eCall oInt (aCons (eVar 2) aNil)) (eC (.int 2147483549))) (eC (.int 30011)))) (eC (.int 5))) aNil)) (eC (.int 2147483549))))
  (sRetF (eLst (aCons (eIf (eOr (eBin oLt (eVar 2) (eC (.int 0))) (eBin oGe (eVar 2) (eBin oPow (eC (.int 10)) (eC (.int 18))))) (eCall oAbs (aCons (eVar 2) aNil)) (eC (.int 0))) (aCons (eVar 3) (aCons (eC (.int 0)) aNil)))))))))
def G__law_well : List D → Wl → Res := fun ds w => runN 5 g__law_well ds w
theorem fg__law_well (T : Txt K.K K.T mg base) {fd : FuncData} (F : FunD K.K "_law_well" "_law_well" (defArgs s__law_well) (defBody s__law_well) (defScope s__law_well) [] [] (He.ga K.K "_law_well") fd) : FG P w K mg base 1 (He.ga K "_law_well") fd ["script", "turn"] (spN K 2 G__law_well) := by
  refine fg_ofN F sc__law_well (fun ds w h => rfl) (fun cdv hcv A outer s H E hr => ?_)
  have nd := (sc__law_well).nd
  have tk : Takes (cx__law_well P w K.K mg base cdv A outer s H E) (We E) := takes_of rfl rfl rfl rfl
  have hpo : PassesOwn (model P w) (cx__law_well P w K.K mg base cdv A outer s H E).A (cx__law_well P w K.K mg base cdv A outer s H E).env (cx__law_well P w K.K mg base cdv A outer s H E).xe := passes_of (X := cx__law_well P w K.K mg base cdv A outer s H E) rfl
  exact ⟨_, (dss_cons (ds_set 2 nd (de_if (dt_lt hr.u (de_var 1) (de_len (by rfl) T.z_len (dq_cons (de_var 0) da_nil))) (de_intOf (by rfl) T.z_int (dq_cons (de_ix (de_var 0) (de_var 1)) da_nil)) (de_add (de_add de_int (de_mul de_int (de_var 1))) (de_mod (de_intOf (by rfl) T.z_int (dq_cons (de_sum rfl (by rfl) T.z_sum (dq_cons (de_slice (de_var 0) dp_none (dp_some de_int)) da_nil)) da_nil)) de_int))))
    (dss_cons (ds_set 3 nd (de_add de_int (de_mul de_int (de_var 1))))
    (dss_cons (ds_for hpo rfl (di_seq (de_slice (de_var 0) dp_none (dp_some de_int))) (dg_name 4 nd) (dss_one (ds_set 3 nd (de_mod (de_intOf (by rfl) T.z_int (dq_cons (de_add (de_add (de_mul (de_var 3) de_int) (de_mul (de_mod (de_intOf (by rfl) T.z_int (dq_cons (de_var 4) da_nil)) de_int) de_int)) de_int) da_nil)) de_int))))
    (dss_cons (ds_set 3 nd (de_mod (de_intOf (by rfl) T.z_int (dq_cons (de_add (de_add (de_mul (de_var 3) de_int) (de_mul (de_mod (de_intOf (by rfl) T.z_int (dq_cons (de_var 2) da_nil)) de_int) de_int)) de_int) da_nil)) de_int))
    (dss_one (ds_retF (de_lst (da_cons (de_if (DW.dt (dw_or (dt_lt hr.u (de_var 2) de_int) (dw_or1 (dt_ge (de_var 2) (de_pow de_int de_int))))) (de_abs (by rfl) T.z_abs (dq_cons (de_var 2) da_nil)) de_int) (da_cons (de_var 3) (da_cons de_int da_nil))))))))))⟩
theorem cln__law_well (T : Txt K.K K.T mg base) : ClN P w K mg base 1 "_law_well" 2 G__law_well := by
  obtain ⟨fd, F⟩ := T.f__law_well
  exact ⟨fd, _, fg__law_well T F, T.g__law_well, F.kp, FunD.bindsN (ps := ["script", "turn"]) F fun _ _ _ _ _ _ us hl => match us, hl with | [_, _], _ => rfl⟩
theorem sc_law : FnScope ["script", "turn"] ["script"] (defScope s_law) := ⟨rfl, rfl, rfl, by decide +kernel, rfl, by decide +kernel, by decide +kernel⟩
abbrev cx_law (P : Program) (w : World) (K : PySem.W.Frag) (mg : Str → Option Value) (base : Heap) (cdv : Value) (A : Around) (outer : List Env) (s : Shared) (H : Hp) (E : XK) : Cx := cxOf (L2.CX P w) P w K mg base ["script", "turn"] "law" (defScope s_law) (He.ga K "law") cdv A outer s H E
def g_law : SG :=
  (sRet (eCall oAll (aCons (eLc (gRng1 (aCons (eCall oMax (aCons (eC (.int 2)) (aCons (eCall oMin (aCons (eCall oLen (aCons (eVar 0) aNil)) (aCons (eC (.int 3)) aNil))) aNil))) aNil)) (bName 1) eYes (eWell 2 G__law_right G__law_well (aCons (eVar 0) (aCons (eVar 1) aNil))) [1]) aNil)))
def G_law : List D → Wl → Res := fun ds w => runG 2 g_law ds w
theorem fg_law (T : Txt K.K K.T mg base) {fd : FuncData} (F : FunD K.K "law" "law" (defArgs s_law) (defBody s_law) (defScope s_law) [] [] (He.ga K.K "law") fd) : FG P w K mg base 11 (He.ga K "law") fd ["script"] (spD K 1 G_law) := by
  refine fg_of F sc_law (fun ds w h => rfl) (fun cdv hcv A outer s H E hr => ?_)
  have nd := (sc_law).nd
  have tk : Takes (cx_law P w K.K mg base cdv A outer s H E) (We E) := takes_of rfl rfl rfl rfl
  have hpo : PassesOwn (model P w) (cx_law P w K.K mg base cdv A outer s H E).A (cx_law P w K.K mg base cdv A outer s H E).env (cx_law P w K.K mg base cdv A outer s H E).xe := passes_of (X := cx_law P w K.K mg base cdv A outer s H E) rfl
  exact ⟨_, (dss_one (ds_ret (de_all rfl (by rfl) T.z_all (dq_cons (de_lc (own := [("turn", 1)]) rfl nd (di_range1 (by rfl) T.z_range (dq_cons (de_max rfl (by rfl) T.z_max (dq_cons de_int (dq_cons (de_min rfl (by rfl) T.z_min (dq_cons (de_len (by rfl) T.z_len (dq_cons (de_var 0) da_nil)) (dq_cons de_int da_nil))) da_nil))) da_nil)) (blkOk_by (by rfl)) (fun _ _ _ _ _ => (dg_name 1 nd)) (fun _ _ _ _ _ => (de_well (cl__law_right T) (cln__law_well T) hr takes0 (by decide) (by decide) (by rfl) (by rfl) (da_cons (de_var 0) (da_cons (de_var 1) da_nil))))) da_nil))))⟩
end K22

namespace K22
open PySem PySem.Spec L2 DL PF LW
open PyProof.Rows hiding St
variable {P : Program} {w : World} {K : Kt} {mg : Str → Option Value} {base : Heap}
theorem ob_eq (s : PySem.W.SharedT) : ob s = hk.obs s.abs := obsL_eq (HandSHeadRun.getT_eq s)
end K22

/-! closed.py: limits in order, the ends of bars. -/
namespace CL
open PySem PySem.Spec L2 DL PF LW
open PyProof.Rows hiding St
/-- a limit: a fraction of the caller, or the module's 1 -/
inductive E where
  | li (r : Fr)
  | one
def E.fr : E → Fr
  | .li r => r
  | .one => (1, 1)
def encE : E → D
  | .li r => encQ r
  | .one => .con (([1, 1] : List Int).map .int)
theorem szH {n : Nat} (h : n ≤ 100000) : n ≤ sizeLine := Nat.le_trans h (show 100000 ≤ sizeLine by decide)
def keyE (e : E) : List Int := [e.fr.1, e.fr.2]
theorem keyI_E (e : E) : keyI (encE e) = some (keyE e) := by cases e <;> rfl
theorem keyed_E : ∀ es : List E, keyed (es.map encE) = some (es.map fun e => (keyE e, encE e))
  | [] => rfl
  | e :: es => by
    rw [List.map_cons, keyed, keyI_E, keyed_E es]
    rfl
theorem hasI_iff {α : Type} {acc : List (List Int × α)} {k : List Int} : hasI acc k = true ↔ ∃ y ∈ acc, y.1 = k := by
  unfold hasI
  rw [List.find?_isSome]
  constructor
  · rintro ⟨y, hy, h⟩
    exact ⟨y, hy, of_decide_eq_true h⟩
  · rintro ⟨y, hy, h⟩
    exact ⟨y, hy, decide_eq_true h⟩
theorem firstI_keeps {α : Type} : ∀ (xs acc : List (List Int × α)), ∀ x ∈ acc, x ∈ firstI acc xs
  | [], acc, x, h => h
  | y :: xs, acc, x, h => by
    rw [firstI]
    refine firstI_keeps xs _ x ?_
    split
    · exact h
    · exact List.mem_append_left _ h
theorem firstI_has {α : Type} : ∀ (xs acc : List (List Int × α)), ∀ x ∈ xs, ∃ y ∈ firstI acc xs, y.1 = x.1
  | [], acc, x, h => by cases h
  | z :: xs, acc, x, h => by
    rw [firstI]
    rcases List.mem_cons.mp h with rfl | h
    · split
      · rename_i hh
        obtain ⟨y, hy, e⟩ := hasI_iff.mp hh
        exact ⟨y, firstI_keeps xs _ y hy, e⟩
      · exact ⟨x, firstI_keeps xs _ x (List.mem_append_right _ (List.mem_singleton.mpr rfl)), rfl⟩
    · exact firstI_has xs _ x h
def ufst (es : List E) : List E := (firstI [] (es.map fun e => (keyE e, e))).map (·.2)
theorem ufst_sub {es : List E} {e : E} (h : e ∈ ufst es) : e ∈ es := by
  unfold ufst at h
  obtain ⟨x, hx, rfl⟩ := List.mem_map.mp h
  have := (firstI_sub _ _ x hx).resolve_left List.not_mem_nil
  obtain ⟨e, he, rfl⟩ := List.mem_map.mp this
  exact he
theorem ufst_has {es : List E} {e : E} (h : e ∈ es) : ∃ o ∈ ufst es, o.fr = e.fr := by
  obtain ⟨y, hy, h1⟩ := firstI_has (es.map fun e => (keyE e, e)) [] (keyE e, e) (List.mem_map.mpr ⟨e, h, rfl⟩)
  refine ⟨y.2, List.mem_map.mpr ⟨y, hy, rfl⟩, ?_⟩
  have := (firstI_sub _ _ y hy).resolve_left List.not_mem_nil
  obtain ⟨e2, he, rfl⟩ := List.mem_map.mp this
  have h1 : keyE e2 = keyE e := h1
  unfold keyE at h1
  show e2.fr = e.fr
  injection h1 with a1 a2
  injection a2 with a2 _
  exact Prod.ext a1 a2
theorem ufst_len (es : List E) : (ufst es).length ≤ es.length := by
  unfold ufst
  have := firstI_len (es.map fun e => (keyE e, e)) []
  rw [List.length_map] at *
  simpa using this
theorem eLK_ev {ge : EG} {en : List Sl} {w : Wl} {es : List E} (h : ge en w = .ok (.lst (es.map encE)) w) (hl : es.length ≤ 1000) : eLK ge en w = .ok (.lst ((ufst es).map encE)) w := by
  unfold eLK
  rw [h]
  have hz : (es.map encE).length < sizeLine := by
    rw [List.length_map]
    exact Nat.lt_of_lt_of_le (Nat.lt_succ_of_le hl) (show 1001 ≤ sizeLine by decide)
  show (if (es.map encE).length < sizeLine then (match keyed (es.map encE) with
      | some z => Res.ok (.lst ((firstI [] z).map fun x : List Int × D => x.2)) w
      | none => .bad) else .bad) = _
  rw [if_pos hz, keyed_E]
  have a := firstI_map (fun x : List Int × E => (x.1, encE x.2)) (fun _ => rfl) (es.map fun e => (keyE e, e)) []
  rw [List.map_map] at a
  show Res.ok (.lst ((firstI [] (es.map fun e : E => (keyE e, encE e))).map fun x : List Int × D => x.2)) w = _
  have a' : firstI [] (es.map fun e => (keyE e, encE e)) = (firstI [] (es.map fun e => (keyE e, e))).map fun x => (x.1, encE x.2) := a
  rw [a', List.map_map]
  unfold ufst
  rw [List.map_map]
  rfl
theorem perm_inv {α β : Type} {f : α → β} {l m : List β} (h : l.Perm m) : ∀ {us : List α}, m = us.map f → ∃ os : List α, List.Perm os us ∧ l = List.map f os := by
  induction h with
  | nil =>
    intro us e
    have : us = [] := by simpa using e.symm
    subst this
    exact ⟨[], .nil, rfl⟩
  | cons x _ ih =>
    intro us e
    cases us with
    | nil => cases e
    | cons u us =>
      rw [List.map_cons] at e
      injection e with e1 e2
      obtain ⟨os, p, rfl⟩ := ih e2
      exact ⟨u :: os, p.cons u, by rw [e1]; rfl⟩
  | swap x y l =>
    intro us e
    match us, e with
    | [], e => cases e
    | [_], e => cases e
    | u :: v :: us, e =>
      simp only [List.map_cons, List.cons.injEq] at e
      obtain ⟨rfl, rfl, rfl⟩ := e
      exact ⟨v :: u :: us, .swap u v us, rfl⟩
  | trans _ _ ih1 ih2 =>
    intro us e
    obtain ⟨os, p, e2⟩ := ih2 e
    obtain ⟨os2, p2, rfl⟩ := ih1 e2
    exact ⟨os2, p2.trans p, rfl⟩
theorem foldl_max_le {b : Int} : ∀ (ns : List Int) (a : Int), a ≤ b → (∀ x ∈ ns, x ≤ b) → ns.foldl max a ≤ b
  | [], a, h, _ => h
  | x :: ns, a, h, h2 => foldl_max_le ns (max a x) (by have := h2 x List.mem_cons_self; omega) fun y hy => h2 y (List.mem_cons_of_mem _ hy)
theorem foldl_max_ge : ∀ (ns : List Int) (a : Int), a ≤ ns.foldl max a
  | [], a => Int.le_refl a
  | x :: ns, a => Int.le_trans (Int.le_max_left a x) (foldl_max_ge ns (max a x))
theorem maxK_bd {b : Int} {ns : List Int} (h0 : ∀ x ∈ ns, 0 ≤ x ∧ x ≤ b) (hb : 0 ≤ b) : 0 ≤ maxK 0 ns ∧ maxK 0 ns ≤ b := by
  cases ns with
  | nil => exact ⟨Int.le_refl 0, hb⟩
  | cons n ns =>
    have hn := h0 n List.mem_cons_self
    have a := foldl_max_ge ns n
    exact ⟨show 0 ≤ ns.foldl max n by omega, foldl_max_le ns n hn.2 fun y hy => (h0 y (List.mem_cons_of_mem _ hy)).2⟩
theorem keysG_map {α : Type} {enc : α → D} {k : α → Int} {g : D → Res} {w : Wl} : ∀ {xs : List α}, (∀ x ∈ xs, g (enc x) = .ok (.int (k x)) w) → keysG g w (xs.map enc) = some (xs.map k)
  | [], _ => rfl
  | x :: xs, h => by
    rw [List.map_cons, keysG, h x List.mem_cons_self]
    simp only [if_true]
    rw [keysG_map fun y hy => h y (List.mem_cons_of_mem _ hy)]
    rfl
theorem sortKd_perm (ds : List D) (ks : List Int) (h : ks.length = ds.length) : (sortKd ds ks).Perm ds := by
  unfold sortKd
  have := (List.mergeSort_perm (ds.zip ks) (PySem.W.dataLe false keyP)).map (·.1)
  refine this.trans ?_
  rw [List.map_fst_zip (by omega)]
theorem in_order_ex {es : List E} (hl : es.length ≤ 1000) (hn : ∀ e ∈ es, isNum 96 e.fr) : ∃ os : List E, os.Perm (ufst es) ∧ ∀ w, G_in_order [.lst (es.map encE)] w = .ok (.lst (os.map encE)) w := by
  have hul := ufst_len es
  have hun : ∀ e ∈ ufst es, isNum 96 e.fr := fun e he => hn e (ufst_sub he)
  have hb : ∀ x ∈ (ufst es).map fun e => (Builtin.Int.intBits e.fr.2 : Int), 0 ≤ x ∧ x ≤ 96 := fun x hx => by
    obtain ⟨e, he, rfl⟩ := List.mem_map.mp hx
    have : Builtin.Int.intBits e.fr.2 ≤ 96 := PySem.intBits_le_iff.mpr (hun e he).2.2.2
    omega
  obtain ⟨m0, m1⟩ := maxK_bd hb (by omega)
  obtain ⟨m, hm⟩ : ∃ m : Nat, maxK 0 ((ufst es).map fun e => (Builtin.Int.intBits e.fr.2 : Int)) = m := ⟨_, (Int.toNat_of_nonneg m0).symm⟩
  rw [hm] at m1
  have hm96 : m ≤ 96 := by omega
  obtain ⟨os, hp, ho⟩ := perm_inv (f := encE) (sortKd_perm ((ufst es).map encE) ((ufst es).map fun e => e.fr.1 * 2 ^ (2 * m) / e.fr.2) (by simp)) rfl
  refine ⟨os, hp, fun w => ?_⟩
  have e1 : eLK (eVar 0) [.dat (.lst (es.map encE)), .non, .non, .non, .non, .non] w = .ok (.lst ((ufst es).map encE)) w := eLK_ev rfl hl
  have e2 : (eLc (gSeq (eVar 1)) (bTupN 2 (bCons (bName 4) (bCons (bName 5) bNil))) eYes (eUn oBits (eVar 5)) [4, 5]) [.dat (.lst (es.map encE)), .dat (.lst ((ufst es).map encE)), .non, .non, .non, .non] w = .ok (.lst (((ufst es).map fun e => (Builtin.Int.intBits e.fr.2 : Int)).map .int)) w := by
    rw [List.map_map]
    refine eLcY_ev encE (fun e => .int (Builtin.Int.intBits e.fr.2 : Int)) (ufst es) rfl (szL (by omega)) fun e _ => ⟨[.dat (.lst (es.map encE)), .dat (.lst ((ufst es).map encE)), .non, .non, .dat (.int e.fr.1), .dat (.int e.fr.2)], by cases e <;> rfl, rfl⟩
  have e3 : (eMaxK (eLc (gSeq (eVar 1)) (bTupN 2 (bCons (bName 4) (bCons (bName 5) bNil))) eYes (eUn oBits (eVar 5)) [4, 5]) (eC (.int 0))) [.dat (.lst (es.map encE)), .dat (.lst ((ufst es).map encE)), .non, .non, .non, .non] w = .ok (.int m) w := by
    unfold eMaxK
    rw [e2]
    show oMaxK (.lst (((ufst es).map fun e => (Builtin.Int.intBits e.fr.2 : Int)).map .int)) (.int 0) w = _
    unfold oMaxK
    simp only [allInts_map, hm]
  have e4 : (eBin oMul (eC (.int 2)) (eMaxK (eLc (gSeq (eVar 1)) (bTupN 2 (bCons (bName 4) (bCons (bName 5) bNil))) eYes (eUn oBits (eVar 5)) [4, 5]) (eC (.int 0)))) [.dat (.lst (es.map encE)), .dat (.lst ((ufst es).map encE)), .non, .non, .non, .non] w = .ok (.int ((2 * m : Nat) : Int)) w := by
    refine (mul_ev (B := 2) (C := 96) (w1 := w) (w2 := w) (i := 2) (j := m) rfl e3 (by decide) ?_ (by omega)).trans (by rw [Int.natCast_mul]; rfl)
    rw [Int.natAbs_natCast]
    exact Nat.lt_of_le_of_lt hm96 (by decide)
  have e5 : eSortL 2 (eVar 1) (eBin oFdiv (eBin oShlW (eBin oIx (eVar 2) (eC (.int 0))) (eVar 3)) (eBin oIx (eVar 2) (eC (.int 1)))) [.dat (.lst (es.map encE)), .dat (.lst ((ufst es).map encE)), .non, .dat (.int ((2 * m : Nat) : Int)), .non, .non] w = .ok (.lst (os.map encE)) w := by
    unfold eSortL
    show (match keysG _ w ((ufst es).map encE) with
      | some ks => if ((ufst es).map encE).length ≤ sizeLine then Res.ok (.lst (sortKd ((ufst es).map encE) ks)) w else .bad
      | none => .bad) = _
    rw [keysG_map (k := fun e => e.fr.1 * 2 ^ (2 * m) / e.fr.2) fun e he => ?_]
    · rw [List.length_map]
      show (if (ufst es).length ≤ sizeLine then Res.ok (.lst (sortKd ((ufst es).map encE) _)) w else .bad) = _
      rw [if_pos (szL (by omega)), ho]
    · have hq := hun e he
      have i0 : (eBin oIx (eVar 2) (eC (.int 0))) [.dat (.lst (es.map encE)), .dat (.lst ((ufst es).map encE)), .dat (encE e), .dat (.int ((2 * m : Nat) : Int)), .non, .non] w = .ok (.int e.fr.1) w := by cases e <;> rfl
      have i1 : (eBin oIx (eVar 2) (eC (.int 1))) [.dat (.lst (es.map encE)), .dat (.lst ((ufst es).map encE)), .dat (encE e), .dat (.int ((2 * m : Nat) : Int)), .non, .non] w = .ok (.int e.fr.2) w := by cases e <;> rfl
      have i2 : (eBin oShlW (eBin oIx (eVar 2) (eC (.int 0))) (eVar 3)) [.dat (.lst (es.map encE)), .dat (.lst ((ufst es).map encE)), .dat (encE e), .dat (.int ((2 * m : Nat) : Int)), .non, .non] w = .ok (.int (e.fr.1 * 2 ^ (2 * m))) w := by
        refine (bin_ev (w1 := w) (d := .int e.fr.1) (e := .int ((2 * m : Nat) : Int)) i0 rfl).trans ?_
        show (if decide (CShl e.fr.1 ((2 * m : Nat) : Int)) then Res.ok (.int (e.fr.1 * 2 ^ ((2 * m : Nat) : Int).toNat)) w else .bad) = _
        rw [decide_eq_true (shl_ok hq.2.2.1 (by omega)), Int.toNat_natCast]
        rfl
      exact fdiv_ev i2 i1 hq.1.1 hq.2.2.2 (by omega)
  exact run_rt ((set_seq (w1 := w) e1).trans ((set_seq (w1 := w) e4).trans (ret_ev e5)))
noncomputable def ordE (es : List E) : List E := @Classical.epsilon _ ⟨[]⟩ fun os : List E => os.Perm (ufst es) ∧ ∀ w, G_in_order [.lst (es.map encE)] w = .ok (.lst (os.map encE)) w
theorem ordE_ok {es : List E} (hl : es.length ≤ 1000) (hn : ∀ e ∈ es, isNum 96 e.fr) : (ordE es).Perm (ufst es) ∧ ∀ w, G_in_order [.lst (es.map encE)] w = .ok (.lst ((ordE es).map encE)) w := Classical.epsilon_spec (in_order_ex hl hn)
/-! ### the ends of bars -/
def limE (bs : List Bar) (j : Nat) : List E := (limsAt bs j).map .li ++ [.one]
theorem limE_len (bs : List Bar) (j : Nat) : (limE bs j).length ≤ bs.length + 1 := by
  unfold limE
  have := limsAt_len bs j
  simp
  omega
theorem num1' : isNum 96 (1, 1) := ⟨⟨by decide, by decide⟩, ⟨by decide, by decide⟩, by decide, by decide⟩
theorem lims_num {n : Nat} {bs : List Bar} (hb : ∀ b ∈ bs, isBar 96 n b) (j : Nat) (hj : j < n) : ∀ q ∈ limsAt bs j, isNum 96 q := fun q hq => by
  unfold limsAt at hq
  obtain ⟨l, hl, e⟩ := List.mem_filterMap.mp hq
  obtain ⟨b, hm, rfl⟩ := List.mem_map.mp hl
  exact (hb b hm).2.1.2 _ (List.mem_of_getElem? (getD_some none (by rw [(hb b hm).2.1.1]; exact hj))) q e
theorem limE_num {n : Nat} {bs : List Bar} (hb : ∀ b ∈ bs, isBar 96 n b) (j : Nat) (hj : j < n) : ∀ e ∈ limE bs j, isNum 96 e.fr := fun e he => by
  rcases List.mem_append.mp he with h | h
  · obtain ⟨q, hq, rfl⟩ := List.mem_map.mp h
    exact lims_num hb j hj q hq
  · rw [List.mem_singleton.mp h]
    exact num1'
noncomputable def endsL (n : Nat) (bs : List Bar) : List (List E) := (List.range n).map fun j => ordE (limE bs j)
def encO (os : List E) : D := .lst (os.map encE)
theorem ends_mem {n : Nat} {bs : List Bar} (hb : ∀ b ∈ bs, isBar 96 n b) (hbl : bs.length ≤ 240) {j : Nat} (hj : j < n) : (∀ e ∈ ordE (limE bs j), e.fr ∈ (1, 1) :: limsAt bs j) ∧ (∀ q ∈ (1, 1) :: limsAt bs j, ∃ e ∈ ordE (limE bs j), e.fr = q) ∧ (ordE (limE bs j)).length ≤ bs.length + 1 := by
  have ll := limE_len bs j
  have hp := (ordE_ok (by omega) (limE_num hb j hj)).1
  refine ⟨fun e he => ?_, fun q hq => ?_, ?_⟩
  · rcases List.mem_append.mp (ufst_sub (hp.mem_iff.mp he)) with h | h
    · obtain ⟨q, hq, rfl⟩ := List.mem_map.mp h
      exact List.mem_cons_of_mem _ hq
    · rw [List.mem_singleton.mp h]
      exact List.mem_cons_self
  · have : ∃ e ∈ limE bs j, e.fr = q := by
      rcases List.mem_cons.mp hq with rfl | h
      · exact ⟨.one, List.mem_append_right _ (List.mem_singleton.mpr rfl), rfl⟩
      · exact ⟨.li q, List.mem_append_left _ (List.mem_map.mpr ⟨q, h, rfl⟩), rfl⟩
    obtain ⟨e, he, rfl⟩ := this
    obtain ⟨o, ho, h⟩ := ufst_has he
    exact ⟨o, hp.mem_iff.mpr ho, h⟩
  · rw [hp.length_eq]
    have := ufst_len (limE bs j)
    omega
end CL

/-! closed.py: cells, bits, the possible lots at cells. -/
namespace CL
open PySem PySem.Spec L2 DL PF LW
open PyProof.Rows hiding St
/-! ### cells, as lists -/
section
variable {α β : Type}
def stepC (cells : List (List α)) (own : List α) : List (List α) := cells.flatMap fun c => own.map fun e => c ++ [e]
def cellsL (os : List (List α)) : List (List α) := os.foldl stepC [[]]
def InC : List α → List (List α) → Prop
  | [], [] => True
  | e :: c, o :: os => e ∈ o ∧ InC c os
  | _, _ => False
theorem InC.len : ∀ {c : List α} {os : List (List α)}, InC c os → c.length = os.length
  | [], [], _ => rfl
  | _ :: _, _ :: _, h => by rw [List.length_cons, List.length_cons, h.2.len]
  | [], _ :: _, h => h.elim
  | _ :: _, [], h => h.elim
theorem mem_step {cells : List (List α)} {own : List α} {c : List α} : c ∈ stepC cells own ↔ ∃ c0 ∈ cells, ∃ e ∈ own, c = c0 ++ [e] := by
  unfold stepC
  rw [List.mem_flatMap]
  constructor
  · rintro ⟨c0, h0, h⟩
    obtain ⟨e, he, rfl⟩ := List.mem_map.mp h
    exact ⟨c0, h0, e, he, rfl⟩
  · rintro ⟨c0, h0, e, he, rfl⟩
    exact ⟨c0, h0, List.mem_map.mpr ⟨e, he, rfl⟩⟩
theorem mem_fold : ∀ (os : List (List α)) (cells : List (List α)) (c : List α), c ∈ os.foldl stepC cells ↔ ∃ c0 ∈ cells, ∃ c1, c = c0 ++ c1 ∧ InC c1 os
  | [], cells, c => by
    constructor
    · intro h
      exact ⟨c, h, [], by simp, trivial⟩
    · rintro ⟨c0, h0, c1, rfl, h1⟩
      cases c1 with
      | nil => simpa using h0
      | cons _ _ => exact h1.elim
  | o :: os, cells, c => by
    rw [List.foldl_cons, mem_fold os]
    constructor
    · rintro ⟨c0, h0, c1, rfl, h1⟩
      obtain ⟨c2, h2, e, he, rfl⟩ := mem_step.mp h0
      exact ⟨c2, h2, e :: c1, by simp, he, h1⟩
    · rintro ⟨c0, h0, c1, rfl, h1⟩
      cases c1 with
      | nil => exact h1.elim
      | cons e c1 => exact ⟨c0 ++ [e], mem_step.mpr ⟨c0, h0, e, h1.1, rfl⟩, c1, by simp, h1.2⟩
theorem mem_cells {os : List (List α)} {c : List α} : c ∈ cellsL os ↔ InC c os := by
  unfold cellsL
  rw [mem_fold]
  constructor
  · rintro ⟨c0, h0, c1, rfl, h1⟩
    rw [List.mem_singleton.mp h0]
    exact h1
  · intro h
    exact ⟨[], List.mem_singleton.mpr rfl, c, rfl, h⟩
theorem step_len (cells : List (List α)) (own : List α) : (stepC cells own).length = cells.length * own.length := by
  unfold stepC
  induction cells with
  | nil => simp
  | cons c cells ih =>
    rw [List.flatMap_cons, List.length_append, ih, List.length_map, List.length_cons, Nat.add_mul, Nat.one_mul, Nat.add_comm]
theorem inC_all {γ : Type} {A : γ → List α} {P : α → Prop} : ∀ {l : List γ} {c : List α}, InC c (l.map A) → (∀ j ∈ l, ∀ e ∈ A j, P e) → ∀ e ∈ c, P e
  | [], [], _, _ => by simp
  | j :: l, e :: c, h, hh => fun x hx => by
    rcases List.mem_cons.mp hx with rfl | hx
    · exact hh j List.mem_cons_self x h.1
    · exact inC_all h.2 (fun i hi => hh i (List.mem_cons_of_mem _ hi)) x hx
  | [], _ :: _, h, _ => h.elim
  | _ :: _, [], h, _ => h.elim
end
/-! ### comprehensions over two sources -/
section
variable {α β : Type} {b b1 : BG} {gi gi1 : AG} {ge : EG} {en S : List Sl} {w : Wl} {vs vs1 : List Nat}
end
/-! ### bits -/
section
variable {w : Wl}
/-! ### the pairs at cells -/
end
end CL

/-! closed.py: what cells_of, pairs_at, possible_at answer. -/
namespace CL
open PySem PySem.Spec L2 DL PF LW
open PyProof.Rows hiding St
section
variable {α : Type}
theorem one_step {k m : Nat} {cells : List (List α)} {o : List α} {os : List (List α)} (hk : 1 ≤ k) (ho : o.length ≤ k) (h : cells.length * k ^ (o :: os).length ≤ m) : (stepC cells o).length * k ^ os.length ≤ m ∧ (stepC cells o).length ≤ m := by
  rw [List.length_cons, Nat.pow_succ, Nat.mul_comm (k ^ os.length) k, ← Nat.mul_assoc] at h
  have a : (stepC cells o).length * k ^ os.length ≤ m := by
    rw [step_len]
    exact Nat.le_trans (Nat.mul_le_mul_right _ (Nat.mul_le_mul_left _ ho)) h
  exact ⟨a, Nat.le_trans (Nat.le_mul_of_pos_right _ (Nat.pow_pos hk)) a⟩
end
section
variable {w : Wl}
theorem step_clen {α : Type} {cells : List (List α)} {o : List α} {m : Nat} (h : ∀ c ∈ cells, c.length = m) : ∀ c ∈ stepC cells o, c.length = m + 1 := fun c hc => by
  obtain ⟨c0, h0, e, _, rfl⟩ := mem_step.mp hc
  rw [List.length_append, h c0 h0, List.length_singleton]
/-- what the ends have to be: some, few -/
structure Few (os : List (List E)) (k : Nat) : Prop where
  k1 : 1 ≤ k
  few : ∀ o ∈ os, o.length ≤ k
  all : k ^ os.length ≤ 100000
  len : os.length ≤ 900
/-! ### pairs -/
/-! ### the possible lots -/
/-! ### what is sure of possible lots in a list -/
end
end CL

/-! closed.py: the laws' own helpers at cells. -/
namespace CL
open PySem PySem.Spec L2 DL PF LW
open PyProof.Rows hiding St
section
variable {w : Wl}
/-! ### cells of the law -/
def edgeS (j : Nat) (acc : List Fr) (b : Bar) : List Fr := match b.2.getD j none with
  | some q => if q ∈ acc then acc else acc ++ [q]
  | none => acc
def edgesL (bs : List Bar) (j : Nat) : List Fr := bs.foldl (edgeS j) [(1, 1)]
theorem edges_mem (j : Nat) : ∀ (bs : List Bar) (acc : List Fr) (q : Fr), q ∈ bs.foldl (edgeS j) acc ↔ q ∈ acc ∨ q ∈ limsAt bs j
  | [], acc, q => by simp [limsAt]
  | b :: bs, acc, q => by
    rw [List.foldl_cons, edges_mem j bs]
    have e : limsAt (b :: bs) j = (match b.2.getD j none with | some r => [r] | none => []) ++ limsAt bs j := by
      unfold limsAt
      rw [List.map_cons]
      cases b.2.getD j none <;> simp
    rw [e]
    unfold edgeS
    cases b.2.getD j none with
    | none => simp
    | some r =>
      dsimp only
      by_cases h : r ∈ acc
      · rw [if_pos h]
        constructor
        · rintro (h1 | h1)
          · exact .inl h1
          · exact .inr (List.mem_append_right _ h1)
        · rintro (h1 | h1)
          · exact .inl h1
          · rcases List.mem_append.mp h1 with h2 | h2
            · rw [List.mem_singleton.mp h2]; exact .inl h
            · exact .inr h2
      · rw [if_neg h]
        simp [or_assoc]
theorem edges_len (j : Nat) : ∀ (bs : List Bar) (acc : List Fr), (bs.foldl (edgeS j) acc).length ≤ acc.length + bs.length
  | [], acc => Nat.le_refl _
  | b :: bs, acc => by
    rw [List.foldl_cons, List.length_cons]
    have := edges_len j bs (edgeS j acc b)
    have h2 : (edgeS j acc b).length ≤ acc.length + 1 := by
      unfold edgeS
      split
      · split
        · omega
        · rw [List.length_append, List.length_singleton]; exact Nat.le_refl _
      · omega
    omega
def bodyG : SG := (sIf (eAnd (eBin oNot (eBin oIx (eVar 6) (eVar 3)) (eC .non)) (eBin oNotIn (eBin oIx (eVar 6) (eVar 3)) (eOwn 4))) (sApp 4 (eBin oIx (eVar 6) (eVar 3))) sPass)
def bodyW : SG := (sSet 7 (eBin oAdd (eVar 7) (eLc (gSeq (eOwn 4)) (bName 9) eYes (eBin oAdd (eVar 8) (eTup (aCons (eVar 9) aNil))) [9])))
def bodyV : SG := (sSeq (sOwn 4 (eLst (aCons (eTup (aCons (eC (.int 1)) (aCons (eC (.int 1)) aNil))) aNil)))
  (sSeq (sFor (gSeq (eVar 1)) (bTupN 2 (bCons (bName 5) (bCons (bName 6) bNil))) bodyG)
  (sSeq (sSet 7 (eLst aNil))
  (sSeq (sFor (gSeq (eVar 2)) (bName 8) bodyW)
  (sSet 2 (eVar 7))))))
theorem loopG {n : Nat} (j : Nat) (hj : j < n) (d0 d1 d2 : D) (s7 s8 : Sl) : ∀ (bs : List Bar) (acc : List Fr) (s5 s6 : Sl), (∀ b ∈ bs, isBar 96 n b) → acc.length + bs.length ≤ 900 →
    ∃ s5' s6', forG (bTupN 2 (bCons (bName 5) (bCons (bName 6) bNil))) bodyG (bs.map encBar) [.dat d0, .dat d1, .dat d2, .dat (.int (j : Nat)), .own (acc.map encQ), s5, s6, s7, s8, .non] w = .nx [.dat d0, .dat d1, .dat d2, .dat (.int (j : Nat)), .own ((bs.foldl (edgeS j) acc).map encQ), s5', s6', s7, s8, .non] w
  | [], acc, s5, s6, _, _ => ⟨s5, s6, rfl⟩
  | b :: bs, acc, s5, s6, hb, hl => by
    rw [List.length_cons] at hl
    have hbb := hb b List.mem_cons_self
    have ei : (eBin oIx (eVar 6) (eVar 3)) [.dat d0, .dat d1, .dat d2, .dat (.int (j : Nat)), .own (acc.map encQ), .dat (encI b.1), .dat (encC b.2), s7, s8, .non] w = .ok (encL (b.2.getD j none)) w := (bin_ev (w1 := w) (d := encC b.2) (e := .int j) rfl rfl).trans (ix_tup encL (getD_some none (by rw [hbb.2.1.1]; exact hj)) w)
    have e : bodyG [.dat d0, .dat d1, .dat d2, .dat (.int (j : Nat)), .own (acc.map encQ), .dat (encI b.1), .dat (encC b.2), s7, s8, .non] w = .nx [.dat d0, .dat d1, .dat d2, .dat (.int (j : Nat)), .own ((edgeS j acc b).map encQ), .dat (encI b.1), .dat (encC b.2), s7, s8, .non] w := by
      unfold edgeS
      cases hq : b.2.getD j none with
      | none =>
        rw [hq] at ei
        exact (ifF (w1 := w) (and_F (w1 := w) ((bin_ev ei rfl).trans rfl))).trans rfl
      | some q =>
        rw [hq] at ei
        have en : (eBin oNotIn (eBin oIx (eVar 6) (eVar 3)) (eOwn 4)) [.dat d0, .dat d1, .dat d2, .dat (.int (j : Nat)), .own (acc.map encQ), .dat (encI b.1), .dat (encC b.2), s7, s8, .non] w = .ok (.bl (!decide (q ∈ acc))) w := (bin_ev ei rfl).trans (oNotInL_ev (w := w) eqs_fr q acc shp_fr)
        dsimp only
        by_cases h : q ∈ acc
        · rw [decide_eq_true h] at en
          rw [if_pos h]
          exact (ifF (w1 := w) ((and_T (w1 := w) ((bin_ev ei rfl).trans rfl)).trans en)).trans rfl
        · rw [decide_eq_false h] at en
          rw [if_neg h]
          refine (ifT (w1 := w) ((and_T (w1 := w) ((bin_ev ei rfl).trans rfl)).trans en)).trans ((app_ev (ds := acc.map encQ) (d := encQ q) (w1 := w) rfl ei (by rw [List.length_map]; omega)).trans ?_)
          rw [List.map_append]
          rfl
    have hl2 : (edgeS j acc b).length ≤ acc.length + 1 := edges_len j [b] acc
    obtain ⟨s5', s6', e2⟩ := loopG j hj d0 d1 d2 s7 s8 bs (edgeS j acc b) (.dat (encI b.1)) (.dat (encC b.2)) (fun c hc => hb c (List.mem_cons_of_mem _ hc)) (by omega)
    exact ⟨s5', s6', (for_cons (b := bTupN 2 (bCons (bName 5) (bCons (bName 6) bNil))) (d := encBar b) rfl e).trans e2⟩
theorem loopW (d0 d1 d2 : D) (s3 s5 s6 : Sl) (own : List Fr) (hol : own.length ≤ 1000) : ∀ (cells wider : List (List Fr)) (s8 : Sl), (∀ c ∈ cells, c.length ≤ 900) → wider.length + cells.length * own.length ≤ 100000 →
    ∃ s8', forG (bName 8) bodyW (cells.map encN) [.dat d0, .dat d1, .dat d2, s3, .own (own.map encQ), s5, s6, .dat (.lst (wider.map encN)), s8, .non] w = .nx [.dat d0, .dat d1, .dat d2, s3, .own (own.map encQ), s5, s6, .dat (.lst ((wider ++ stepC cells own).map encN)), s8', .non] w
  | [], wider, s8, _, _ => ⟨s8, by
    show Out.nx _ w = _
    unfold stepC
    rw [List.flatMap_nil, List.append_nil]⟩
  | c :: cells, wider, s8, hc, hl => by
    rw [List.length_cons, Nat.add_mul, Nat.one_mul] at hl
    have e0 : (eLc (gSeq (eOwn 4)) (bName 9) eYes (eBin oAdd (eVar 8) (eTup (aCons (eVar 9) aNil))) [9]) [.dat d0, .dat d1, .dat d2, s3, .own (own.map encQ), s5, s6, .dat (.lst (wider.map encN)), .dat (encN c), .non] w = .ok (.lst ((own.map fun q => c ++ [q]).map encN)) w := by
      rw [List.map_map]
      refine eLcY_ev encQ (fun q => encN (c ++ [q])) own rfl (szL hol) fun q _ => ⟨[.dat d0, .dat d1, .dat d2, s3, .own (own.map encQ), s5, s6, .dat (.lst (wider.map encN)), .dat (encN c), .dat (encQ q)], rfl, ?_⟩
      refine (addT_ev (w1 := w) (w2 := w) (xs := c.map encQ) (ys := [encQ q]) rfl rfl (szL ?_)).trans ?_
      · have := hc c List.mem_cons_self
        rw [List.length_map, List.length_singleton]
        omega
      · show Res.ok (.tup (c.map encQ ++ [encQ q])) w = Res.ok (.tup ((c ++ [q]).map encQ)) w
        rw [List.map_append]
        rfl
    have e1 : bodyW [.dat d0, .dat d1, .dat d2, s3, .own (own.map encQ), s5, s6, .dat (.lst (wider.map encN)), .dat (encN c), .non] w = .nx [.dat d0, .dat d1, .dat d2, s3, .own (own.map encQ), s5, s6, .dat (.lst ((wider ++ own.map fun q => c ++ [q]).map encN)), .dat (encN c), .non] w := by
      refine set_ev ((addL_ev (w1 := w) (w2 := w) (xs := wider.map encN) rfl e0 (szH ?_)).trans ?_)
      · simp only [List.length_map]
        omega
      · rw [List.map_append]
    obtain ⟨s8', e2⟩ := loopW d0 d1 d2 s3 s5 s6 own hol cells (wider ++ own.map fun q => c ++ [q]) (.dat (encN c)) (fun x hx => hc x (List.mem_cons_of_mem _ hx)) (by simp only [List.length_append, List.length_map]; omega)
    refine ⟨s8', (for_cons (b := bName 8) (d := encN c) rfl e1).trans (e2.trans ?_)⟩
    rw [List.append_assoc]
    rfl
theorem bodyV_ev {n : Nat} {bs : List Bar} (hb : ∀ b ∈ bs, isBar 96 n b) (hbl : bs.length ≤ 240) (d0 : D) (cells : List (List Fr)) (j : Nat) (hj : j < n) (hl : cells.length * (edgesL bs j).length ≤ 100000) (hc : ∀ c ∈ cells, c.length ≤ 900) (s4 s5 s6 s7 s8 : Sl) :
    ∃ s4' s5' s6' s7' s8', bodyV [.dat d0, .dat (encBs bs), .dat (.lst (cells.map encN)), .dat (.int (j : Nat)), s4, s5, s6, s7, s8, .non] w = .nx [.dat d0, .dat (encBs bs), .dat (.lst ((stepC cells (edgesL bs j)).map encN)), .dat (.int (j : Nat)), s4', s5', s6', s7', s8', .non] w := by
  have el := edges_len j bs [(1, 1)]
  rw [List.length_singleton] at el
  obtain ⟨s5', s6', e1⟩ := loopG (w := w) j hj d0 (encBs bs) (.lst (cells.map encN)) s7 s8 bs [(1, 1)] s5 s6 hb (by rw [List.length_singleton]; omega)
  obtain ⟨s8', e2⟩ := loopW (w := w) d0 (encBs bs) (.lst (cells.map encN)) (.dat (.int (j : Nat))) s5' s6' (edgesL bs j) (by unfold edgesL; omega) cells [] s8 hc (by simpa using hl)
  exact ⟨_, s5', s6', _, s8', (own_seq (w1 := w) (ds := [encQ (1, 1)]) rfl).trans ((seq_nx ((for_ev (ds := bs.map encBar) (w1 := w) rfl).trans e1)).trans ((set_seq (w1 := w) (d := .lst []) rfl).trans ((seq_nx ((for_ev (ds := cells.map encN) (w1 := w) rfl).trans e2)).trans (set_ev rfl))))⟩
theorem loopV {n : Nat} {bs : List Bar} (hb : ∀ b ∈ bs, isBar 96 n b) (hbl : bs.length ≤ 240) (d0 : D) {k : Nat} (hk : 1 ≤ k) (hbk : bs.length + 1 ≤ k) : ∀ (js : List Nat) (cells : List (List Fr)) (m : Nat) (s3 s4 s5 s6 s7 s8 : Sl), (∀ j ∈ js, j < n) → cells.length * k ^ js.length ≤ 100000 → (∀ c ∈ cells, c.length = m) → m + js.length ≤ 900 →
    ∃ s3' s4' s5' s6' s7' s8', forG (bName 3) bodyV (js.map fun j : Nat => D.int j) [.dat d0, .dat (encBs bs), .dat (.lst (cells.map encN)), s3, s4, s5, s6, s7, s8, .non] w = .nx [.dat d0, .dat (encBs bs), .dat (.lst (((js.map (edgesL bs)).foldl stepC cells).map encN)), s3', s4', s5', s6', s7', s8', .non] w
  | [], cells, m, s3, s4, s5, s6, s7, s8, _, _, _, _ => ⟨s3, s4, s5, s6, s7, s8, rfl⟩
  | j :: js, cells, m, s3, s4, s5, s6, s7, s8, hj, hl, hc, hm => by
    rw [List.length_cons] at hm
    have el := edges_len j bs [(1, 1)]
    rw [List.length_singleton] at el
    have ok : (edgesL bs j).length ≤ k := by unfold edgesL; omega
    have hl' : cells.length * k ^ (edgesL bs j :: js.map (edgesL bs)).length ≤ 100000 := by
      rw [List.length_cons, List.length_map]
      exact hl
    obtain ⟨a1, a2⟩ := one_step (cells := cells) hk ok hl'
    rw [List.length_map] at a1
    obtain ⟨s4', s5', s6', s7', s8', e1⟩ := bodyV_ev (w := w) hb hbl d0 cells j (hj j List.mem_cons_self) (by rw [step_len] at a2; exact a2) (fun c hcm => by rw [hc c hcm]; omega) s4 s5 s6 s7 s8
    obtain ⟨t3, t4, t5, t6, t7, t8, e2⟩ := loopV hb hbl d0 hk hbk js (stepC cells (edgesL bs j)) (m + 1) (.dat (.int (j : Nat))) s4' s5' s6' s7' s8' (fun i hi => hj i (List.mem_cons_of_mem _ hi)) a1 (step_clen hc) (by omega)
    exact ⟨t3, t4, t5, t6, t7, t8, (for_cons (b := bName 3) (d := D.int (j : Nat)) rfl e1).trans e2⟩
theorem bar_cells_ev {n : Nat} (h5 : n ≤ 5) {bs : List Bar} (hb : ∀ b ∈ bs, isBar 96 n b) (hbl : bs.length ≤ 240) {k : Nat} (hbk : bs.length + 1 ≤ k) (hk : k ^ n ≤ 100000) : G__law_bar_cells [.int n, encBs bs] w = .ok (.lst ((cellsL ((List.range n).map (edgesL bs))).map encN)) w := by
  obtain ⟨t3, t4, t5, t6, t7, t8, e⟩ := loopV (w := w) hb hbl (.int n) (k := k) (by omega) hbk (List.range n) [[]] 0 .non .non .non .non .non .non (fun j hj => List.mem_range.mp hj) (by rw [List.length_singleton, List.length_range, Nat.one_mul]; exact hk) (fun c hc => by rw [List.mem_singleton.mp hc]; rfl) (by rw [List.length_range]; omega)
  have hr : gRng1 (aCons (eVar 0) aNil) [.dat (.int n), .dat (encBs bs), .dat (.lst [.tup []]), .non, .non, .non, .non, .non, .non, .non] w = .ok ((List.range n).map fun j : Nat => D.int j) w := by
    have := rng_ev (g := aCons (eVar 0) aNil) (en := [.dat (.int n), .dat (encBs bs), .dat (.lst [.tup []]), .non, .non, .non, .non, .non, .non, .non]) (w := w) (n := (n : Int)) rfl (small_nat (by omega))
    rw [Int.toNat_natCast] at this
    refine this.trans ?_
    unfold upto
    rw [List.map_map]
    rfl
  exact run_rt ((set_seq (w1 := w) (d := .lst [.tup []]) rfl).trans ((seq_nx ((for_ev (w1 := w) hr).trans e)).trans (ret_ev rfl)))
/-! ### numbers of the law -/
end
end CL

/-! closed.py: sure counts, the cells of few bars. -/
namespace CL
open PySem PySem.Spec L2 DL PF LW
open PyProof.Rows hiding St
section
variable {w : Wl}
theorem seq_rt {h k : SG} {en : List Sl} {d : D} {w1 : Wl} (hh : h en w = .rt d w1) : sSeq h k en w = .rt d w1 := by simp only [sSeq, hh, Out.seq]
end
/-- frame and bars of the law: few -/
structure Fb (n : Nat) (ls : List IS) (bs : List Bar) : Prop where
  h1 : 1 ≤ n
  h5 : n ≤ 3
  fr : isFrame n ls
  bars : areBars 96 n bs
  bl : bs.length ≤ 12
theorem Fb.pow {n : Nat} {ls : List IS} {bs : List Bar} (h : Fb n ls bs) : 13 ^ n ≤ 4096 := by
  have a := h.h1
  have b := h.h5
  have : n = 1 ∨ n = 2 ∨ n = 3 := by omega
  rcases this with rfl | rfl | rfl <;> decide
theorem endsL_len (n : Nat) (bs : List Bar) : (endsL n bs).length = n := by
  unfold endsL
  simp
theorem Fb.few {n : Nat} {ls : List IS} {bs : List Bar} (h : Fb n ls bs) : Few (endsL n bs) 13 := by
  have bl := h.bl
  refine ⟨by omega, fun o ho => ?_, ?_, ?_⟩
  · unfold endsL at ho
    obtain ⟨j, hj, rfl⟩ := List.mem_map.mp ho
    have := (ends_mem h.bars.1 h.bars.2.1 (List.mem_range.mp hj)).2.2
    omega
  · rw [endsL_len]
    have := h.pow
    omega
  · rw [endsL_len]
    have := h.h5
    omega
theorem Fr.mono {B C : Nat} (h : B ≤ C) {q : PF.Fr} (hq : isNum B q) : isNum C q := ⟨hq.1, hq.2.1, Nat.lt_of_lt_of_le hq.2.2.1 (Nat.pow_le_pow_right (by decide) h), Nat.lt_of_lt_of_le hq.2.2.2 (Nat.pow_le_pow_right (by decide) h)⟩
theorem bars_mono {n : Nat} {bs : List Bar} (h : areBars 90 n bs) : areBars 96 n bs := ⟨fun b hb => ⟨(h.1 b hb).1, ⟨(h.1 b hb).2.1.1, fun l hl q hq => Fr.mono (by decide) ((h.1 b hb).2.1.2 l hl q hq)⟩, (h.1 b hb).2.2⟩, h.2⟩
section
variable {w : Wl}
/-! ### the law's cells and the program's are as one set -/
end
end CL

/-! in_order: ascending, too. -/
namespace CL
open PySem PySem.Spec L2 DL PF LW
open PyProof.Rows hiding St
def ltQ (q r : Fr) : Prop := q.1 * r.2 < r.1 * q.2
theorem key_lt {q r : Fr} {m : Nat} (hq : 0 < q.2) (hr : 0 < r.2) (bq : q.2 < 2 ^ m) (br : r.2 < 2 ^ m) (h : ltQ q r) : q.1 * 2 ^ (2 * m) / q.2 < r.1 * 2 ^ (2 * m) / r.2 := by
  have hp : q.2 * r.2 < 2 ^ (2 * m) := by
    have e : (2 : Int) ^ (2 * m) = 2 ^ m * 2 ^ m := by rw [Nat.two_mul, Int.pow_add]
    rw [e]
    calc q.2 * r.2 < q.2 * 2 ^ m := Int.mul_lt_mul_of_pos_left br hq
      _ ≤ 2 ^ m * 2 ^ m := Int.mul_le_mul_of_nonneg_right (Int.le_of_lt bq) (by omega)
  generalize hM : (2 : Int) ^ (2 * m) = M at *
  have h1 : q.1 * r.2 + 1 ≤ r.1 * q.2 := h
  have hM0 : 0 < M := Int.lt_trans (Int.mul_pos hq hr) hp
  -- a = the floor of q * M
  have a1 : q.1 * M / q.2 * q.2 ≤ q.1 * M := Int.ediv_mul_le _ (by omega)
  have key : (q.1 * M / q.2 + 1) * r.2 ≤ r.1 * M := by
    have h2 : (q.1 * r.2 + 1) * M ≤ r.1 * q.2 * M := Int.mul_le_mul_of_nonneg_right h1 (by omega)
    have h3 : q.1 * M / q.2 * q.2 * r.2 ≤ q.1 * M * r.2 := Int.mul_le_mul_of_nonneg_right a1 (by omega)
    have h4 : ((q.1 * M / q.2 + 1) * r.2) * q.2 ≤ (r.1 * M) * q.2 := by
      have e1 : ((q.1 * M / q.2 + 1) * r.2) * q.2 = q.1 * M / q.2 * q.2 * r.2 + q.2 * r.2 := by
        generalize q.1 * M / q.2 = a
        rw [Int.add_mul, Int.add_mul, Int.one_mul, Int.mul_right_comm a r.2 q.2, Int.mul_comm r.2 q.2]
      have e2 : (r.1 * M) * q.2 = r.1 * q.2 * M := Int.mul_right_comm _ _ _
      have e3 : (q.1 * r.2 + 1) * M = q.1 * M * r.2 + M := by rw [Int.add_mul, Int.one_mul, Int.mul_right_comm]
      rw [e1, e2]
      rw [e3] at h2
      omega
    exact Int.le_of_mul_le_mul_right h4 hq
  have := (Int.le_ediv_iff_mul_le hr).mpr key
  omega
theorem fr_le {q r : Fr} (hq : QF q) (hr : QF r) (h : ¬ ltQ q r) (h2 : ¬ ltQ r q) (h0 : 0 ≤ q.1) (h1 : 0 ≤ r.1) : q = r := by
  unfold ltQ at h h2
  have e : q.1 * r.2 = r.1 * q.2 := by omega
  obtain ⟨a, ha⟩ : ∃ a : Nat, q.1 = a := ⟨q.1.toNat, by omega⟩
  obtain ⟨b, hb⟩ : ∃ b : Nat, q.2 = b := ⟨q.2.toNat, by have := hq.1; omega⟩
  obtain ⟨c, hc⟩ : ∃ c : Nat, r.1 = c := ⟨r.1.toNat, by omega⟩
  obtain ⟨d, hd⟩ : ∃ d : Nat, r.2 = d := ⟨r.2.toNat, by have := hr.1; omega⟩
  rw [ha, hb, hc, hd] at e
  have e' : a * d = c * b := by exact_mod_cast e
  have gq := hq.2
  have gr := hr.2
  rw [ha, hb] at gq
  rw [hc, hd] at gr
  simp only [Int.natAbs_natCast] at gq gr
  have b0 : 0 < b := by have := hq.1; omega
  have d0 : 0 < d := by have := hr.1; omega
  have bd : b ∣ d := Nat.Coprime.dvd_of_dvd_mul_left (Nat.Coprime.symm gq) (by rw [e']; exact Nat.dvd_mul_left b c)
  have db : d ∣ b := Nat.Coprime.dvd_of_dvd_mul_left (Nat.Coprime.symm gr) (by rw [← e']; exact Nat.dvd_mul_left d a)
  have hbd : b = d := Nat.dvd_antisymm bd db
  subst hbd
  have hac : a = c := Nat.eq_of_mul_eq_mul_right b0 e'
  refine Prod.ext ?_ ?_
  · rw [ha, hc, hac]
  · rw [hb, hd]
/-! the first ones have unlike keys -/
theorem firstI_nodup {α : Type} : ∀ (xs acc : List (List Int × α)), (acc.map (·.1)).Nodup → ((firstI acc xs).map (·.1)).Nodup
  | [], acc, h => h
  | x :: xs, acc, h => by
    rw [firstI]
    refine firstI_nodup xs _ ?_
    split
    · exact h
    · rename_i hn
      rw [List.map_append, List.nodup_append]
      refine ⟨h, by simp, ?_⟩
      intro k hk y hy
      simp only [List.map_cons, List.map_nil, List.mem_singleton] at hy
      subst hy
      intro e
      obtain ⟨z, hz, ez⟩ := List.mem_map.mp hk
      exact hn (hasI_iff.mpr ⟨z, hz, ez.trans e⟩)
theorem ufst_nodup (es : List E) : ((ufst es).map E.fr).Nodup := by
  have h := firstI_nodup (es.map fun e => (keyE e, e)) [] (by simp)
  have hk : ∀ x ∈ firstI [] (es.map fun e => (keyE e, e)), x.1 = keyE x.2 := fun x hx => by
    have := (firstI_sub _ _ x hx).resolve_left List.not_mem_nil
    obtain ⟨e, _, rfl⟩ := List.mem_map.mp this
    rfl
  unfold ufst
  generalize firstI [] (es.map fun e => (keyE e, e)) = ys at h hk
  rw [List.map_map]
  unfold List.Nodup at h ⊢
  rw [List.pairwise_map] at h ⊢
  refine h.imp_of_mem fun {a b} ha hb hne => ?_
  intro e
  apply hne
  rw [hk a ha, hk b hb]
  show keyE a.2 = keyE b.2
  have e : a.2.fr = b.2.fr := e
  unfold keyE
  rw [e]
/-! in_order is ascending -/
theorem sortKd_map {α : Type} (enc : α → D) (k : α → Int) (us : List α) : ∃ os : List α, List.Perm os us ∧ os.Pairwise (fun a b => k a ≤ k b) ∧ sortKd (us.map enc) (us.map k) = os.map enc := by
  have hz : (us.map enc).zip (us.map k) = us.map fun u => (enc u, k u) := by
    induction us with
    | nil => rfl
    | cons u us ih => rw [List.map_cons, List.map_cons, List.zip_cons_cons, ih, List.map_cons]
  have hp := List.mergeSort_perm ((us.map enc).zip (us.map k)) (PySem.W.dataLe false keyP)
  have ht : PySem.W.TotalLe (PySem.W.dataLe (β := D × Int) false keyP) := PySem.W.sortLe_total _ _ _
  have hs := PySem.W.sort_pairwise ht ((us.map enc).zip (us.map k))
  obtain ⟨os, h1, h2⟩ := perm_inv hp hz
  refine ⟨os, h1, ?_, ?_⟩
  · rw [h2, List.pairwise_map] at hs
    refine hs.imp fun {a b} h => ?_
    have hk : PySem.W.dataLe false keyP = fun a b : D × Int => decide (a.2 ≤ b.2) := PySem.W.dataLe_int fun p : D × Int => p.2
    rw [hk] at h
    exact of_decide_eq_true h
  · unfold sortKd
    rw [h2, List.map_map]
    rfl
theorem in_order_srt {es : List E} (hl : es.length ≤ 1000) (hn : ∀ e ∈ es, isNum 96 e.fr) : ∃ os : List E, os.Perm (ufst es) ∧ os.Pairwise (fun a b => ltQ a.fr b.fr) ∧ ∀ w, G_in_order [.lst (es.map encE)] w = .ok (.lst (os.map encE)) w := by
  have hul := ufst_len es
  have hun : ∀ e ∈ ufst es, isNum 96 e.fr := fun e he => hn e (ufst_sub he)
  have hb : ∀ x ∈ (ufst es).map fun e => (Builtin.Int.intBits e.fr.2 : Int), 0 ≤ x ∧ x ≤ 96 := fun x hx => by
    obtain ⟨e, he, rfl⟩ := List.mem_map.mp hx
    have : Builtin.Int.intBits e.fr.2 ≤ 96 := PySem.intBits_le_iff.mpr (hun e he).2.2.2
    omega
  obtain ⟨m0, m1⟩ := maxK_bd hb (by omega)
  obtain ⟨m, hm⟩ : ∃ m : Nat, maxK 0 ((ufst es).map fun e => (Builtin.Int.intBits e.fr.2 : Int)) = m := ⟨_, (Int.toNat_of_nonneg m0).symm⟩
  rw [hm] at m1
  have hm96 : m ≤ 96 := by omega
  obtain ⟨os, hp, hsrt, ho⟩ := sortKd_map encE (fun e : E => e.fr.1 * 2 ^ (2 * m) / e.fr.2) (ufst es)
  have hbits : ∀ e ∈ ufst es, Builtin.Int.intBits e.fr.2 ≤ m := fun e he => by
    have h1 : ∀ (ns : List Int) (a : Int), (∀ x ∈ ns, x ≤ ns.foldl max a) := fun ns => by
      induction ns with
      | nil => intro a x hx; cases hx
      | cons n ns ih =>
        intro a x hx
        rw [List.foldl_cons]
        rcases List.mem_cons.mp hx with rfl | hx
        · exact Int.le_trans (Int.le_max_right a x) (foldl_max_ge ns _)
        · exact ih _ x hx
    have h2 : ∀ x ∈ (ufst es).map fun e => (Builtin.Int.intBits e.fr.2 : Int), x ≤ maxK 0 ((ufst es).map fun e => (Builtin.Int.intBits e.fr.2 : Int)) := by
      generalize (ufst es).map (fun e => (Builtin.Int.intBits e.fr.2 : Int)) = ns
      intro x hx
      cases ns with
      | nil => cases hx
      | cons n ns =>
        show x ≤ ns.foldl max n
        rcases List.mem_cons.mp hx with rfl | hx
        · exact foldl_max_ge ns _
        · exact h1 ns n x hx
    have := h2 _ (List.mem_map.mpr ⟨e, he, rfl⟩)
    rw [hm] at this
    omega
  have hasc : os.Pairwise fun a b => ltQ a.fr b.fr := by
    have hnd : (os.map E.fr).Nodup := (hp.map E.fr).nodup_iff.mpr (ufst_nodup es)
    unfold List.Nodup at hnd
    rw [List.pairwise_map] at hnd
    refine (hsrt.and hnd).imp_of_mem fun {a b} ha hb h => ?_
    obtain ⟨h1, h2⟩ := h
    have na := hun a (hp.mem_iff.mp ha)
    have nb := hun b (hp.mem_iff.mp hb)
    have up : ∀ e ∈ ufst es, e.fr.2 < 2 ^ m := fun e he => by
      have h3 := PySem.intBits_le_iff.mp (hbits e he)
      have h4 := (hun e he).1.1
      have h5 : ((e.fr.2.natAbs : Nat) : Int) < ((2 ^ m : Nat) : Int) := by exact_mod_cast h3
      rw [Int.natAbs_of_nonneg (by omega)] at h5
      rw [Int.natCast_pow] at h5
      exact h5
    by_cases c1 : ltQ a.fr b.fr
    · exact c1
    · by_cases c2 : ltQ b.fr a.fr
      · have := key_lt nb.1.1 na.1.1 (up b (hp.mem_iff.mp hb)) (up a (hp.mem_iff.mp ha)) c2
        omega
      · exact absurd (fr_le na.1 nb.1 c1 c2 na.2.1.1 nb.2.1.1) h2
  refine ⟨os, hp, hasc, fun w => ?_⟩
  have e1 : eLK (eVar 0) [.dat (.lst (es.map encE)), .non, .non, .non, .non, .non] w = .ok (.lst ((ufst es).map encE)) w := eLK_ev rfl hl
  have e2 : (eLc (gSeq (eVar 1)) (bTupN 2 (bCons (bName 4) (bCons (bName 5) bNil))) eYes (eUn oBits (eVar 5)) [4, 5]) [.dat (.lst (es.map encE)), .dat (.lst ((ufst es).map encE)), .non, .non, .non, .non] w = .ok (.lst (((ufst es).map fun e => (Builtin.Int.intBits e.fr.2 : Int)).map .int)) w := by
    rw [List.map_map]
    refine eLcY_ev encE (fun e => .int (Builtin.Int.intBits e.fr.2 : Int)) (ufst es) rfl (szL (by omega)) fun e _ => ⟨[.dat (.lst (es.map encE)), .dat (.lst ((ufst es).map encE)), .non, .non, .dat (.int e.fr.1), .dat (.int e.fr.2)], by cases e <;> rfl, rfl⟩
  have e3 : (eMaxK (eLc (gSeq (eVar 1)) (bTupN 2 (bCons (bName 4) (bCons (bName 5) bNil))) eYes (eUn oBits (eVar 5)) [4, 5]) (eC (.int 0))) [.dat (.lst (es.map encE)), .dat (.lst ((ufst es).map encE)), .non, .non, .non, .non] w = .ok (.int m) w := by
    unfold eMaxK
    rw [e2]
    show oMaxK (.lst (((ufst es).map fun e => (Builtin.Int.intBits e.fr.2 : Int)).map .int)) (.int 0) w = _
    unfold oMaxK
    simp only [allInts_map, hm]
  have e4 : (eBin oMul (eC (.int 2)) (eMaxK (eLc (gSeq (eVar 1)) (bTupN 2 (bCons (bName 4) (bCons (bName 5) bNil))) eYes (eUn oBits (eVar 5)) [4, 5]) (eC (.int 0)))) [.dat (.lst (es.map encE)), .dat (.lst ((ufst es).map encE)), .non, .non, .non, .non] w = .ok (.int ((2 * m : Nat) : Int)) w := by
    refine (mul_ev (B := 2) (C := 96) (w1 := w) (w2 := w) (i := 2) (j := m) rfl e3 (by decide) ?_ (by omega)).trans (by rw [Int.natCast_mul]; rfl)
    rw [Int.natAbs_natCast]
    exact Nat.lt_of_le_of_lt hm96 (by decide)
  have e5 : eSortL 2 (eVar 1) (eBin oFdiv (eBin oShlW (eBin oIx (eVar 2) (eC (.int 0))) (eVar 3)) (eBin oIx (eVar 2) (eC (.int 1)))) [.dat (.lst (es.map encE)), .dat (.lst ((ufst es).map encE)), .non, .dat (.int ((2 * m : Nat) : Int)), .non, .non] w = .ok (.lst (os.map encE)) w := by
    unfold eSortL
    show (match keysG _ w ((ufst es).map encE) with
      | some ks => if ((ufst es).map encE).length ≤ sizeLine then Res.ok (.lst (sortKd ((ufst es).map encE) ks)) w else .bad
      | none => .bad) = _
    rw [keysG_map (k := fun e => e.fr.1 * 2 ^ (2 * m) / e.fr.2) fun e he => ?_]
    · rw [List.length_map]
      show (if (ufst es).length ≤ sizeLine then Res.ok (.lst (sortKd ((ufst es).map encE) _)) w else .bad) = _
      rw [if_pos (szL (by omega)), ho]
    · have hq := hun e he
      have i0 : (eBin oIx (eVar 2) (eC (.int 0))) [.dat (.lst (es.map encE)), .dat (.lst ((ufst es).map encE)), .dat (encE e), .dat (.int ((2 * m : Nat) : Int)), .non, .non] w = .ok (.int e.fr.1) w := by cases e <;> rfl
      have i1 : (eBin oIx (eVar 2) (eC (.int 1))) [.dat (.lst (es.map encE)), .dat (.lst ((ufst es).map encE)), .dat (encE e), .dat (.int ((2 * m : Nat) : Int)), .non, .non] w = .ok (.int e.fr.2) w := by cases e <;> rfl
      have i2 : (eBin oShlW (eBin oIx (eVar 2) (eC (.int 0))) (eVar 3)) [.dat (.lst (es.map encE)), .dat (.lst ((ufst es).map encE)), .dat (encE e), .dat (.int ((2 * m : Nat) : Int)), .non, .non] w = .ok (.int (e.fr.1 * 2 ^ (2 * m))) w := by
        refine (bin_ev (w1 := w) (d := .int e.fr.1) (e := .int ((2 * m : Nat) : Int)) i0 rfl).trans ?_
        show (if decide (CShl e.fr.1 ((2 * m : Nat) : Int)) then Res.ok (.int (e.fr.1 * 2 ^ ((2 * m : Nat) : Int).toNat)) w else .bad) = _
        rw [decide_eq_true (shl_ok hq.2.2.1 (by omega)), Int.toNat_natCast]
        rfl
      exact fdiv_ev i2 i1 hq.1.1 hq.2.2.2 (by omega)
  exact run_rt ((set_seq (w1 := w) e1).trans ((set_seq (w1 := w) e4).trans (ret_ev e5)))
theorem encE_inj {a b : E} (h : encE a = encE b) : a = b := by
  cases a with
  | li q =>
    cases b with
    | li r =>
      injection h with h
      injection h with h1 h2
      injection h1 with h1
      injection h2 with h2 _
      injection h2 with h2
      rw [Prod.ext h1 h2]
    | one => cases h
  | one =>
    cases b with
    | li r => cases h
    | one => rfl
theorem encEs_inj : ∀ {as bs : List E}, as.map encE = bs.map encE → as = bs
  | [], [], _ => rfl
  | [], _ :: _, h => by cases h
  | _ :: _, [], h => by cases h
  | a :: as, b :: bs, h => by
    rw [List.map_cons, List.map_cons] at h
    injection h with h1 h2
    rw [encE_inj h1, encEs_inj h2]
theorem ordE_srt {es : List E} (hl : es.length ≤ 1000) (hn : ∀ e ∈ es, isNum 96 e.fr) : (ordE es).Pairwise fun a b => ltQ a.fr b.fr := by
  obtain ⟨os, _, h2, h3⟩ := in_order_srt hl hn
  have e := (ordE_ok hl hn).2 []
  rw [h3 []] at e
  injection e with e _
  injection e with e
  rw [← encEs_inj e]
  exact h2
theorem ordE_mem {es : List E} (hl : es.length ≤ 1000) (hn : ∀ e ∈ es, isNum 96 e.fr) : (∀ o ∈ ordE es, o ∈ es) ∧ ∀ e ∈ es, ∃ o ∈ ordE es, o.fr = e.fr := by
  have hp := (ordE_ok hl hn).1
  refine ⟨fun o ho => ufst_sub (hp.mem_iff.mp ho), fun e he => ?_⟩
  obtain ⟨o, ho, h⟩ := ufst_has he
  exact ⟨o, hp.mem_iff.mpr ho, h⟩
/-! ### unlike limits below 1 -/
/-- the limits at j that are not 1 -/
def lowsAt (cs : List Cor) (j : Nat) : List Fr := (cs.map fun c => c.getD j none).filterMap fun l => match l with
  | some q => if q = (1, 1) then none else some q
  | none => none
noncomputable def ordU (cs : List Cor) (j : Nat) : List E := ordE ((lowsAt cs j).map .li)
def isLow (l : Lim) : Bool := match l with
  | some q => !decide (q = (1, 1))
  | none => false
theorem lows_gen (ls : List Lim) : (ls.filter isLow).map encL = ((ls.filterMap fun l => match l with
  | some q => if q = (1, 1) then none else some q
  | none => none).map E.li).map encE := by
  induction ls with
  | nil => rfl
  | cons l ls ih =>
    cases l with
    | none => simpa [isLow] using ih
    | some q =>
      by_cases h : q = (1, 1)
      · simpa [isLow, h] using ih
      · simp only [List.filter_cons, isLow, h, decide_false, Bool.not_false, if_true, List.map_cons, List.filterMap_cons, if_false]
        rw [ih]
        rfl
theorem ne_one (q : Fr) (w : Wl) : oNe (encQ q) (.con (([1, 1] : List Int).map .int)) w = .ok (.bl (!decide (q = (1, 1)))) w := by
  have := oNe_ev (w := w) eqs_fr q (1, 1) (shp_fr _) (shp_fr _)
  rw [← this]
  rfl
end CL

/-! unlike_limits, ranked. -/
namespace CL
open PySem PySem.Spec L2 DL PF LW
open PyProof.Rows hiding St
theorem lowsAt_num {n : Nat} {cs : List Cor} (hc : ∀ c ∈ cs, isCor 96 n c) {j : Nat} (hj : j < n) : ∀ e ∈ (lowsAt cs j).map E.li, isNum 96 e.fr := fun e he => by
  obtain ⟨q, hq, rfl⟩ := List.mem_map.mp he
  unfold lowsAt at hq
  obtain ⟨l, hl, e⟩ := List.mem_filterMap.mp hq
  obtain ⟨c, hm, rfl⟩ := List.mem_map.mp hl
  cases hz : c.getD j none with
  | none => rw [hz] at e; cases e
  | some r =>
    rw [hz] at e
    have hr := (hc c hm).2 _ (List.mem_of_getElem? (getD_some none (by rw [(hc c hm).1]; exact hj))) r hz
    dsimp only at e
    split at e
    · cases e
    · cases e
      exact hr
theorem lowsAt_len (cs : List Cor) (j : Nat) : ((lowsAt cs j).map E.li).length ≤ cs.length := by
  rw [List.length_map]
  unfold lowsAt
  have := List.length_filterMap_le (fun l : Lim => match l with
    | some q => if q = (1, 1) then none else some q
    | none => none) (cs.map fun c => c.getD j none)
  rw [List.length_map] at this
  exact this
/-! ### ranked -/
/-- the place of a limit in a row; behind all of them for none -/
def rankL (row : List Fr) : Lim → Nat
  | none => row.length
  | some q => row.idxOf q
def keyQ (q : Fr) : List Int := [q.1, q.2]
def kvsF : Nat → List Fr → Kvs
  | _, [] => []
  | i, q :: r => (keyQ q, .int (i : Nat)) :: kvsF (i + 1) r
theorem keyQ_inj {q r : Fr} (h : keyQ q = keyQ r) : q = r := by
  unfold keyQ at h
  injection h with h1 h2
  injection h2 with h2 _
  exact Prod.ext h1 h2
theorem kvsF_get (q : Fr) : ∀ (row : List Fr) (i : Nat), (getK (kvsF i row) (keyQ q)).getD (.int ((i + row.length : Nat) : Int)) = .int ((i + row.idxOf q : Nat) : Int)
  | [], i => rfl
  | r :: row, i => by
    rw [kvsF]
    by_cases h : r = q
    · subst h
      rw [getK_pos rfl]
      simp
    · rw [getK_neg (fun e => h (keyQ_inj e))]
      have := kvsF_get q row (i + 1)
      rw [List.length_cons, show i + (row.length + 1) = i + 1 + row.length by omega, this, List.idxOf_cons]
      have hb : (r == q) = false := beq_eq_false_iff_ne.mpr h
      rw [hb]
      simp
      omega
theorem kvsF_zip : ∀ (row : List Fr) (i : Nat), ((kvsF i row).map (·.1)).zip ((kvsF i row).map (·.2)) = kvsF i row
  | [], i => rfl
  | q :: row, i => by
    rw [kvsF, List.map_cons, List.map_cons, List.zip_cons_cons, kvsF_zip row (i + 1)]
theorem kvsF_len : ∀ (row : List Fr) (i : Nat), (kvsF i row).length = row.length
  | [], i => rfl
  | q :: row, i => by rw [kvsF, List.length_cons, kvsF_len row, List.length_cons]
theorem kvsF_any (q : Fr) : ∀ (row : List Fr) (i : Nat), q ∉ row → ((kvsF i row).any fun kv => decide (kv.1 = keyQ q)) = false
  | [], i, _ => rfl
  | r :: row, i, h => by
    rw [kvsF, List.any_cons, kvsF_any q row (i + 1) fun z => h (List.mem_cons_of_mem _ z), Bool.or_false]
    exact decide_eq_false fun e => h (by rw [keyQ_inj e]; exact List.mem_cons_self)
theorem kvsF_app : ∀ (a b : List Fr) (i : Nat), kvsF i (a ++ b) = kvsF i a ++ kvsF (i + a.length) b
  | [], b, i => by simp [kvsF]
  | q :: a, b, i => by
    rw [List.cons_append, kvsF, kvsF_app a b (i + 1), kvsF, List.cons_append, List.length_cons]
    congr 3
    omega
def encD (row : List Fr) : D := .dct ((kvsF 0 row).map (·.1)) ((kvsF 0 row).map (·.2))
section
variable {w : Wl}
theorem dctLoop (d0 d1 : D) (s2 s5 s6 s7 : Sl) : ∀ (rest done : List Fr), (done ++ rest).Nodup →
    dcG (bTupN 2 (bCons (bName 3) (bCons (bName 4) bNil))) eYes (eVar 4) (eVar 3) [.dat d0, .dat d1, s2, .non, .non, s5, s6, s7] (pairsFrom encQ done.length rest) (kvsF 0 done) w = some (kvsF 0 (done ++ rest), w)
  | [], done, _ => by
    rw [List.append_nil]
    rfl
  | q :: rest, done, h => by
    have hq : q ∉ done := fun z => by
      rw [List.nodup_append] at h
      exact h.2.2 q z q List.mem_cons_self rfl
    have ih := dctLoop d0 d1 s2 s5 s6 s7 rest (done ++ [q]) (by rw [List.append_assoc]; exact h)
    have eb : (bTupN 2 (bCons (bName 3) (bCons (bName 4) bNil))) (D.tup [.int (done.length : Nat), encQ q]) [.dat d0, .dat d1, s2, .non, .non, s5, s6, s7] = some [.dat d0, .dat d1, s2, .dat (.int (done.length : Nat)), .dat (encQ q), s5, s6, s7] := rfl
    have ey : eYes [.dat d0, .dat d1, s2, .dat (.int (done.length : Nat)), .dat (encQ q), s5, s6, s7] w = .ok (.bl true) w := rfl
    have ek : eVar 4 [.dat d0, .dat d1, s2, .dat (.int (done.length : Nat)), .dat (encQ q), s5, s6, s7] w = .ok (encQ q) w := rfl
    have ev : eVar 3 [.dat d0, .dat d1, s2, .dat (.int (done.length : Nat)), .dat (encQ q), s5, s6, s7] w = .ok (.int (done.length : Nat)) w := rfl
    have hp : putD (kvsF 0 done) (keyQ q) (.int (done.length : Nat)) = kvsF 0 (done ++ [q]) := by
      unfold putD
      rw [kvsF_any q done 0 hq]
      rw [kvsF_app]
      simp [kvsF]
    have hk : keyOf (encQ q) = some (keyQ q) := rfl
    rw [pairsFrom]
    simp only [dcG, eb, ey, ek, ev, hk, hp]
    rw [List.length_append, List.length_singleton] at ih
    rw [ih, List.append_assoc]
    rfl
end
def encRow (row : List Fr) : D := .lst (row.map encQ)
def rankC (rows : List (List Fr)) (c : Cor) : List Nat := (c.zip rows).map fun x => rankL x.2 x.1
theorem rank_get (row : List Fr) (l : Lim) (en : List Sl) (w : Wl) (h4 : en[4]? = some (.dat (encL l))) (h6 : en[6]? = some (.dat (encD row))) : eDGetN (eVar 6) (eVar 4) (eCall oLenD (aCons (eVar 6) aNil)) en w = .ok (.int (rankL row l : Nat)) w := by
  have e6 : eVar 6 en w = .ok (encD row) w := by unfold eVar; simp only [h6]
  have e4 : eVar 4 en w = .ok (encL l) w := by unfold eVar; simp only [h4]
  have el : eCall oLenD (aCons (eVar 6) aNil) en w = .ok (.int (row.length : Nat)) w := by
    refine (call_ev (one_ev e6)).trans ?_
    show Res.ok (.int (((kvsF 0 row).map (·.1)).length : Nat)) w = _
    rw [List.length_map, kvsF_len]
  unfold eDGetN
  simp only [e6, Res.bind, encD, e4, el]
  cases l with
  | none => rfl
  | some q =>
    show (match allInts [.int q.1, .int q.2] with
      | some k => Res.ok ((getK (List.zip (List.map (fun p : List Int × D => p.1) (kvsF 0 row)) (List.map (fun p : List Int × D => p.2) (kvsF 0 row))) k).getD (.int (row.length : Nat))) w
      | none => .bad) = _
    rw [kvsF_zip]
    have := kvsF_get q row 0
    rw [Nat.zero_add, Nat.zero_add] at this
    show Res.ok ((getK (kvsF 0 row) (keyQ q)).getD (.int (row.length : Nat))) w = _
    rw [this]
    rfl
end CL

/-! needed. -/
namespace CL
open PySem PySem.Spec L2 DL PF LW
open PyProof.Rows hiding St
def underB (a b : IS) : Bool := (a.zip b).all fun x => decide (x.1 ≤ x.2)
section
variable {w : Wl}
theorem under_ev (a b : IS) (hl : a.length ≤ 1000) : G_is_under [encI a, encI b] w = .ok (.bl (underB a b)) w := by
  refine run_rt (ret_ev ?_)
  refine all_ev (fun x : Int × Int => .tup [.int x.1, .int x.2]) (fun x => decide (x.1 ≤ x.2)) (a.zip b) ?_ (by rw [List.length_zip]; exact szL (Nat.le_trans (Nat.min_le_left _ _) hl)) fun x _ => ⟨[.dat (encI a), .dat (encI b), .dat (.int x.1), .dat (.int x.2)], rfl, le_ev (w1 := w) (w2 := w) rfl rfl⟩
  show AR.ok (pairsZ (a.map .int) (b.map .int)) w = _
  rw [zip_map2]
end
/-! each row is under a needed one -/
theorem under_cons {x y : Int} {a b : IS} : underB (x :: a) (y :: b) = true ↔ x ≤ y ∧ underB a b = true := by
  unfold underB
  rw [List.zip_cons_cons, List.all_cons, Bool.and_eq_true, decide_eq_true_eq]
/-! ### ranks tell limits -/
theorem idx_le {row : List Fr} (h : row.Pairwise ltQ) {q r : Fr} (hr : r ∈ row) (hq : q ∈ row) (hi : row.idxOf q ≤ row.idxOf r) : leQ q r := by
  rw [List.pairwise_iff_getElem] at h
  have iq := List.idxOf_lt_length_of_mem hq
  have ir := List.idxOf_lt_length_of_mem hr
  have eq1 : row[row.idxOf q] = q := List.getElem_idxOf iq
  have er : row[row.idxOf r] = r := List.getElem_idxOf ir
  rcases Nat.lt_or_ge (row.idxOf q) (row.idxOf r) with z | z
  · have := h _ _ iq ir z
    rw [eq1, er] at this
    exact Int.le_of_lt this
  · have e : row.idxOf q = row.idxOf r := by omega
    have : q = r := by
      rw [← eq1, ← er]
      simp only [e]
    rw [this]
    exact Int.le_refl _
end CL

/-! ranks and corners: what is within a corner is within one that it is under. -/
namespace CL
open PySem PySem.Spec L2 DL PF LW
open PyProof.Rows hiding St
theorem leQ_trans {p q r : Fr} (hp : 0 < p.2) (hq : 0 < q.2) (hr : 0 < r.2) (h1 : leQ p q) (h2 : leQ q r) : leQ p r := by
  unfold leQ at *
  have a : p.1 * q.2 * r.2 ≤ q.1 * p.2 * r.2 := Int.mul_le_mul_of_nonneg_right h1 (by omega)
  have b : q.1 * r.2 * p.2 ≤ r.1 * q.2 * p.2 := Int.mul_le_mul_of_nonneg_right h2 (by omega)
  have c : (p.1 * r.2) * q.2 ≤ (r.1 * p.2) * q.2 := by
    have e1 : (p.1 * r.2) * q.2 = p.1 * q.2 * r.2 := Int.mul_right_comm _ _ _
    have e2 : q.1 * p.2 * r.2 = q.1 * r.2 * p.2 := Int.mul_right_comm _ _ _
    have e3 : (r.1 * p.2) * q.2 = r.1 * q.2 * p.2 := Int.mul_right_comm _ _ _
    omega
  exact Int.le_of_mul_le_mul_right c hq
theorem leQ_one {B : Nat} {p : Fr} (h : isNum B p) : leQ p (1, 1) := by
  unfold leQ
  have := h.2.1.2
  show p.1 * 1 ≤ 1 * p.2
  omega
/-- a row of limits below 1, ascending -/
structure Row (row : List Fr) : Prop where
  asc : row.Pairwise ltQ
  pos : ∀ q ∈ row, 0 < q.2
theorem in_rank {B : Nat} {row : List Fr} (R : Row row) {p : Fr} (hp : isNum B p) {l m : Lim} (hm : ∀ r, m = some r → r = (1, 1) ∨ r ∈ row) (h : rankL row l ≤ rankL row m) (hl : inL p l = true) : inL p m = true := by
  cases m with
  | none => rfl
  | some r =>
    rcases hm r rfl with z | z
    · rw [z]
      exact decide_eq_true (leQ_one hp)
    · have ir : row.idxOf r < row.length := List.idxOf_lt_length_of_mem z
      cases l with
      | none =>
        have h : row.length ≤ row.idxOf r := h
        omega
      | some q =>
        have h : row.idxOf q ≤ row.idxOf r := h
        have hq : q ∈ row := by
          by_cases c : q ∈ row
          · exact c
          · rw [List.idxOf_eq_length c] at h
            omega
        have h1 : leQ p q := of_decide_eq_true hl
        exact decide_eq_true (leQ_trans hp.1.1 (R.pos q hq) (R.pos r z) h1 (idx_le R.asc z hq h))
theorem within_rank {B : Nat} : ∀ {rows : List (List Fr)} {p : List Fr} {c d : Cor}, (∀ row ∈ rows, Row row) → (∀ q ∈ p, isNum B q) → c.length = rows.length → d.length = rows.length → p.length = rows.length →
    (∀ (j : Nat) (row : List Fr) (r : Fr), rows[j]? = some row → d[j]? = some (some r) → r = (1, 1) ∨ r ∈ row) → underB ((rankC rows c).map fun m : Nat => (m : Int)) ((rankC rows d).map fun m : Nat => (m : Int)) = true → isWithin p c = true → isWithin p d = true
  | [], [], [], [], _, _, _, _, _, _, _, _ => rfl
  | row :: rows, q :: p, l :: c, m :: d, hR, hp, h1, h2, h3, hd, hu, hw => by
    unfold isWithin at hw ⊢
    unfold rankC at hu
    simp only [List.zip_cons_cons, List.map_cons] at hu
    rw [under_cons] at hu
    rw [List.zip_cons_cons, List.all_cons, Bool.and_eq_true] at hw ⊢
    have hk : rankL row l ≤ rankL row m := by have := hu.1; omega
    refine ⟨in_rank (l := l) (m := m) (hR row List.mem_cons_self) (hp q List.mem_cons_self) (fun r hr => hd 0 row r rfl (by subst hr; rfl)) hk hw.1, ?_⟩
    exact within_rank (rows := rows) (fun x hx => hR x (List.mem_cons_of_mem _ hx)) (fun x hx => hp x (List.mem_cons_of_mem _ hx)) (Nat.succ.inj h1) (Nat.succ.inj h2) (Nat.succ.inj h3) (fun j x r hx hr => hd (j + 1) x r hx hr) hu.2 hw.2
  | [], _ :: _, _, _, _, _, _, _, h, _, _, _ => by cases h
  | [], [], _ :: _, _, _, _, h, _, _, _, _, _ => by cases h
  | [], [], [], _ :: _, _, _, _, h, _, _, _, _ => by cases h
  | _ :: _, [], _, _, _, _, _, _, h, _, _, _ => by cases h
  | _ :: _, _ :: _, [], _, _, _, h, _, _, _, _, _ => by cases h
  | _ :: _, _ :: _, _ :: _, [], _, _, _, h, _, _, _, _ => by cases h
/-! the rows of corners -/
noncomputable def rowsU (n : Nat) (cs : List Cor) : List (List Fr) := (List.range n).map fun j => (ordU cs j).map E.fr
theorem ordU_li {n : Nat} {cs : List Cor} (hc : ∀ c ∈ cs, isCor 96 n c) (hcl : cs.length ≤ 1000) {j : Nat} (hj : j < n) : ordU cs j = ((ordU cs j).map E.fr).map E.li := by
  have hm := (ordE_mem (Nat.le_trans (lowsAt_len cs j) hcl) (lowsAt_num hc hj)).1
  have : ∀ es : List E, (∀ e ∈ es, e ∈ (lowsAt cs j).map E.li) → es = (es.map E.fr).map E.li := fun es => by
    induction es with
    | nil => intro _; rfl
    | cons e es ih =>
      intro h
      obtain ⟨q, _, rfl⟩ := List.mem_map.mp (h e List.mem_cons_self)
      rw [List.map_cons, List.map_cons, ← ih fun x hx => h x (List.mem_cons_of_mem _ hx)]
      rfl
  exact this _ hm
theorem rowsU_row {n : Nat} {cs : List Cor} (hc : ∀ c ∈ cs, isCor 96 n c) (hcl : cs.length ≤ 1000) : ∀ row ∈ rowsU n cs, Row row ∧ row.Nodup ∧ row.length ≤ cs.length := fun row hr => by
  unfold rowsU at hr
  obtain ⟨j, hj, rfl⟩ := List.mem_map.mp hr
  have hjn := List.mem_range.mp hj
  have hl := Nat.le_trans (lowsAt_len cs j) hcl
  have hn := lowsAt_num hc hjn
  have hs := ordE_srt hl hn
  have hm := (ordE_mem hl hn).1
  have hpos : ∀ q ∈ (ordU cs j).map E.fr, 0 < q.2 := fun q hq => by
    obtain ⟨e, he, rfl⟩ := List.mem_map.mp hq
    exact (hn e (hm e he)).1.1
  refine ⟨⟨by rw [List.pairwise_map]; exact hs, hpos⟩, ?_, ?_⟩
  · unfold List.Nodup
    rw [List.pairwise_map]
    refine hs.imp fun {a b} h e => ?_
    rw [e] at h
    exact absurd h (Int.lt_irrefl _)
  · rw [List.length_map]
    have := (ordE_ok hl hn).1.length_eq
    have h2 := ufst_len ((lowsAt cs j).map E.li)
    have h3 := lowsAt_len cs j
    show (ordE ((lowsAt cs j).map E.li)).length ≤ _
    omega
theorem rowsU_has {n : Nat} {cs : List Cor} (hc : ∀ c ∈ cs, isCor 96 n c) (hcl : cs.length ≤ 1000) {c : Cor} (hm : c ∈ cs) (j : Nat) (row : List Fr) (r : Fr) (hr : (rowsU n cs)[j]? = some row) (hq : c[j]? = some (some r)) : r = (1, 1) ∨ r ∈ row := by
  by_cases h1 : r = (1, 1)
  · exact .inl h1
  · refine .inr ?_
    unfold rowsU at hr
    rw [List.getElem?_map] at hr
    cases hz : (List.range n)[j]? with
    | none => rw [hz] at hr; cases hr
    | some k =>
      rw [hz] at hr
      have hjn : j < (List.range n).length := (List.getElem?_eq_some_iff.mp hz).1
      have hk : k = j := by
        rw [List.getElem?_eq_getElem hjn, List.getElem_range] at hz
        exact (Option.some.inj hz).symm
      subst hk
      have hkn : k < n := by simpa using hjn
      cases hr
      have hin : E.li r ∈ (lowsAt cs k).map E.li := List.mem_map.mpr ⟨r, List.mem_filterMap.mpr ⟨some r, List.mem_map.mpr ⟨c, hm, by
        rw [List.getD_eq_getElem?_getD, hq]
        rfl⟩, by simp [h1]⟩, rfl⟩
      obtain ⟨o, ho, e⟩ := (ordE_mem (Nat.le_trans (lowsAt_len cs k) hcl) (lowsAt_num hc hkn)).2 _ hin
      exact List.mem_map.mpr ⟨o, ho, e⟩
end CL

/-! bars_of. -/
namespace CL
open PySem PySem.Spec L2 DL PF LW
open PyProof.Rows hiding St
/-- the rows of places, as the program has them -/
noncomputable def rowsI (n : Nat) (cs : List Cor) : List IS := cs.map fun c => (rankC (rowsU n cs) c).map fun m : Nat => (m : Int)
theorem rankC_len {n : Nat} {cs : List Cor} {c : Cor} (hc : c.length = n) : (rankC (rowsU n cs) c).length = n := by
  unfold rankC
  rw [List.length_map, List.length_zip, hc]
  unfold rowsU
  rw [List.length_map, List.length_range]
  omega
section
variable {w : Wl}
end
end CL

namespace K22
open PySem PySem.Spec L2 DL PF LW CL
open PyProof.Rows hiding St
def encLs (cs : List Cor) : D := .lst (cs.map encC)
theorem unlike_evL {w : Wl} {n : Nat} (h5 : n ≤ 5) {cs : List Cor} (hc : ∀ c ∈ cs, isCor 96 n c) (hcl : cs.length ≤ 1000) : G_unlike_limits [.int n, encLs cs] w = .ok (.lst ((List.range n).map fun j => encO (ordU cs j))) w := by
  have hr : gRng1 (aCons (eVar 0) aNil) [.dat (.int n), .dat (encLs cs), .non, .non] w = .ok ((List.range n).map fun j : Nat => D.int j) w := by
    have := rng_ev (g := aCons (eVar 0) aNil) (en := [.dat (.int n), .dat (encLs cs), .non, .non]) (w := w) (n := (n : Int)) rfl (small_nat (by omega))
    rw [Int.toNat_natCast] at this
    refine this.trans ?_
    unfold upto
    rw [List.map_map]
    rfl
  refine run_rt (ret_ev (eLcY_ev (fun j : Nat => D.int j) (fun j : Nat => encO (ordU cs j)) (List.range n) hr (by rw [List.length_range]; exact szL (by omega)) fun j hj => ⟨[.dat (.int n), .dat (encLs cs), .non, .dat (.int (j : Nat))], rfl, ?_⟩))
  have hjn : j < n := List.mem_range.mp hj
  have hl := lowsAt_len cs j
  refine (efn_ev (ds := [.lst (((lowsAt cs j).map E.li).map encE)]) (w1 := w) (one_ev ?_) rfl).trans ((ordE_ok (by omega) (lowsAt_num hc hjn)).2 w)
  have e : ((lowsAt cs j).map E.li).map encE = (cs.filter fun c => isLow (c.getD j none)).map fun c => encL (c.getD j none) := by
    unfold lowsAt
    rw [← lows_gen, List.filter_map, List.map_map]
    rfl
  rw [e]
  refine eLc_ev encC (fun c => isLow (c.getD j none)) (fun c => encL (c.getD j none)) cs rfl (szL hcl) fun c hm => ⟨[.dat (.int n), .dat (encLs cs), .dat (encC c), .dat (.int (j : Nat))], rfl, ?_, fun _ => ?_⟩
  · have ei : (eBin oIx (eVar 2) (eVar 3)) [.dat (.int n), .dat (encLs cs), .dat (encC c), .dat (.int (j : Nat))] w = .ok (encL (c.getD j none)) w := (bin_ev (w1 := w) (d := encC c) (e := .int j) rfl rfl).trans (LW.ix_tup encL (getD_some none (by rw [(hc c hm).1]; exact hjn)) w)
    cases hz : c.getD j none with
    | none =>
      rw [hz] at ei
      exact and_F (w1 := w) ((bin_ev ei rfl).trans rfl)
    | some q =>
      rw [hz] at ei
      exact (and_T (w1 := w) ((bin_ev ei rfl).trans rfl)).trans ((bin_ev ei rfl).trans (ne_one q w))
  · exact (bin_ev (w1 := w) (d := encC c) (e := .int j) rfl rfl).trans (LW.ix_tup encL (getD_some none (by rw [(hc c hm).1]; exact hjn)) w)
theorem unlike_rowsL {w : Wl} {n : Nat} (h5 : n ≤ 5) {cs : List Cor} (hc : ∀ c ∈ cs, isCor 96 n c) (hcl : cs.length ≤ 1000) : G_unlike_limits [.int n, encLs cs] w = .ok (.lst ((rowsU n cs).map encRow)) w := by
  rw [unlike_evL h5 hc hcl]
  congr 2
  unfold rowsU
  rw [List.map_map]
  refine List.map_congr_left fun j hj => ?_
  show encO (ordU cs j) = encRow ((ordU cs j).map E.fr)
  have e := ordU_li hc hcl (List.mem_range.mp hj)
  unfold encO encRow
  conv => lhs; rw [e]
  rw [List.map_map]
  rfl
theorem ranked_evL {w : Wl} {cs : List Cor} {rows : List (List Fr)} (hcl : cs.length ≤ 1000) (hc : ∀ c ∈ cs, c.length ≤ 1000) (hr : ∀ row ∈ rows, row.Nodup ∧ row.length ≤ 1000) (hrl : rows.length ≤ 1000) :
    G_ranked [encLs cs, .lst (rows.map encRow)] w = .ok (.lst (cs.map fun c => .tup ((rankC rows c).map fun m : Nat => D.int m))) w := by
  have e2 : (eLc (gSeq (eVar 1)) (bName 5) eYes (eDCT (gEnum (aCons (eVar 5) aNil)) (bTupN 2 (bCons (bName 3) (bCons (bName 4) bNil))) eYes (eVar 4) (eVar 3) [3, 4]) [5]) [.dat (encLs cs), .dat (.lst (rows.map encRow)), .non, .non, .non, .non, .non, .non] w = .ok (.lst (rows.map encD)) w := by
    refine eLcY_ev encRow encD rows rfl (szL hrl) fun row hm => ⟨[.dat (encLs cs), .dat (.lst (rows.map encRow)), .non, .non, .non, .dat (encRow row), .non, .non], rfl, ?_⟩
    obtain ⟨h1, h2⟩ := hr row hm
    have eg : gEnum (aCons (eVar 5) aNil) [.dat (encLs cs), .dat (.lst (rows.map encRow)), .non, .non, .non, .dat (encRow row), .non, .non] w = .ok (pairsFrom encQ 0 row) w := by
      rw [← pairsI_map]
      rfl
    have el : (pairsFrom encQ 0 row).length ≤ sizeLine := by
      rw [← pairsI_map]
      unfold pairsI
      rw [List.length_mapIdx, List.length_map]
      exact szL h2
    have ed := dctLoop (w := w) (encLs cs) (.lst (rows.map encRow)) .non (.dat (encRow row)) .non .non row [] (by simpa using h1)
    unfold eDCT
    rw [eg]
    dsimp only
    rw [if_pos el]
    have ed' : dcG (bTupN 2 (bCons (bName 3) (bCons (bName 4) bNil))) eYes (eVar 4) (eVar 3) (wipeE [.dat (encLs cs), .dat (.lst (rows.map encRow)), .non, .non, .non, .dat (encRow row), .non, .non] [3, 4]) (pairsFrom encQ 0 row) [] w = some (kvsF 0 row, w) := ed
    rw [ed']
    rfl
  refine run_rt ((set_seq (w1 := w) e2).trans (ret_ev ?_))
  refine eLcY_ev encC (fun c => .tup ((rankC rows c).map fun m : Nat => D.int m)) cs rfl (szL hcl) fun c hm => ⟨[.dat (encLs cs), .dat (.lst (rows.map encRow)), .dat (.lst (rows.map encD)), .non, .non, .non, .non, .dat (encC c)], rfl, tup_ev ?_⟩
  have hz : gZip2 (aCons (eVar 7) (aCons (eVar 2) aNil)) [.dat (encLs cs), .dat (.lst (rows.map encRow)), .dat (.lst (rows.map encD)), .non, .non, .non, .non, .dat (encC c)] w = .ok ((c.zip rows).map fun x => D.tup [encL x.1, encD x.2]) w := by
    show AR.ok (pairsZ (c.map encL) (rows.map encD)) w = _
    rw [zip_map2]
  have e := eLcY_ev (gi := gZip2 (aCons (eVar 7) (aCons (eVar 2) aNil))) (b := bTupN 2 (bCons (bName 4) (bCons (bName 6) bNil))) (ge := eDGetN (eVar 6) (eVar 4) (eCall oLenD (aCons (eVar 6) aNil))) (vs := [4, 6]) (en := [.dat (encLs cs), .dat (.lst (rows.map encRow)), .dat (.lst (rows.map encD)), .non, .non, .non, .non, .dat (encC c)]) (w := w) (fun x : Lim × List Fr => D.tup [encL x.1, encD x.2]) (fun x => .int (rankL x.2 x.1 : Nat)) (c.zip rows) hz (by rw [List.length_zip]; exact szL (Nat.le_trans (Nat.min_le_left _ _) (hc c hm))) fun x _ => ⟨[.dat (encLs cs), .dat (.lst (rows.map encRow)), .dat (.lst (rows.map encD)), .non, .dat (encL x.1), .non, .dat (encD x.2), .dat (encC c)], rfl, rank_get x.2 x.1 _ w rfl rfl⟩
  refine e.trans ?_
  unfold rankC
  rw [List.map_map]
  rfl
/-! ### ranks and limits -/
/-- no limit taken for 1 -/
def lq : Lim → Fr
  | none => (1, 1)
  | some q => q
def insB (c d : Cor) : Bool := (c.zip d).all fun x => decide (leQ (lq x.1) (lq x.2))
theorem rank_top (row : List Fr) (l : Lim) : rankL row l ≤ row.length := by
  cases l with
  | none => exact Nat.le_refl _
  | some q => exact List.idxOf_le_length
theorem rank_le {row : List Fr} (h : row.Pairwise ltQ) (hlow : ∀ r ∈ row, r.1 < r.2 ∧ 0 < r.2) {l m : Lim} (hl : ∀ q, l = some q → q = (1, 1) ∨ q ∈ row) (hle : leQ (lq l) (lq m)) : rankL row l ≤ rankL row m := by
  cases m with
  | none => exact rank_top row l
  | some r =>
    by_cases hr : r ∈ row
    · obtain ⟨r1, r2⟩ := hlow r hr
      have key : ∀ q : Fr, q = (1, 1) → ¬ leQ q r := fun q e hh => by
        rw [e] at hh
        have hh : (1 : Int) * r.2 ≤ r.1 * 1 := hh
        omega
      cases l with
      | none => exact absurd hle (key (1, 1) rfl)
      | some q =>
        rcases hl q rfl with z | hq
        · exact absurd hle (key q z)
        · show row.idxOf q ≤ row.idxOf r
          by_cases c : row.idxOf q ≤ row.idxOf r
          · exact c
          · exfalso
            have a := List.idxOf_lt_length_of_mem hq
            have b := List.idxOf_lt_length_of_mem hr
            have := List.pairwise_iff_getElem.mp h (row.idxOf r) (row.idxOf q) b a (by omega)
            rw [List.getElem_idxOf, List.getElem_idxOf] at this
            have hle : q.1 * r.2 ≤ r.1 * q.2 := hle
            have this : r.1 * q.2 < q.1 * r.2 := this
            omega
    · have : rankL row (some r) = row.length := List.idxOf_eq_length hr
      rw [this]
      exact rank_top row l
theorem ranks_le : ∀ {rows : List (List Fr)} {c d : Cor}, (∀ row ∈ rows, row.Pairwise ltQ ∧ ∀ r ∈ row, r.1 < r.2 ∧ 0 < r.2) → (∀ (j : Nat) (row : List Fr) (r : Fr), rows[j]? = some row → c[j]? = some (some r) → r = (1, 1) ∨ r ∈ row) → insB c d = true → underB ((rankC rows c).map fun m : Nat => (m : Int)) ((rankC rows d).map fun m : Nat => (m : Int)) = true
  | [], c, d, _, _, _ => by
    cases c <;> rfl
  | row :: rows, [], d, _, _, _ => rfl
  | row :: rows, l :: c, [], _, _, _ => rfl
  | row :: rows, l :: c, m :: d, hR, hc, hi => by
    unfold insB at hi
    rw [List.zip_cons_cons, List.all_cons, Bool.and_eq_true, decide_eq_true_eq] at hi
    unfold rankC
    simp only [List.zip_cons_cons, List.map_cons]
    rw [under_cons]
    obtain ⟨h1, h2⟩ := hR row List.mem_cons_self
    have a := rank_le h1 h2 (l := l) (m := m) (fun q e => hc 0 row q rfl (by rw [e]; rfl)) hi.1
    exact ⟨by omega, ranks_le (fun r hr => hR r (List.mem_cons_of_mem _ hr)) (fun j row r h1 h2 => hc (j + 1) row r h1 h2) hi.2⟩
theorem low_row {n : Nat} {cs : List Cor} (hc : ∀ c ∈ cs, isCor 96 n c) (hcl : cs.length ≤ 1000) : ∀ row ∈ rowsU n cs, row.Pairwise ltQ ∧ ∀ r ∈ row, r.1 < r.2 ∧ 0 < r.2 := fun row hr => by
  refine ⟨(rowsU_row hc hcl row hr).1.asc, fun r hm => ?_⟩
  unfold rowsU at hr
  obtain ⟨j, hj, rfl⟩ := List.mem_map.mp hr
  have hjn := List.mem_range.mp hj
  have hl := Nat.le_trans (lowsAt_len cs j) hcl
  have hn := lowsAt_num hc hjn
  obtain ⟨e, he, rfl⟩ := List.mem_map.mp hm
  have hin := (ordE_mem hl hn).1 e he
  have hnum := hn e hin
  obtain ⟨q, hq, rfl⟩ := List.mem_map.mp hin
  have hne : q ≠ (1, 1) := by
    unfold lowsAt at hq
    obtain ⟨l, _, e⟩ := List.mem_filterMap.mp hq
    cases l with
    | none => cases e
    | some z =>
      simp only at e
      split at e
      · cases e
      · cases e; assumption
  have hnum : isNum 96 q := hnum
  obtain ⟨⟨p1, p2⟩, ⟨p3, p4⟩, _⟩ := hnum
  refine ⟨?_, p1⟩
  show q.1 < q.2
  by_cases z : q.1 = q.2
  · exfalso
    rw [z, Nat.gcd_self] at p2
    have : q.2 = 1 := by omega
    exact hne (Prod.ext (z.trans this) this)
  · omega
/-- a corner's highest numbers -/
def topN (c : Cor) : List Fr := c.map lq
theorem top_in {B : Nat} : ∀ {c : Cor}, (∀ l ∈ c, numL B l) → isWithin (topN c) c = true
  | [], _ => rfl
  | l :: c, h => by
    unfold isWithin topN
    rw [List.map_cons, List.zip_cons_cons, List.all_cons, Bool.and_eq_true]
    refine ⟨?_, top_in fun m hm => h m (List.mem_cons_of_mem _ hm)⟩
    cases l with
    | none => rfl
    | some q => exact decide_eq_true (Int.le_refl _)
theorem lq_num {B : Nat} {l : Lim} (h : numL B l) (hB : 1 ≤ B) : isNum B (lq l) := by
  cases l with
  | none =>
    have : (1 : Nat) < 2 ^ B := Nat.one_lt_two_pow (by omega)
    exact ⟨⟨by decide, by decide⟩, ⟨by decide, by decide⟩, this, this⟩
  | some q => exact h q rfl
theorem ins_top {B : Nat} (hB : 1 ≤ B) : ∀ {c d : Cor}, (∀ l ∈ c, numL B l) → isWithin (topN c) d = true → insB c d = true
  | [], _, _, _ => rfl
  | l :: c, [], _, _ => rfl
  | l :: c, m :: d, h, hw => by
    unfold isWithin topN at hw
    rw [List.map_cons, List.zip_cons_cons, List.all_cons, Bool.and_eq_true] at hw
    unfold insB
    rw [List.zip_cons_cons, List.all_cons, Bool.and_eq_true]
    refine ⟨?_, ins_top hB (fun k hk => h k (List.mem_cons_of_mem _ hk)) hw.2⟩
    have hn := lq_num (h l List.mem_cons_self) hB
    cases m with
    | none => exact decide_eq_true (leQ_one hn)
    | some r => exact hw.1
theorem ins_within {B : Nat} (hB : 1 ≤ B) : ∀ {p : List Fr} {c d : Cor}, (∀ q ∈ p, isNum B q) → (∀ l ∈ c, numL B l) → (∀ l ∈ d, numL B l) → c.length = p.length → d.length = p.length → insB c d = true → isWithin p c = true → isWithin p d = true
  | [], _, _, _, _, _, _, _, _, _ => rfl
  | q :: p, [], _, _, _, _, h, _, _, _ => by cases h
  | q :: p, _ :: _, [], _, _, _, _, h, _, _ => by cases h
  | q :: p, l :: c, m :: d, hp, hc, hd, h1, h2, hi, hw => by
    unfold insB at hi
    rw [List.zip_cons_cons, List.all_cons, Bool.and_eq_true, decide_eq_true_eq] at hi
    unfold isWithin at hw ⊢
    rw [List.zip_cons_cons, List.all_cons, Bool.and_eq_true] at hw ⊢
    refine ⟨?_, ins_within hB (fun x hx => hp x (List.mem_cons_of_mem _ hx)) (fun x hx => hc x (List.mem_cons_of_mem _ hx)) (fun x hx => hd x (List.mem_cons_of_mem _ hx)) (Nat.succ.inj h1) (Nat.succ.inj h2) hi.2 hw.2⟩
    have hq := hp q List.mem_cons_self
    have hl := lq_num (hc l List.mem_cons_self) hB
    have hm := lq_num (hd m List.mem_cons_self) hB
    cases m with
    | none => rfl
    | some r =>
      refine decide_eq_true ?_
      have h3 : leQ q (lq l) := by
        cases l with
        | none => exact leQ_one hq
        | some z => exact of_decide_eq_true hw.1
      exact leQ_trans hq.1.1 hl.1.1 hm.1.1 h3 hi.1
theorem ins_refl : ∀ c : Cor, insB c c = true
  | [] => rfl
  | l :: c => by
    unfold insB
    rw [List.zip_cons_cons, List.all_cons, Bool.and_eq_true]
    exact ⟨decide_eq_true (Int.le_refl _), ins_refl c⟩
/-- ranks tell what lies within what -/
theorem under_ins {n : Nat} {cs : List Cor} (hc : ∀ c ∈ cs, isCor 96 n c) (hcl : cs.length ≤ 1000) {c d : Cor} (h1 : c ∈ cs) (h2 : d ∈ cs) :
    underB ((rankC (rowsU n cs) c).map fun m : Nat => (m : Int)) ((rankC (rowsU n cs) d).map fun m : Nat => (m : Int)) = insB c d := by
  have hrl : (rowsU n cs).length = n := by unfold rowsU; rw [List.length_map, List.length_range]
  have c1 := hc c h1
  have c2 := hc d h2
  rw [Bool.eq_iff_iff]
  constructor
  · intro h
    refine ins_top (B := 96) (by decide) c1.2 (within_rank (B := 96) (fun row hr => (rowsU_row hc hcl row hr).1) (fun q hq => ?_) (by rw [c1.1, hrl]) (by rw [c2.1, hrl]) (by unfold topN; rw [List.length_map, c1.1, hrl]) (fun j row r hr hq => rowsU_has hc hcl h2 j row r hr hq) h (top_in c1.2))
    obtain ⟨l, hl, rfl⟩ := List.mem_map.mp hq
    exact lq_num (c1.2 l hl) (by decide)
  · intro h
    exact ranks_le (low_row hc hcl) (fun j row r hr hq => rowsU_has hc hcl h1 j row r hr hq) h
/-! ### coherent bars -/
def partB (s t : IS) : Bool := s.all fun i => decide (i ∈ t)
/-- each corner of a lot lies within some corner of each lot in which the lot lies -/
def CohR (ls : List IS) (bs : List Bar) : Prop := ∀ s ∈ ls, ∀ t ∈ ls, partB s t = true → ∀ b ∈ bs, b.1 = s → ∃ d ∈ bs, d.1 = t ∧ insB b.2 d.2 = true
def CohC (ls : List IS) (bs : List Bar) : Prop := ∀ b ∈ bs, b.1 ∈ ls → ∀ t ∈ aboveL ls b.1, ∃ d ∈ bs, d.1 = t ∧ insB b.2 d.2 = true
def CohP (n : Nat) (ls : List IS) (bs : List Bar) : Prop := ∀ p ∈ cellsL ((List.range n).map (edgesL bs)), ∀ s ∈ ls, barredB p bs s = true → ∀ t ∈ aboveL ls s, barredB p bs t = true
theorem above_iff {ls : List IS} {s t : IS} : t ∈ aboveL ls s ↔ t ∈ ls ∧ t ≠ s ∧ partB s t = true := by
  unfold aboveL
  rw [List.mem_filter, Bool.and_eq_true, Bool.not_eq_true', decide_eq_false_iff_not, decide_eq_true_eq, List.filter_eq_nil_iff]
  unfold partB
  rw [List.all_eq_true]
  constructor
  · rintro ⟨h1, h2, h3⟩
    refine ⟨h1, h2, fun i hi => ?_⟩
    have := h3 i hi
    rw [Bool.not_eq_true, Bool.not_eq_false'] at this
    exact this
  · rintro ⟨h1, h2, h3⟩
    refine ⟨h1, h2, fun i hi hh => ?_⟩
    have := h3 i hi
    rw [this] at hh
    cases hh
theorem coh_RC {ls : List IS} {bs : List Bar} : CohR ls bs ↔ CohC ls bs := by
  constructor
  · intro h b hb hl t ht
    obtain ⟨h1, _, h3⟩ := above_iff.mp ht
    exact h b.1 hl t h1 h3 b hb rfl
  · intro h s hs t ht hp b hb e
    by_cases z : t = s
    · exact ⟨b, hb, e.trans z.symm, ins_refl _⟩
    · exact h b hb (by rw [e]; exact hs) t (above_iff.mpr ⟨ht, by rw [e]; exact z, by rw [e]; exact hp⟩)
theorem coh_CP {n : Nat} {ls : List IS} {bs : List Bar} (hb : ∀ b ∈ bs, isBar 96 n b) : CohC ls bs ↔ CohP n ls bs := by
  constructor
  · intro h p hp s hs hbar t ht
    have hpn : p.length = n ∧ ∀ q ∈ p, isNum 96 q := by
      have hc := mem_cells.mp hp
      refine ⟨by rw [hc.len, List.length_map, List.length_range], inC_all hc fun j hj q hq => ?_⟩
      rcases (edges_mem j bs [(1, 1)] q).mp hq with z | z
      · rw [List.mem_singleton.mp z]
        exact num1'
      · exact lims_num hb j (List.mem_range.mp hj) q z
    unfold barredB at hbar ⊢
    obtain ⟨b, hm, hh⟩ := List.any_eq_true.mp hbar
    rw [Bool.and_eq_true, decide_eq_true_eq] at hh
    obtain ⟨d, hd, e, hi⟩ := h b hm (by rw [hh.1]; exact hs) t (by rw [hh.1]; exact ht)
    refine List.any_eq_true.mpr ⟨d, hd, ?_⟩
    rw [Bool.and_eq_true]
    exact ⟨decide_eq_true e, ins_within (B := 96) (by decide) hpn.2 (hb b hm).2.1.2 (hb d hd).2.1.2 (by rw [hpn.1, (hb b hm).2.1.1]) (by rw [hpn.1, (hb d hd).2.1.1]) hi hh.2⟩
  · intro h b hm hl t ht
    have cell : topN b.2 ∈ cellsL ((List.range n).map (edgesL bs)) := by
      refine mem_cells.mpr ?_
      have hbl := (hb b hm).2.1.1
      have : ∀ (js : List Nat) (c : Cor), (∀ (i : Nat) (l : Lim), c[i]? = some l → ∃ j, js[i]? = some j ∧ lq l ∈ edgesL bs j) → c.length = js.length → InC (c.map lq) (js.map (edgesL bs)) := fun js => by
        induction js with
        | nil =>
          intro c _ hl
          have : c = [] := List.length_eq_zero_iff.mp hl
          rw [this]
          exact True.intro
        | cons j js ih =>
          intro c hc hl
          cases c with
          | nil => cases hl
          | cons l c =>
            obtain ⟨k, hk, hq⟩ := hc 0 l rfl
            cases hk
            exact ⟨hq, ih c (fun i l h => hc (i + 1) l h) (Nat.succ.inj hl)⟩
      refine this (List.range n) b.2 (fun i l hi => ?_) (by rw [hbl, List.length_range])
      have hil : i < n := by rw [← hbl]; exact (List.getElem?_eq_some_iff.mp hi).1
      refine ⟨i, by rw [List.getElem?_eq_getElem (by rw [List.length_range]; exact hil), List.getElem_range], ?_⟩
      refine (edges_mem i bs [(1, 1)] _).mpr ?_
      cases l with
      | none => exact .inl (List.mem_singleton.mpr rfl)
      | some q =>
        refine .inr ?_
        unfold limsAt
        refine List.mem_filterMap.mpr ⟨some q, List.mem_map.mpr ⟨b, hm, ?_⟩, rfl⟩
        rw [List.getD_eq_getElem?_getD, hi]
        rfl
    have hbar : barredB (topN b.2) bs b.1 = true := by
      unfold barredB
      refine List.any_eq_true.mpr ⟨b, hm, ?_⟩
      rw [Bool.and_eq_true]
      exact ⟨decide_eq_true rfl, top_in (hb b hm).2.1.2⟩
    have := h _ cell b.1 hl hbar t ht
    unfold barredB at this
    obtain ⟨d, hd, hh⟩ := List.any_eq_true.mp this
    rw [Bool.and_eq_true, decide_eq_true_eq] at hh
    exact ⟨d, hd, hh.1, ins_top (B := 96) (by decide) (hb b hm).2.1.2 hh.2⟩
end K22

namespace K22
open PySem PySem.Spec L2 DL PF LW CL
open PyProof.Rows hiding St
section
variable {w : Wl}
/-! ### the program -/
def encT : Lim → D
  | none => .con ([1, 1].map .int)
  | some q => encQ q
theorem highest_ev (c : Cor) (hl : c.length ≤ 1000) : G_highest_within [encC c] w = .ok (.tup (c.map encT)) w := by
  refine run_rt (ret_ev (tup_ev (eLcY_ev encL encT c rfl (szL hl) fun l _ => ⟨[.dat (encC c), .dat (encL l)], rfl, ?_⟩)))
  cases l with
  | none => exact (if_T (w1 := w) rfl).trans rfl
  | some q => exact (if_F (w1 := w) rfl).trans rfl
def idxs (bs : List Bar) (s : IS) : List Nat := ((bs.zipIdx 0).filter fun p => decide (p.1.1 = s)).map (·.2)
theorem idxs_iff {bs : List Bar} {s : IS} {k : Nat} : k ∈ idxs bs s ↔ ∃ b, bs[k]? = some b ∧ b.1 = s := by
  unfold idxs
  constructor
  · intro h
    obtain ⟨⟨b, j⟩, hp, rfl⟩ := List.mem_map.mp h
    obtain ⟨h1, h2⟩ := List.mem_filter.mp hp
    exact ⟨b, List.mem_zipIdx_iff_getElem?.mp h1, of_decide_eq_true h2⟩
  · rintro ⟨b, h1, h2⟩
    exact List.mem_map.mpr ⟨(b, k), List.mem_filter.mpr ⟨List.mem_zipIdx_iff_getElem?.mpr h1, decide_eq_true h2⟩, rfl⟩
theorem idxs_len (bs : List Bar) (s : IS) : (idxs bs s).length ≤ bs.length := by
  unfold idxs
  rw [List.length_map]
  refine Nat.le_trans (List.length_filter_le _ _) ?_
  rw [List.length_zipIdx]
  exact Nat.le_refl _
def encX (xs : List Nat) : D := .lst (xs.map fun m : Nat => D.int m)
/-- the lots with the indexes of their pairs -/
def kvsP (bs : List Bar) (ls : List IS) : Kvs := ls.map fun s => (s, encX (idxs bs s))
theorem kvsP_any (bs : List Bar) (s : IS) : ∀ ls : List IS, s ∉ ls → ((kvsP bs ls).any fun kv => decide (kv.1 = s)) = false
  | [], _ => rfl
  | t :: ls, h => by
    show (decide (t = s) || ((kvsP bs ls).any fun kv => decide (kv.1 = s))) = false
    rw [kvsP_any bs s ls fun z => h (List.mem_cons_of_mem _ z), decide_eq_false fun z => h (by rw [z]; exact List.mem_cons_self)]
    rfl
theorem kvsP_get (bs : List Bar) {s : IS} : ∀ {ls : List IS}, s ∈ ls → getK (kvsP bs ls) s = some (encX (idxs bs s))
  | t :: ls, h => by
    by_cases e : t = s
    · subst e
      exact getK_pos rfl
    · show getK ((t, encX (idxs bs t)) :: kvsP bs ls) s = _
      rw [getK_neg e]
      exact kvsP_get bs ((List.mem_cons.mp h).resolve_left fun z => e z.symm)
def bIdx : EG := eLc (gEnum (aCons (eVar 1) aNil)) (bTupN 2 (bCons (bName 9) (bCons (bTupN 2 (bCons (bName 10) (bCons (bName 5) bNil))) bNil))) (eBin oEq (eVar 10) (eVar 11)) (eVar 9) [9, 10, 5]
theorem bIdx_ev {bs : List Bar} (hbl : bs.length ≤ 1000) (s : IS) (d0 d2 d3 d4 d7 : D) (s5 s6 s8 s9 s10 s12 s13 s14 s15 s16 s17 : Sl) : bIdx [.dat d0, .dat (encBs bs), .dat d2, .dat d3, .dat d4, s5, s6, .dat d7, s8, s9, s10, .dat (encI s), s12, s13, s14, s15, s16, s17] w = .ok (encX (idxs bs s)) w := by
  have hzl : (bs.zipIdx 0).length ≤ 1000 := by rw [List.length_zipIdx]; exact hbl
  have he : gEnum (aCons (eVar 1) aNil) [.dat d0, .dat (encBs bs), .dat d2, .dat d3, .dat d4, s5, s6, .dat d7, s8, s9, s10, .dat (encI s), s12, s13, s14, s15, s16, s17] w = .ok ((bs.zipIdx 0).map fun p => .tup [.int (p.2 : Nat), encBar p.1]) w := by
    show AR.ok (pairsI (bs.map encBar)) w = _
    rw [pairsI_map, pairsFrom_zip]
  refine (eLc_ev (fun p : Bar × Nat => D.tup [.int (p.2 : Nat), encBar p.1]) (fun p => decide (p.1.1 = s)) (fun p => .int (p.2 : Nat)) (bs.zipIdx 0) he (szL hzl) fun p _ => ⟨_, rfl, ?_, fun _ => rfl⟩).trans ?_
  · exact (bin_ev (w1 := w) (d := encI p.1.1) (e := encI s) rfl rfl).trans (oEq_ev (w := w) eqs_set p.1.1 s (shp_set _) (shp_set _))
  · unfold encX idxs
    rw [List.map_map]
    rfl
theorem dcLoop {bs : List Bar} (hbl : bs.length ≤ 1000) (d0 d2 d3 d4 d7 : D) (s5 s6 s8 s9 s10 s12 s13 s14 s15 s16 s17 : Sl) : ∀ (rest done : List IS), (done ++ rest).Nodup →
    dcG (bName 11) eYes (eVar 11) bIdx [.dat d0, .dat (encBs bs), .dat d2, .dat d3, .dat d4, s5, s6, .dat d7, s8, s9, s10, .non, s12, s13, s14, s15, s16, s17] (rest.map encI) (kvsP bs done) w = some (kvsP bs (done ++ rest), w)
  | [], done, _ => by rw [List.append_nil]; rfl
  | s :: rest, done, h => by
    have hs : s ∉ done := fun z => by
      rw [List.nodup_append] at h
      exact h.2.2 s z s List.mem_cons_self rfl
    have ih := dcLoop hbl d0 d2 d3 d4 d7 s5 s6 s8 s9 s10 s12 s13 s14 s15 s16 s17 rest (done ++ [s]) (by rw [List.append_assoc]; exact h)
    have eb : (bName 11) (encI s) [.dat d0, .dat (encBs bs), .dat d2, .dat d3, .dat d4, s5, s6, .dat d7, s8, s9, s10, .non, s12, s13, s14, s15, s16, s17] = some [.dat d0, .dat (encBs bs), .dat d2, .dat d3, .dat d4, s5, s6, .dat d7, s8, s9, s10, .dat (encI s), s12, s13, s14, s15, s16, s17] := rfl
    have ey : eYes [.dat d0, .dat (encBs bs), .dat d2, .dat d3, .dat d4, s5, s6, .dat d7, s8, s9, s10, .dat (encI s), s12, s13, s14, s15, s16, s17] w = .ok (.bl true) w := rfl
    have ek : eVar 11 [.dat d0, .dat (encBs bs), .dat d2, .dat d3, .dat d4, s5, s6, .dat d7, s8, s9, s10, .dat (encI s), s12, s13, s14, s15, s16, s17] w = .ok (encI s) w := rfl
    have ev := bIdx_ev (w := w) hbl s d0 d2 d3 d4 d7 s5 s6 s8 s9 s10 s12 s13 s14 s15 s16 s17
    have hp : putD (kvsP bs done) s (encX (idxs bs s)) = kvsP bs (done ++ [s]) := by
      unfold putD
      rw [kvsP_any bs s done hs]
      simp [kvsP]
    have hk : keyOf (encI s) = some s := allInts_map s
    rw [List.map_cons]
    simp only [dcG, eb, ey, ek, ev, hk, hp]
    rw [ih, List.append_assoc]
    rfl
/-- a corner of the pair at a place that lies within none of the other lot -/
def badK (rk outer : List IS) (k : Nat) : Bool := !(outer.any fun r => underB (rk.getD k []) r)
def outerK (rk : List IS) (bs : List Bar) (t : IS) : List IS := (idxs bs t).map fun m => rk.getD m []
def bodyAt : SG := (sIf (eNot (eUn oTru (eCall oAny (aCons (eLc (gSeq (eVar 16)) (bName 17) eYes (eFn 2 G_is_under (aCons (eBin oIx (eVar 7) (eVar 9)) (aCons (eVar 17) aNil))) [17]) aNil)))) (sRet (eTup (aCons (eVar 11) (aCons (eVar 15) (aCons (eFn 1 G_highest_within (aCons (eBin oIx (eVar 4) (eVar 9)) aNil)) aNil))))) sPass)
def bodyPr : SG := (sSeq (sSet 16 (eLc (gSeq (eDIxD (eVar 8) (eVar 15))) (bName 9) eYes (eBin oIx (eVar 7) (eVar 9)) [9]))
  (sFor (gSeq (eDIxD (eVar 8) (eVar 11))) (bName 9) bodyAt))
section
variable {n : Nat} {ls : List IS} {bs : List Bar} {rk : List IS} {cs : List Cor}
/-- what the walk needs of the ranks and of the corners -/
structure Rk (bs : List Bar) (rk : List IS) (cs : List Cor) : Prop where
  l1 : rk.length = bs.length
  l2 : cs.length = bs.length
  bl : bs.length ≤ 240
  h1 : ∀ r ∈ rk, r.length ≤ 1000
  h2 : ∀ c ∈ cs, c.length ≤ 1000
theorem Rk.r (h : Rk bs rk cs) {k : Nat} (hk : k < bs.length) : rk[k]? = some (rk.getD k []) ∧ (rk.getD k []).length ≤ 1000 := by
  have e := getD_some ([] : IS) (xs := rk) (j := k) (by rw [h.l1]; exact hk)
  exact ⟨e, h.h1 _ (List.mem_of_getElem? e)⟩
theorem Rk.c (h : Rk bs rk cs) {k : Nat} (hk : k < bs.length) : cs[k]? = some (cs.getD k []) ∧ (cs.getD k []).length ≤ 1000 := by
  have e := getD_some ([] : Cor) (xs := cs) (j := k) (by rw [h.l2]; exact hk)
  exact ⟨e, h.h2 _ (List.mem_of_getElem? e)⟩
theorem at_ev (h : Rk bs rk cs) (outer : List IS) (ho : outer.length ≤ 240) (d0 d1 d2 d3 d8 d12 : D) (s t : IS) (s5 s6 s10 s13 s14 s17 : Sl) (k : Nat) (hk : k < bs.length) :
    (badK rk outer k = true → ∃ ds, bodyAt [.dat d0, .dat d1, .dat d2, .dat d3, .dat (encLs cs), s5, s6, .dat (.lst (rk.map encI)), .dat d8, .dat (.int (k : Nat)), s10, .dat (encI s), .dat d12, s13, s14, .dat (encI t), .dat (.lst (outer.map encI)), s17] w = .rt (.tup ds) w) ∧
    (badK rk outer k = false → bodyAt [.dat d0, .dat d1, .dat d2, .dat d3, .dat (encLs cs), s5, s6, .dat (.lst (rk.map encI)), .dat d8, .dat (.int (k : Nat)), s10, .dat (encI s), .dat d12, s13, s14, .dat (encI t), .dat (.lst (outer.map encI)), s17] w = .nx [.dat d0, .dat d1, .dat d2, .dat d3, .dat (encLs cs), s5, s6, .dat (.lst (rk.map encI)), .dat d8, .dat (.int (k : Nat)), s10, .dat (encI s), .dat d12, s13, s14, .dat (encI t), .dat (.lst (outer.map encI)), s17] w) := by
  obtain ⟨r1, r2⟩ := h.r hk
  obtain ⟨c1, c2⟩ := h.c hk
  have er : ∀ s17 : Sl, (eBin oIx (eVar 7) (eVar 9)) [.dat d0, .dat d1, .dat d2, .dat d3, .dat (encLs cs), s5, s6, .dat (.lst (rk.map encI)), .dat d8, .dat (.int (k : Nat)), s10, .dat (encI s), .dat d12, s13, s14, .dat (encI t), .dat (.lst (outer.map encI)), s17] w = .ok (encI (rk.getD k [])) w := fun s17 =>
    (bin_ev (w1 := w) (d := .lst (rk.map encI)) (e := .int k) rfl rfl).trans (LW.ix_lst encI r1 w)
  have ea := any_ev (gi := gSeq (eVar 16)) (b := bName 17) (ge := eFn 2 G_is_under (aCons (eBin oIx (eVar 7) (eVar 9)) (aCons (eVar 17) aNil))) (vs := [17]) (en := [.dat d0, .dat d1, .dat d2, .dat d3, .dat (encLs cs), s5, s6, .dat (.lst (rk.map encI)), .dat d8, .dat (.int (k : Nat)), s10, .dat (encI s), .dat d12, s13, s14, .dat (encI t), .dat (.lst (outer.map encI)), s17]) (w := w) encI (fun r => underB (rk.getD k []) r) outer rfl (szL (by omega)) fun r _ => ⟨[.dat d0, .dat d1, .dat d2, .dat d3, .dat (encLs cs), s5, s6, .dat (.lst (rk.map encI)), .dat d8, .dat (.int (k : Nat)), s10, .dat (encI s), .dat d12, s13, s14, .dat (encI t), .dat (.lst (outer.map encI)), .dat (encI r)], rfl, (efn_ev (ds := [encI (rk.getD k []), encI r]) (w1 := w) (cons_ev (w1 := w) (er _) rfl) rfl).trans (under_ev _ r r2)⟩
  have ec := not_ev (tru_ev ea)
  constructor
  · intro hz
    have hz' : (!(outer.any fun r => underB (rk.getD k []) r)) = true := hz
    rw [hz'] at ec
    refine ⟨[encI s, encI t, .tup ((cs.getD k []).map encT)], (ifT ec).trans (ret_ev (etup_ev (cons_ev (w1 := w) rfl (cons_ev (w1 := w) rfl (one_ev ((efn_ev (ds := [encC (cs.getD k [])]) (w1 := w) (one_ev ?_) rfl).trans (highest_ev _ c2))))) (show 3 ≤ sizeLine by decide)))⟩
    exact (bin_ev (w1 := w) (d := encLs cs) (e := .int k) rfl rfl).trans (LW.ix_lst encC c1 w)
  · intro hz
    have hz' : (!(outer.any fun r => underB (rk.getD k []) r)) = false := hz
    rw [hz'] at ec
    exact (ifF ec).trans rfl
theorem at_loop (h : Rk bs rk cs) (outer : List IS) (ho : outer.length ≤ 240) (d0 d1 d2 d3 d8 d12 : D) (s t : IS) (s5 s6 s10 s13 s14 s17 : Sl) : ∀ (ks : List Nat) (s9 : Sl), (∀ k ∈ ks, k < bs.length) →
    (∃ k ∈ ks, badK rk outer k = true ∧ ∃ ds, forG (bName 9) bodyAt (ks.map fun m : Nat => D.int m) [.dat d0, .dat d1, .dat d2, .dat d3, .dat (encLs cs), s5, s6, .dat (.lst (rk.map encI)), .dat d8, s9, s10, .dat (encI s), .dat d12, s13, s14, .dat (encI t), .dat (.lst (outer.map encI)), s17] w = .rt (.tup ds) w) ∨
    ((∀ k ∈ ks, badK rk outer k = false) ∧ ∃ s9', forG (bName 9) bodyAt (ks.map fun m : Nat => D.int m) [.dat d0, .dat d1, .dat d2, .dat d3, .dat (encLs cs), s5, s6, .dat (.lst (rk.map encI)), .dat d8, s9, s10, .dat (encI s), .dat d12, s13, s14, .dat (encI t), .dat (.lst (outer.map encI)), s17] w = .nx [.dat d0, .dat d1, .dat d2, .dat d3, .dat (encLs cs), s5, s6, .dat (.lst (rk.map encI)), .dat d8, s9', s10, .dat (encI s), .dat d12, s13, s14, .dat (encI t), .dat (.lst (outer.map encI)), s17] w)
  | [], s9, _ => .inr ⟨by simp, s9, rfl⟩
  | k :: ks, s9, hk => by
    obtain ⟨a1, a2⟩ := at_ev (w := w) h outer ho d0 d1 d2 d3 d8 d12 s t s5 s6 s10 s13 s14 s17 k (hk k List.mem_cons_self)
    cases hz : badK rk outer k with
    | true =>
      obtain ⟨ds, e⟩ := a1 hz
      exact .inl ⟨k, List.mem_cons_self, hz, ds, for_rt (b := bName 9) (d := .int (k : Nat)) rfl e⟩
    | false =>
      have hc := for_cons (b := bName 9) (d := .int (k : Nat)) (ds := ks.map fun m : Nat => D.int m) (en := [.dat d0, .dat d1, .dat d2, .dat d3, .dat (encLs cs), s5, s6, .dat (.lst (rk.map encI)), .dat d8, s9, s10, .dat (encI s), .dat d12, s13, s14, .dat (encI t), .dat (.lst (outer.map encI)), s17]) rfl (a2 hz)
      rcases at_loop h outer ho d0 d1 d2 d3 d8 d12 s t s5 s6 s10 s13 s14 s17 ks (.dat (.int (k : Nat))) fun x hx => hk x (List.mem_cons_of_mem _ hx) with ⟨x, hx, h1, ds, h2⟩ | ⟨h1, s9', h2⟩
      · exact .inl ⟨x, List.mem_cons_of_mem _ hx, h1, ds, hc.trans h2⟩
      · refine .inr ⟨fun x hx => ?_, s9', hc.trans h2⟩
        rcases List.mem_cons.mp hx with rfl | hx
        · exact hz
        · exact h1 x hx
/-- the dict of the places -/
def encPl (bs : List Bar) (ls : List IS) : D := .dct ((kvsP bs ls).map (·.1)) ((kvsP bs ls).map (·.2))
theorem zip_self : ∀ kvs : Kvs, (kvs.map (·.1)).zip (kvs.map (·.2)) = kvs
  | [] => rfl
  | x :: kvs => by
    rw [List.map_cons, List.map_cons, List.zip_cons_cons, zip_self kvs]
theorem place_ev {i j : Nat} {en : List Sl} {s : IS} (hs : s ∈ ls) (h1 : en[i]? = some (.dat (encPl bs ls))) (h2 : en[j]? = some (.dat (encI s))) : eDIxD (eVar i) (eVar j) en w = .ok (encX (idxs bs s)) w := by
  have e1 : eVar i en w = .ok (encPl bs ls) w := by unfold eVar; simp only [h1]
  have e2 : eVar j en w = .ok (encI s) w := by unfold eVar; simp only [h2]
  unfold eDIxD
  rw [e1]
  have e3 : allInts (s.map .int) = some s := allInts_map s
  have e4 := kvsP_get bs hs
  simp only [Res.bind, encPl, e2, encI, e3, zip_self, e4]
def PrBad (rk : List IS) (bs : List Bar) (p : IS × IS) : Prop := ∃ k ∈ idxs bs p.1, badK rk (outerK rk bs p.2) k = true
theorem idxs_lt {u : IS} {k : Nat} (hk : k ∈ idxs bs u) : k < bs.length := by
  obtain ⟨b, h, _⟩ := idxs_iff.mp hk
  exact (List.getElem?_eq_some_iff.mp h).1
theorem pr_ev (h : Rk bs rk cs) (d0 d1 d2 d3 d12 : D) (s t : IS) (hs : s ∈ ls) (ht : t ∈ ls) (s5 s6 s9 s10 s13 s14 s16 s17 : Sl) :
    (PrBad rk bs (s, t) ∧ ∃ ds, bodyPr [.dat d0, .dat d1, .dat d2, .dat d3, .dat (encLs cs), s5, s6, .dat (.lst (rk.map encI)), .dat (encPl bs ls), s9, s10, .dat (encI s), .dat d12, s13, s14, .dat (encI t), s16, s17] w = .rt (.tup ds) w) ∨
    (¬ PrBad rk bs (s, t) ∧ ∃ s9' s16', bodyPr [.dat d0, .dat d1, .dat d2, .dat d3, .dat (encLs cs), s5, s6, .dat (.lst (rk.map encI)), .dat (encPl bs ls), s9, s10, .dat (encI s), .dat d12, s13, s14, .dat (encI t), s16, s17] w = .nx [.dat d0, .dat d1, .dat d2, .dat d3, .dat (encLs cs), s5, s6, .dat (.lst (rk.map encI)), .dat (encPl bs ls), s9', s10, .dat (encI s), .dat d12, s13, s14, .dat (encI t), s16', s17] w) := by
  have hxt := idxs_len bs t
  have hbl := h.bl
  have hol : (outerK rk bs t).length ≤ 240 := by unfold outerK; rw [List.length_map]; omega
  have e1 : (eLc (gSeq (eDIxD (eVar 8) (eVar 15))) (bName 9) eYes (eBin oIx (eVar 7) (eVar 9)) [9]) [.dat d0, .dat d1, .dat d2, .dat d3, .dat (encLs cs), s5, s6, .dat (.lst (rk.map encI)), .dat (encPl bs ls), s9, s10, .dat (encI s), .dat d12, s13, s14, .dat (encI t), s16, s17] w = .ok (.lst ((outerK rk bs t).map encI)) w := by
    have e := eLcY_ev (gi := gSeq (eDIxD (eVar 8) (eVar 15))) (b := bName 9) (ge := eBin oIx (eVar 7) (eVar 9)) (vs := [9]) (en := [.dat d0, .dat d1, .dat d2, .dat d3, .dat (encLs cs), s5, s6, .dat (.lst (rk.map encI)), .dat (encPl bs ls), s9, s10, .dat (encI s), .dat d12, s13, s14, .dat (encI t), s16, s17]) (w := w) (fun m : Nat => D.int m) (fun m => encI (rk.getD m [])) (idxs bs t) (seq_lst (place_ev ht rfl rfl)) (szL (by omega)) fun m hm => ⟨[.dat d0, .dat d1, .dat d2, .dat d3, .dat (encLs cs), s5, s6, .dat (.lst (rk.map encI)), .dat (encPl bs ls), .dat (.int (m : Nat)), s10, .dat (encI s), .dat d12, s13, s14, .dat (encI t), s16, s17], rfl, (bin_ev (w1 := w) (d := .lst (rk.map encI)) (e := .int m) rfl rfl).trans (LW.ix_lst encI (h.r (idxs_lt hm)).1 w)⟩
    refine e.trans ?_
    unfold outerK
    rw [List.map_map]
    rfl
  have es : eDIxD (eVar 8) (eVar 11) [.dat d0, .dat d1, .dat d2, .dat d3, .dat (encLs cs), s5, s6, .dat (.lst (rk.map encI)), .dat (encPl bs ls), s9, s10, .dat (encI s), .dat d12, s13, s14, .dat (encI t), .dat (.lst ((outerK rk bs t).map encI)), s17] w = .ok (encX (idxs bs s)) w := place_ev hs rfl rfl
  have body : ∀ o, forG (bName 9) bodyAt ((idxs bs s).map fun m : Nat => D.int m) [.dat d0, .dat d1, .dat d2, .dat d3, .dat (encLs cs), s5, s6, .dat (.lst (rk.map encI)), .dat (encPl bs ls), s9, s10, .dat (encI s), .dat d12, s13, s14, .dat (encI t), .dat (.lst ((outerK rk bs t).map encI)), s17] w = o →
      bodyPr [.dat d0, .dat d1, .dat d2, .dat d3, .dat (encLs cs), s5, s6, .dat (.lst (rk.map encI)), .dat (encPl bs ls), s9, s10, .dat (encI s), .dat d12, s13, s14, .dat (encI t), s16, s17] w = o := fun o h => (set_seq (w1 := w) e1).trans ((for_ev (ds := (idxs bs s).map fun m : Nat => D.int m) (w1 := w) (seq_lst es)).trans h)
  rcases at_loop (w := w) h (outerK rk bs t) hol d0 d1 d2 d3 (encPl bs ls) d12 s t s5 s6 s10 s13 s14 s17 (idxs bs s) s9 (fun k hk => idxs_lt hk) with ⟨k, hk, h1, ds, h2⟩ | ⟨h1, s9', h2⟩
  · exact .inl ⟨⟨k, hk, h1⟩, ds, body _ h2⟩
  · refine .inr ⟨fun ⟨k, hk, hz⟩ => ?_, s9', _, body _ h2⟩
    have := h1 k hk
    rw [this] at hz
    cases hz
def encP (p : IS × IS) : D := .tup [encI p.1, encI p.2]
theorem pr_loop (h : Rk bs rk cs) (d0 d1 d2 d3 d12 : D) (s5 s6 s10 s13 s14 s17 : Sl) : ∀ (ps : List (IS × IS)) (s9 s11 s15 s16 : Sl), (∀ p ∈ ps, p.1 ∈ ls ∧ p.2 ∈ ls) →
    ((∃ p ∈ ps, PrBad rk bs p) ∧ ∃ ds, forG (bTupN 2 (bCons (bName 11) (bCons (bName 15) bNil))) bodyPr (ps.map encP) [.dat d0, .dat d1, .dat d2, .dat d3, .dat (encLs cs), s5, s6, .dat (.lst (rk.map encI)), .dat (encPl bs ls), s9, s10, s11, .dat d12, s13, s14, s15, s16, s17] w = .rt (.tup ds) w) ∨
    ((∀ p ∈ ps, ¬ PrBad rk bs p) ∧ ∃ en', forG (bTupN 2 (bCons (bName 11) (bCons (bName 15) bNil))) bodyPr (ps.map encP) [.dat d0, .dat d1, .dat d2, .dat d3, .dat (encLs cs), s5, s6, .dat (.lst (rk.map encI)), .dat (encPl bs ls), s9, s10, s11, .dat d12, s13, s14, s15, s16, s17] w = .nx en' w)
  | [], s9, s11, s15, s16, _ => .inr ⟨by simp, _, rfl⟩
  | (s, t) :: ps, s9, s11, s15, s16, hp => by
    obtain ⟨p1, p2⟩ := hp (s, t) List.mem_cons_self
    rcases pr_ev (w := w) h d0 d1 d2 d3 d12 s t p1 p2 s5 s6 s9 s10 s13 s14 s16 s17 with ⟨hb, ds, e⟩ | ⟨hb, s9', s16', e⟩
    · exact .inl ⟨⟨(s, t), List.mem_cons_self, hb⟩, ds, for_rt (b := bTupN 2 (bCons (bName 11) (bCons (bName 15) bNil))) (d := encP (s, t)) rfl e⟩
    · have hc := for_cons (b := bTupN 2 (bCons (bName 11) (bCons (bName 15) bNil))) (d := encP (s, t)) (ds := ps.map encP) (en := [.dat d0, .dat d1, .dat d2, .dat d3, .dat (encLs cs), s5, s6, .dat (.lst (rk.map encI)), .dat (encPl bs ls), s9, s10, s11, .dat d12, s13, s14, s15, s16, s17]) rfl e
      rcases pr_loop h d0 d1 d2 d3 d12 s5 s6 s10 s13 s14 s17 ps s9' (.dat (encI s)) (.dat (encI t)) s16' (fun p h => hp p (List.mem_cons_of_mem _ h)) with ⟨⟨p, hpm, h3⟩, ds, h4⟩ | ⟨h3, en', h4⟩
      · exact .inl ⟨⟨p, List.mem_cons_of_mem _ hpm, h3⟩, ds, hc.trans h4⟩
      · refine .inr ⟨fun p hpm => ?_, en', hc.trans h4⟩
        rcases List.mem_cons.mp hpm with rfl | hpm
        · exact hb
        · exact h3 p hpm
end
end
end K22

namespace K22
open PySem PySem.Spec L2 DL PF LW CL
open PyProof.Rows hiding St
/-- few suppositions, few pairs -/
structure Cb (n : Nat) (ls : List IS) (bs : List Bar) : Prop where
  h1 : 1 ≤ n
  h3 : n ≤ 3
  fr : isFrame n ls
  bars : areBars 96 n bs
  bl : bs.length ≤ 40
theorem Cb.lots {n : Nat} {ls : List IS} {bs : List Bar} (h : Cb n ls bs) : ls.length ≤ 31 := h.fr.len (by have := h.h3; omega)
theorem frame_nd {n : Nat} {ls : List IS} (h1 : 1 ≤ n) (h3 : n ≤ 3) (h : isFrame n ls) : ls.Nodup := by
  have nd : (ssets n).Nodup := by
    have : n = 1 ∨ n = 2 ∨ n = 3 := by omega
    rcases this with rfl | rfl | rfl <;> decide
  exact nd.sublist h.2
def pairsL (ls : List IS) : List (IS × IS) := ls.flatMap fun s => (ls.filter (partB s)).map fun t => (s, t)
theorem pairs_iff {ls : List IS} {p : IS × IS} : p ∈ pairsL ls ↔ p.1 ∈ ls ∧ p.2 ∈ ls ∧ partB p.1 p.2 = true := by
  unfold pairsL
  rw [List.mem_flatMap]
  constructor
  · rintro ⟨s, hs, h⟩
    obtain ⟨t, ht, rfl⟩ := List.mem_map.mp h
    obtain ⟨a, b⟩ := List.mem_filter.mp ht
    exact ⟨hs, a, b⟩
  · rintro ⟨a, b, c⟩
    exact ⟨p.1, a, List.mem_map.mpr ⟨p.2, List.mem_filter.mpr ⟨b, c⟩, rfl⟩⟩
noncomputable def rkOf (n : Nat) (bs : List Bar) : List IS := rowsI n (bs.map (·.2))
theorem rk_ok {n : Nat} {ls : List IS} {bs : List Bar} (h : Cb n ls bs) : Rk bs (rkOf n bs) (bs.map (·.2)) := by
  have hb := h.bars.1
  have h3 := h.h3
  have hl := h.bl
  refine ⟨by unfold rkOf rowsI; rw [List.length_map, List.length_map], by rw [List.length_map], by omega, fun r hr => ?_, fun c hc => ?_⟩
  · unfold rkOf rowsI at hr
    obtain ⟨c, hc, rfl⟩ := List.mem_map.mp hr
    obtain ⟨b, hm, rfl⟩ := List.mem_map.mp hc
    rw [List.length_map, rankC_len (hb b hm).2.1.1]
    omega
  · obtain ⟨b, hm, rfl⟩ := List.mem_map.mp hc
    rw [(hb b hm).2.1.1]
    omega
theorem rk_get {n : Nat} {bs : List Bar} {k : Nat} {b : Bar} (hk : bs[k]? = some b) : (rkOf n bs).getD k [] = (rankC (rowsU n (bs.map (·.2))) b.2).map fun m : Nat => (m : Int) := by
  unfold rkOf rowsI
  rw [List.getD_eq_getElem?_getD, List.getElem?_map, List.getElem?_map, hk]
  rfl
theorem bad_iff {n : Nat} {ls : List IS} {bs : List Bar} (h : Cb n ls bs) : (∀ p ∈ pairsL ls, ¬ PrBad (rkOf n bs) bs p) ↔ CohR ls bs := by
  have hc : ∀ c ∈ bs.map (·.2), isCor 96 n c := fun c hc => by
    obtain ⟨b, hm, rfl⟩ := List.mem_map.mp hc
    exact (h.bars.1 b hm).2.1
  have hl := h.bl
  have und : ∀ {k m : Nat} {b d : Bar}, bs[k]? = some b → bs[m]? = some d → underB ((rkOf n bs).getD k []) ((rkOf n bs).getD m []) = insB b.2 d.2 := fun {k m b d} hk hm => by
    rw [rk_get hk, rk_get hm]
    exact under_ins hc (by rw [List.length_map]; omega) (List.mem_map.mpr ⟨b, List.mem_of_getElem? hk, rfl⟩) (List.mem_map.mpr ⟨d, List.mem_of_getElem? hm, rfl⟩)
  constructor
  · intro hh s hs t ht hp b hb e
    obtain ⟨k, hk⟩ := List.getElem?_of_mem hb
    have h1 := hh (s, t) (pairs_iff.mpr ⟨hs, ht, hp⟩)
    have h2 : badK (rkOf n bs) (outerK (rkOf n bs) bs t) k = false := by
      cases z : badK (rkOf n bs) (outerK (rkOf n bs) bs t) k with
      | false => rfl
      | true => exact absurd ⟨k, idxs_iff.mpr ⟨b, hk, e⟩, z⟩ h1
    unfold badK at h2
    rw [Bool.not_eq_false', List.any_eq_true] at h2
    obtain ⟨r, hr, hu⟩ := h2
    unfold outerK at hr
    obtain ⟨m, hm, rfl⟩ := List.mem_map.mp hr
    obtain ⟨d, hd, e2⟩ := idxs_iff.mp hm
    exact ⟨d, List.mem_of_getElem? hd, e2, by rw [← und hk hd]; exact hu⟩
  · rintro hh ⟨s, t⟩ hp ⟨k, hk, hz⟩
    obtain ⟨hs, ht, hpt⟩ := pairs_iff.mp hp
    obtain ⟨b, hb, e⟩ := idxs_iff.mp hk
    obtain ⟨d, hd, e2, hi⟩ := hh s hs t ht hpt b (List.mem_of_getElem? hb) e
    obtain ⟨m, hm⟩ := List.getElem?_of_mem hd
    have : (outerK (rkOf n bs) bs t).any (fun r => underB ((rkOf n bs).getD k []) r) = true := List.any_eq_true.mpr ⟨_, List.mem_map.mpr ⟨m, idxs_iff.mpr ⟨d, hm, e2⟩, rfl⟩, by rw [und hb hm]; exact hi⟩
    have hz : (!((outerK (rkOf n bs) bs t).any fun r => underB ((rkOf n bs).getD k []) r)) = true := hz
    rw [this] at hz
    cases hz
section
variable {w : Wl}
theorem split_ev {n : Nat} {ls : List IS} {bs : List Bar} (h : Cb n ls bs) : (CohR ls bs ∧ G_first_split [encF (n, ls), encBs bs] w = .ok .non w) ∨ (¬ CohR ls bs ∧ ∃ ds, G_first_split [encF (n, ls), encBs bs] w = .ok (.tup ds) w) := by
  have h3 := h.h3
  have hl := h.bl
  have hll := h.lots
  have hb := h.bars.1
  have hcs : ∀ c ∈ bs.map (·.2), isCor 96 n c := fun c hc => by
    obtain ⟨b, hm, rfl⟩ := List.mem_map.mp hc
    exact (hb b hm).2.1
  have hcl : (bs.map (·.2)).length ≤ 1000 := by rw [List.length_map]; omega
  have e4 : (eLc (gSeq (eVar 1)) (bTupN 2 (bCons (bName 5) (bCons (bName 6) bNil))) eYes (eVar 6) [5, 6]) [.dat (encF (n, ls)), .dat (encBs bs), .dat (.int n), .dat (encSs ls), .non, .non, .non, .non, .non, .non, .non, .non, .non, .non, .non, .non, .non, .non] w = .ok (encLs (bs.map (·.2))) w := by
    refine (eLcY_ev encBar (fun b => encC b.2) bs rfl (szL (by omega)) fun b _ => ⟨[.dat (encF (n, ls)), .dat (encBs bs), .dat (.int n), .dat (encSs ls), .non, .dat (encI b.1), .dat (encC b.2), .non, .non, .non, .non, .non, .non, .non, .non, .non, .non, .non], rfl, rfl⟩).trans ?_
    unfold encLs
    rw [List.map_map]
    rfl
  have u1 := unlike_rowsL (w := w) (n := n) (by omega) hcs hcl
  have hr := rowsU_row (n := n) hcs hcl
  have hrl : (rowsU n (bs.map (·.2))).length = n := by unfold rowsU; rw [List.length_map, List.length_range]
  have u2 := ranked_evL (w := w) (cs := bs.map (·.2)) (rows := rowsU n (bs.map (·.2))) hcl (fun c hm => by rw [(hcs c hm).1]; omega) (fun row hm => ⟨(hr row hm).2.1, by have := (hr row hm).2.2; omega⟩) (by omega)
  have er : ((bs.map (·.2)).map fun c => D.tup ((rankC (rowsU n (bs.map (·.2))) c).map fun m : Nat => D.int m)) = (rkOf n bs).map encI := by
    unfold rkOf rowsI
    conv => rhs; rw [List.map_map]
    refine List.map_congr_left fun c _ => ?_
    show _ = D.tup (((rankC (rowsU n (bs.map (·.2))) c).map fun m : Nat => (m : Int)).map .int)
    rw [List.map_map]
    rfl
  rw [er] at u2
  have hrk := rk_ok h
  have hbad := bad_iff h
  generalize rkOf n bs = rk at u2 hrk hbad
  generalize rowsU n (bs.map (·.2)) = rows at u1 u2
  generalize (bs.map (·.2)) = cs at u1 u2 hrk e4
  have e7 : (eFn 2 G_ranked (aCons (eVar 4) (aCons (eFn 2 G_unlike_limits (aCons (eVar 2) (aCons (eVar 4) aNil))) aNil))) [.dat (encF (n, ls)), .dat (encBs bs), .dat (.int n), .dat (encSs ls), .dat (encLs cs), .non, .non, .non, .non, .non, .non, .non, .non, .non, .non, .non, .non, .non] w = .ok (.lst (rk.map encI)) w :=
    (efn_ev (ds := [encLs cs, .lst (rows.map encRow)]) (w1 := w) (cons_ev (w1 := w) rfl (one_ev ((efn_ev (ds := [.int n, encLs cs]) (w1 := w) rfl rfl).trans u1))) rfl).trans u2
  have nd := frame_nd h.h1 h3 h.fr
  have e8 : (eDCT (gSeq (eVar 3)) (bName 11) eYes (eVar 11) bIdx [11]) [.dat (encF (n, ls)), .dat (encBs bs), .dat (.int n), .dat (encSs ls), .dat (encLs cs), .non, .non, .dat (.lst (rk.map encI)), .non, .non, .non, .non, .non, .non, .non, .non, .non, .non] w = .ok (encPl bs ls) w := by
    have ed := dcLoop (w := w) (bs := bs) (by omega) (encF (n, ls)) (.int n) (encSs ls) (encLs cs) (.lst (rk.map encI)) .non .non .non .non .non .non .non .non .non .non .non ls [] (by simpa using nd)
    have eg : gSeq (eVar 3) [.dat (encF (n, ls)), .dat (encBs bs), .dat (.int n), .dat (encSs ls), .dat (encLs cs), .non, .non, .dat (.lst (rk.map encI)), .non, .non, .non, .non, .non, .non, .non, .non, .non, .non] w = .ok (ls.map encI) w := rfl
    have el : (ls.map encI).length ≤ sizeLine := by rw [List.length_map]; exact szL (by omega)
    unfold eDCT
    rw [eg]
    dsimp only
    rw [if_pos el]
    have ed' : dcG (bName 11) eYes (eVar 11) bIdx (wipeE [.dat (encF (n, ls)), .dat (encBs bs), .dat (.int n), .dat (encSs ls), .dat (encLs cs), .non, .non, .dat (.lst (rk.map encI)), .non, .non, .non, .non, .non, .non, .non, .non, .non, .non] [11]) (ls.map encI) [] w = some (kvsP bs ls, w) := ed
    rw [ed']
    rfl
  have e12 : (eLc2T (gSeq (eVar 3)) (bName 13) (gSeq (eVar 3)) (bName 14) (eUn oTru (eFn 2 G_is_part (aCons (eVar 13) (aCons (eVar 14) aNil)))) (eTup (aCons (eVar 13) (aCons (eVar 14) aNil))) [13, 14] [14]) [.dat (encF (n, ls)), .dat (encBs bs), .dat (.int n), .dat (encSs ls), .dat (encLs cs), .non, .non, .dat (.lst (rk.map encI)), .dat (encPl bs ls), .non, .non, .non, .non, .non, .non, .non, .non, .non] w = .ok (.lst ((pairsL ls).map encP)) w := by
    have hlen : (ls.flatMap fun s => (ls.filter (partB s)).map fun t => encP (s, t)).length ≤ 31 * 31 := by
      have : ∀ xs : List IS, (xs.flatMap fun s => (ls.filter (partB s)).map fun t => encP (s, t)).length ≤ xs.length * 31 := fun xs => by
        induction xs with
        | nil => simp
        | cons x xs ih =>
          rw [List.flatMap_cons, List.length_append, List.length_cons, List.length_map, Nat.add_mul, Nat.one_mul]
          have := List.length_filter_le (partB x) ls
          omega
      have := this ls
      have : ls.length * 31 ≤ 31 * 31 := Nat.mul_le_mul_right 31 hll
      omega
    refine (eLc2T_ev (enc := encI) (enc1 := encI) partB (fun s t => encP (s, t)) ls ls rfl (szL (by omega)) fun s hs => ⟨[.dat (encF (n, ls)), .dat (encBs bs), .dat (.int n), .dat (encSs ls), .dat (encLs cs), .non, .non, .dat (.lst (rk.map encI)), .dat (encPl bs ls), .non, .non, .non, .non, .dat (encI s), .non, .non, .non, .non], rfl, rfl, rfl, fun t ht => ⟨[.dat (encF (n, ls)), .dat (encBs bs), .dat (.int n), .dat (encSs ls), .dat (encLs cs), .non, .non, .dat (.lst (rk.map encI)), .dat (encPl bs ls), .non, .non, .non, .non, .dat (encI s), .dat (encI t), .non, .non, .non], rfl, ?_, fun _ => ?_⟩⟩).trans ?_
    · have hsl := isSet_len (h.fr.set s hs)
      exact tru_ev ((efn_ev (ds := [encI s, encI t]) (w1 := w) rfl rfl).trans (is_part_ev s t (by omega)))
    · exact etup_ev (cons_ev (w1 := w) rfl (one_ev rfl)) (show 2 ≤ sizeLine by decide)
    · unfold pairsL
      rw [List.map_flatMap]
      simp only [List.map_map]
      rfl
  have go : ∀ (en : List Sl) (o : Out), forG (bTupN 2 (bCons (bName 11) (bCons (bName 15) bNil))) bodyPr ((pairsL ls).map encP) [.dat (encF (n, ls)), .dat (encBs bs), .dat (.int n), .dat (encSs ls), .dat (encLs cs), .non, .non, .dat (.lst (rk.map encI)), .dat (encPl bs ls), .non, .non, .non, .dat (.lst ((pairsL ls).map encP)), .non, .non, .non, .non, .non] w = o →
      g_first_split ([encF (n, ls), encBs bs].map .dat ++ List.replicate 16 .non) w = o.seq (sRet (eC .non)) := fun en o ho => by
    refine (asg_seq (w1 := w) (d := encF (n, ls)) rfl rfl).trans ?_
    refine (set_seq (w1 := w) e4).trans ((set_seq (w1 := w) e7).trans ((set_seq (w1 := w) e8).trans ((set_seq (w1 := w) e12).trans ?_)))
    show (sFor (gSeq (eVar 12)) (bTupN 2 (bCons (bName 11) (bCons (bName 15) bNil))) bodyPr _ w).seq _ = _
    exact congrArg (fun o => Out.seq o (sRet (eC .non))) ((for_ev (ds := (pairsL ls).map encP) (w1 := w) rfl).trans ho)
  rcases pr_loop (w := w) (ls := ls) hrk (encF (n, ls)) (encBs bs) (.int n) (encSs ls) (.lst ((pairsL ls).map encP)) .non .non .non .non .non .non (pairsL ls) .non .non .non .non (fun p hp => ⟨(pairs_iff.mp hp).1, (pairs_iff.mp hp).2.1⟩) with ⟨⟨p, hp, hb2⟩, ds, e⟩ | ⟨hok, en', e⟩
  · exact .inr ⟨fun hc => hbad.mpr hc p hp hb2, ds, run_rt ((go [] _ e).trans rfl)⟩
  · exact .inl ⟨hbad.mp hok, run_rt ((go [] _ e).trans rfl)⟩
open Classical in
theorem is_coherent_ev {n : Nat} {ls : List IS} {bs : List Bar} (h : Cb n ls bs) : G_is_coherent [encF (n, ls), encBs bs] w = .ok (.bl (decide (CohR ls bs))) w := by
  have h1 := h.h1
  have h3 := h.h3
  have c1 := check_frame_ok (w := w) n h.h1 (by omega) ls h.fr.1 h.fr.set h.fr.lex (by have := h.lots; omega)
  have c2 := check_bars_ok (w := w) h.bars (by omega)
  rcases split_ev (w := w) h with ⟨hc, e⟩ | ⟨hc, ds, e⟩
  · rw [decide_eq_true hc]
    exact run_rt ((drop_seq (w1 := w) ((efn_ev rfl rfl).trans c1)).trans ((drop_seq (w1 := w) ((efn_ev (ds := [.int n, encBs bs]) rfl rfl).trans c2)).trans (ret_ev ((bin_ev (w1 := w) (d := .non) (e := .non) ((efn_ev (ds := [encF (n, ls), encBs bs]) (w1 := w) rfl rfl).trans e) rfl).trans rfl))))
  · rw [decide_eq_false hc]
    exact run_rt ((drop_seq (w1 := w) ((efn_ev rfl rfl).trans c1)).trans ((drop_seq (w1 := w) ((efn_ev (ds := [.int n, encBs bs]) rfl rfl).trans c2)).trans (ret_ev ((bin_ev (w1 := w) (d := .tup ds) (e := .non) ((efn_ev (ds := [encF (n, ls), encBs bs]) (w1 := w) rfl rfl).trans e) rfl).trans rfl))))
end
end K22

namespace K22
open PySem PySem.Spec L2 DL PF LW CL
open PyProof.Rows hiding St
section
variable {w : Wl}
/-- a loop that returns False at the first one that fails -/
theorem for_check {α : Type} (enc : α → D) (c : α → Bool) {b : BG} {body : SG} {I : List Sl → Prop} : ∀ (xs : List α) (en : List Sl), I en →
    (∀ x ∈ xs, ∀ en, I en → ∃ en1, b (enc x) en = some en1 ∧ (c x = true → ∃ en2, body en1 w = .nx en2 w ∧ I en2) ∧ (c x = false → body en1 w = .rt (.bl false) w)) →
    (xs.all c = true → ∃ en', forG b body (xs.map enc) en w = .nx en' w ∧ I en') ∧ (xs.all c = false → forG b body (xs.map enc) en w = .rt (.bl false) w)
  | [], en, hI, _ => ⟨fun _ => ⟨en, rfl, hI⟩, fun h => by cases h⟩
  | x :: xs, en, hI, h => by
    obtain ⟨en1, hb, h1, h2⟩ := h x List.mem_cons_self en hI
    rw [List.all_cons]
    cases hc : c x with
    | false =>
      refine ⟨fun h => by simp at h, fun _ => for_rt hb (h2 hc)⟩
    | true =>
      obtain ⟨en2, hn, hI2⟩ := h1 hc
      obtain ⟨a, b⟩ := for_check enc c xs en2 hI2 fun y hy => h y (List.mem_cons_of_mem _ hy)
      rw [Bool.true_and]
      exact ⟨fun hh => by
        obtain ⟨en', e, i⟩ := a hh
        exact ⟨en', (for_cons hb hn).trans e, i⟩, fun hh => (for_cons hb hn).trans (b hh)⟩
/-- such a loop, then True -/
theorem check_ret {α : Type} (enc : α → D) (c : α → Bool) {gi : AG} {b : BG} {body : SG} {I : List Sl → Prop} {xs : List α} {en : List Sl} (hg : gi en w = .ok (xs.map enc) w) (hI : I en)
    (h : ∀ x ∈ xs, ∀ en, I en → ∃ en1, b (enc x) en = some en1 ∧ (c x = true → ∃ en2, body en1 w = .nx en2 w ∧ I en2) ∧ (c x = false → body en1 w = .rt (.bl false) w)) :
    sSeq (sFor gi b body) (sRet (eC (.bl true))) en w = .rt (.bl (xs.all c)) w := by
  obtain ⟨a, b'⟩ := for_check enc c xs en hI h
  cases hc : xs.all c with
  | true =>
    obtain ⟨en', e, _⟩ := a hc
    exact (seq_nx ((for_ev hg).trans e)).trans rfl
  | false => exact CL.seq_rt ((for_ev hg).trans (b' hc))
/-! ### the law's own words -/
theorem lq_ev {i : Nat} {en : List Sl} {c : Cor} {k : Nat} (hi : en[i]? = some (.dat (encC c))) (h2 : en[2]? = some (.dat (.int (k : Nat)))) (hk : k < c.length) :
    (eIf (eBin oNot (eBin oIx (eVar i) (eVar 2)) (eC .non)) (eBin oIx (eVar i) (eVar 2)) (eTup (aCons (eC (.int 1)) (aCons (eC (.int 1)) aNil)))) en w = .ok (encQ (lq (c.getD k none))) w := by
  have v1 : eVar i en w = .ok (encC c) w := by unfold eVar; simp only [hi]
  have v2 : eVar 2 en w = .ok (.int (k : Nat)) w := by unfold eVar; simp only [h2]
  have ei : (eBin oIx (eVar i) (eVar 2)) en w = .ok (encL (c.getD k none)) w := (bin_ev v1 v2).trans (LW.ix_tup encL (getD_some none hk) w)
  cases hz : c.getD k none with
  | none =>
    rw [hz] at ei
    exact (if_F (w1 := w) ((bin_ev ei rfl).trans rfl)).trans (etup_ev (cons_ev (w1 := w) rfl (one_ev rfl)) (show 2 ≤ sizeLine by decide))
  | some q =>
    rw [hz] at ei
    exact (if_T (w1 := w) ((bin_ev ei rfl).trans rfl)).trans ei
theorem ins_range (c d : Cor) (h : c.length = d.length) : insB c d = (List.range c.length).all fun k => decide (leQ (lq (c.getD k none)) (lq (d.getD k none))) := by
  have e : c.zip d = (List.range c.length).map fun j => (c.getD j none, d.getD j none) := by
    apply List.ext_getElem
    · simp [h]
    · intro j h1 h2
      rw [List.length_zip] at h1
      rw [List.getElem_zip, List.getElem_map, List.getElem_range, List.getD_eq_getElem?_getD, List.getD_eq_getElem?_getD, List.getElem?_eq_getElem (by omega), List.getElem?_eq_getElem (by omega)]
      rfl
  unfold insB
  rw [e, List.all_map]
  rfl
theorem inside_ev {n : Nat} {c d : Cor} (hn : n ≤ 1000) (hc : isCor 96 n c) (hd : isCor 96 n d) : G__law_inside [encC c, encC d] w = .ok (.bl (insB c d)) w := by
  have hr : gRng1 (aCons (eCall oLen (aCons (eVar 0) aNil)) aNil) [.dat (encC c), .dat (encC d), .non] w = .ok ((List.range c.length).map fun j : Nat => D.int j) w := by
    have := rng_ev (g := aCons (eCall oLen (aCons (eVar 0) aNil)) aNil) (en := [.dat (encC c), .dat (encC d), .non]) (w := w) (n := (c.length : Int)) (one_ev ((lenT_ev (ds := c.map encL) (w1 := w) rfl).trans (by rw [List.length_map]))) (small_nat (by rw [hc.1]; exact hn))
    rw [Int.toNat_natCast] at this
    refine this.trans ?_
    unfold upto
    rw [List.map_map]
    rfl
  rw [ins_range c d (by rw [hc.1, hd.1])]
  refine run_rt (check_ret (fun j : Nat => D.int j) (fun k => decide (leQ (lq (c.getD k none)) (lq (d.getD k none)))) (I := fun en => ∃ s, en = [.dat (encC c), .dat (encC d), s]) hr ⟨_, rfl⟩ fun k hk en hI => ?_)
  obtain ⟨s, rfl⟩ := hI
  have hk := List.mem_range.mp hk
  have e1 := lq_ev (w := w) (i := 0) (en := [.dat (encC c), .dat (encC d), .dat (.int (k : Nat))]) (c := c) rfl rfl hk
  have e2 := lq_ev (w := w) (i := 1) (en := [.dat (encC c), .dat (encC d), .dat (.int (k : Nat))]) (c := d) rfl rfl (by rw [hd.1, ← hc.1]; exact hk)
  have n1 := lq_num (hc.2 _ (List.mem_of_getElem? (getD_some none hk))) (by decide)
  have n2 := lq_num (hd.2 _ (List.mem_of_getElem? (getD_some none (show k < d.length by rw [hd.1, ← hc.1]; exact hk)))) (by decide)
  have ec := not_ev (tru_ev ((efn_ev (ds := [encQ (lq (c.getD k none)), encQ (lq (d.getD k none))]) (w1 := w) (cons_ev (w1 := w) e1 (one_ev e2)) rfl).trans (LW.at_most_ev n1.2.2 n2.2.2 (by omega))))
  refine ⟨_, rfl, fun hc => ?_, fun hc => ?_⟩
  · rw [hc] at ec
    exact ⟨_, (ifF ec).trans rfl, _, rfl⟩
  · rw [hc] at ec
    exact (ifT ec).trans rfl
def hasB (bs : List Bar) (b : Bar) (t : IS) : Bool := (bs.filter fun d : Bar => decide (d.1 = t)).any fun d => insB b.2 d.2
def cornB (ls : List IS) (bs : List Bar) (b : Bar) : Bool := if b.1 ∈ ls then (aboveL ls b.1).all (hasB bs b) else true
def byC (ls : List IS) (bs : List Bar) : Bool := bs.all (cornB ls bs)
def byP (n : Nat) (ls : List IS) (bs : List Bar) : Bool := (cellsL ((List.range n).map (edgesL bs))).all fun p => ls.all fun s => !(!decide (s ∈ possL p bs ls) && (aboveL ls s).any fun t => decide (t ∈ possL p bs ls))
theorem byC_iff {ls : List IS} {bs : List Bar} : byC ls bs = true ↔ CohC ls bs := by
  unfold byC CohC cornB hasB
  rw [List.all_eq_true]
  constructor
  · intro h b hb hl t ht
    have := h b hb
    rw [if_pos hl, List.all_eq_true] at this
    obtain ⟨d, hd, hi⟩ := List.any_eq_true.mp (this t ht)
    obtain ⟨d1, d2⟩ := List.mem_filter.mp hd
    exact ⟨d, d1, of_decide_eq_true d2, hi⟩
  · intro h b hb
    split
    · rename_i hl
      rw [List.all_eq_true]
      intro t ht
      obtain ⟨d, hd, e, hi⟩ := h b hb hl t ht
      exact List.any_eq_true.mpr ⟨d, List.mem_filter.mpr ⟨hd, decide_eq_true e⟩, hi⟩
    · rfl
theorem byP_iff {n : Nat} {ls : List IS} {bs : List Bar} (hf : isFrame n ls) : byP n ls bs = true ↔ CohP n ls bs := by
  have mem : ∀ {p : List Fr} {s : IS}, s ∈ ls → (s ∈ possL p bs ls ↔ barredB p bs s = false) := fun {p s} hs => by
    unfold possL
    rw [List.mem_cons, List.mem_filter]
    have hne := (hf.set s hs).1
    constructor
    · rintro (h | ⟨_, h⟩)
      · exact absurd h hne
      · rwa [Bool.not_eq_true'] at h
    · intro h
      exact .inr ⟨hs, by rw [h]; rfl⟩
  unfold byP CohP
  rw [List.all_eq_true]
  constructor
  · intro h p hp s hs hb t ht
    have h1 := List.all_eq_true.mp (h p hp) s hs
    have htl := (above_iff.mp ht).1
    cases hz : barredB p bs t with
    | true => rfl
    | false =>
      exfalso
      have e1 : decide (s ∈ possL p bs ls) = false := decide_eq_false fun z => by rw [(mem hs).mp z] at hb; cases hb
      have e2 : ((aboveL ls s).any fun t => decide (t ∈ possL p bs ls)) = true := List.any_eq_true.mpr ⟨t, ht, decide_eq_true ((mem htl).mpr hz)⟩
      rw [e1, e2] at h1
      cases h1
  · intro h p hp
    rw [List.all_eq_true]
    intro s hs
    cases hz : decide (s ∈ possL p bs ls) with
    | true => rfl
    | false =>
      have hb : barredB p bs s = true := by
        cases z : barredB p bs s with
        | true => rfl
        | false => rw [decide_eq_true ((mem hs).mpr z)] at hz; cases hz
      have : ((aboveL ls s).any fun t => decide (t ∈ possL p bs ls)) = false := by
        rw [List.any_eq_false]
        intro t ht hh
        have := h p hp s hs hb t ht
        rw [(mem (above_iff.mp ht).1).mp (of_decide_eq_true hh)] at this
        cases this
      rw [this]
      rfl
theorem by_corners_ev {n : Nat} {ls : List IS} {bs : List Bar} (h : Cb n ls bs) : G__law_by_corners [encF (n, ls), encBs bs] w = .ok (.bl (byC ls bs)) w := by
  have h3 := h.h3
  have hl := h.bl
  have hll := h.lots
  have hb := h.bars.1
  have eg0 : gSeq (eVar 1) [.dat (encF (n, ls)), .dat (encBs bs), .non, .non, .non, .non] w = .ok (bs.map encBar) w := rfl
  refine run_rt (check_ret encBar (cornB ls bs) (I := fun en => ∃ s2 s3 s4, en = [.dat (encF (n, ls)), .dat (encBs bs), s2, s3, s4, .non]) eg0 ⟨_, _, _, rfl⟩ fun b hbm en hI => ?_)
  obtain ⟨s2, s3, s4, rfl⟩ := hI
  have hsl := isSet_len (hb b hbm).1
  have ein : (eBin oIn (eVar 2) (eBin oIx (eVar 0) (eC (.int 1)))) [.dat (encF (n, ls)), .dat (encBs bs), .dat (encI b.1), .dat (encC b.2), s4, .non] w = .ok (.bl (decide (b.1 ∈ ls))) w := in_sets' rfl ((bin_ev (w1 := w) rfl rfl).trans rfl)
  refine ⟨[.dat (encF (n, ls)), .dat (encBs bs), .dat (encI b.1), .dat (encC b.2), s4, .non], rfl, ?_⟩
  by_cases hm : b.1 ∈ ls
  · rw [decide_eq_true hm] at ein
    have ecb : cornB ls bs b = (aboveL ls b.1).all (hasB bs b) := if_pos hm
    rw [ecb]
    have e1 := above_ev (w := w) n ls b.1 (by omega) (by omega)
    have hal : (aboveL ls b.1).length ≤ 1000 := Nat.le_trans (List.length_filter_le _ _) (by omega)
    obtain ⟨c1, c2⟩ := for_check (w := w) encI (hasB bs b) (b := bName 4) (body := sIf (eNot (eUn oTru (eCall oAny (aCons (eLc (gSeq (eVar 1)) (bName 5) (eBin oEq (eBin oIx (eVar 5) (eC (.int 0))) (eVar 4)) (eFn 2 G__law_inside (aCons (eVar 3) (aCons (eBin oIx (eVar 5) (eC (.int 1))) aNil))) [5]) aNil)))) (sRet (eC (.bl false))) sPass)
      (I := fun en => ∃ s4, en = [.dat (encF (n, ls)), .dat (encBs bs), .dat (encI b.1), .dat (encC b.2), s4, .non]) (aboveL ls b.1) [.dat (encF (n, ls)), .dat (encBs bs), .dat (encI b.1), .dat (encC b.2), s4, .non] ⟨_, rfl⟩ fun t ht en hI => by
        obtain ⟨s4, rfl⟩ := hI
        have el := eLc_ev (gi := gSeq (eVar 1)) (b := bName 5) (gt := eBin oEq (eBin oIx (eVar 5) (eC (.int 0))) (eVar 4)) (ge := eFn 2 G__law_inside (aCons (eVar 3) (aCons (eBin oIx (eVar 5) (eC (.int 1))) aNil))) (vs := [5]) (en := [.dat (encF (n, ls)), .dat (encBs bs), .dat (encI b.1), .dat (encC b.2), .dat (encI t), .non]) (w := w) encBar (fun d => decide (d.1 = t)) (fun d => .bl (insB b.2 d.2)) bs rfl (szL (by omega)) fun d hd => ⟨[.dat (encF (n, ls)), .dat (encBs bs), .dat (encI b.1), .dat (encC b.2), .dat (encI t), .dat (encBar d)], rfl,
          (bin_ev (w1 := w) (d := encI d.1) (e := encI t) ((bin_ev (w1 := w) rfl rfl).trans rfl) rfl).trans (oEq_ev (w := w) eqs_set d.1 t (shp_set _) (shp_set _)),
          fun _ => (efn_ev (ds := [encC b.2, encC d.2]) (w1 := w) (cons_ev (w1 := w) rfl (one_ev ((bin_ev (w1 := w) rfl rfl).trans rfl))) rfl).trans (inside_ev (n := n) (by omega) (hb b hbm).2.1 (hb d hd).2.1)⟩
        have ea : eCall oAny (aCons (eLc (gSeq (eVar 1)) (bName 5) (eBin oEq (eBin oIx (eVar 5) (eC (.int 0))) (eVar 4)) (eFn 2 G__law_inside (aCons (eVar 3) (aCons (eBin oIx (eVar 5) (eC (.int 1))) aNil))) [5]) aNil) [.dat (encF (n, ls)), .dat (encBs bs), .dat (encI b.1), .dat (encC b.2), .dat (encI t), .non] w = .ok (.bl (hasB bs b t)) w := by
          unfold hasB
          simp [eCall, aCons, aNil, AR.cons, el, oAny, oAny1, allBls_map, List.any_map, Function.comp_def]
        have ec := not_ev (tru_ev ea)
        refine ⟨_, rfl, fun hc => ?_, fun hc => ?_⟩
        · rw [hc] at ec
          exact ⟨_, (ifF ec).trans rfl, _, rfl⟩
        · rw [hc] at ec
          exact (ifT ec).trans rfl
    have eg : gSeq (eFn 2 G__law_above (aCons (eVar 0) (aCons (eVar 2) aNil))) [.dat (encF (n, ls)), .dat (encBs bs), .dat (encI b.1), .dat (encC b.2), s4, .non] w = .ok ((aboveL ls b.1).map encI) w := seq_lst ((efn_ev (ds := [encF (n, ls), encI b.1]) (w1 := w) rfl rfl).trans e1)
    refine ⟨fun hc => ?_, fun hc => (ifT ein).trans ((for_ev eg).trans (c2 hc))⟩
    obtain ⟨en', e, s4', rfl⟩ := c1 hc
    exact ⟨_, (ifT ein).trans ((for_ev eg).trans e), _, _, _, rfl⟩
  · rw [decide_eq_false hm] at ein
    have ecb : cornB ls bs b = true := if_neg hm
    rw [ecb]
    exact ⟨fun _ => ⟨_, (ifF ein).trans rfl, _, _, _, rfl⟩, fun hc => by cases hc⟩
theorem inL_ev {en : List Sl} {ga gb : EG} {s : IS} {ps : List IS} (h1 : ga en w = .ok (encI s) w) (h2 : gb en w = .ok (.lst (ps.map encI)) w) : eBin oIn ga gb en w = .ok (.bl (decide (s ∈ ps))) w :=
  (bin_ev h1 h2).trans (oInL_ev (w := w) eqs_set s ps shp_set)
theorem notinL_ev {en : List Sl} {ga gb : EG} {s : IS} {ps : List IS} (h1 : ga en w = .ok (encI s) w) (h2 : gb en w = .ok (.lst (ps.map encI)) w) : eBin oNotIn ga gb en w = .ok (.bl (!decide (s ∈ ps))) w :=
  (bin_ev h1 h2).trans (oNotInL_ev (w := w) eqs_set s ps shp_set)
theorem cell_nums {n : Nat} {bs : List Bar} (hb : ∀ b ∈ bs, isBar 96 n b) {p : List Fr} (hp : p ∈ cellsL ((List.range n).map (edgesL bs))) : isNums 96 n p := by
  have hc := mem_cells.mp hp
  refine ⟨by rw [hc.len, List.length_map, List.length_range], inC_all hc fun j hj q hq => ?_⟩
  rcases (edges_mem j bs [(1, 1)] q).mp hq with z | z
  · rw [List.mem_singleton.mp z]
    exact num1'
  · exact lims_num hb j (List.mem_range.mp hj) q z
theorem by_cells_ev {n : Nat} {ls : List IS} {bs : List Bar} (h : Cb n ls bs) : G__law_by_cells [encF (n, ls), encBs bs] w = .ok (.bl (byP n ls bs)) w := by
  have h1 := h.h1
  have h3 := h.h3
  have hl := h.bl
  have hll := h.lots
  have hb := h.bars.1
  have hpow : (bs.length + 1) ^ n ≤ 100000 := by
    have a : (bs.length + 1) ^ n ≤ 41 ^ n := Nat.pow_le_pow_left (by omega) n
    have b : 41 ^ n ≤ 41 ^ 3 := Nat.pow_le_pow_right (by decide) h3
    have : 41 ^ 3 ≤ 100000 := by decide
    omega
  have ecl := bar_cells_ev (w := w) (n := n) (by omega) hb h.bars.2.1 (k := bs.length + 1) (Nat.le_refl _) hpow
  have eg : gSeq (eFn 2 G__law_bar_cells (aCons (eBin oIx (eVar 0) (eC (.int 0))) (aCons (eVar 1) aNil))) [.dat (encF (n, ls)), .dat (encBs bs), .non, .non, .non, .non] w = .ok ((cellsL ((List.range n).map (edgesL bs))).map encN) w := seq_lst ((efn_ev (ds := [.int n, encBs bs]) (w1 := w) (cons_ev (w1 := w) ((bin_ev (w1 := w) rfl rfl).trans rfl) rfl) rfl).trans ecl)
  refine run_rt (check_ret encN (fun p => ls.all fun s => !(!decide (s ∈ possL p bs ls) && (aboveL ls s).any fun t => decide (t ∈ possL p bs ls))) (I := fun en => ∃ s2 s3 s4, en = [.dat (encF (n, ls)), .dat (encBs bs), s2, s3, s4, .non]) eg ⟨_, _, _, rfl⟩ fun p hp en hI => ?_)
  obtain ⟨s2, s3, s4, rfl⟩ := hI
  have hpn := cell_nums hb hp
  have e1 := LW.possible_ev (w := w) (ls := ls) hpn (by omega) (by omega) hb (by omega) (by omega)
  generalize possL p bs ls = ps at e1
  obtain ⟨c1, c2⟩ := for_check (w := w) encI (fun s => !(!decide (s ∈ ps) && (aboveL ls s).any fun t => decide (t ∈ ps))) (b := bName 4) (body := sIf (eAnd (eBin oNotIn (eVar 4) (eVar 3)) (eUn oTru (eCall oAny (aCons (eLc (gSeq (eFn 2 G__law_above (aCons (eVar 0) (aCons (eVar 4) aNil)))) (bName 5) eYes (eBin oIn (eVar 5) (eVar 3)) [5]) aNil)))) (sRet (eC (.bl false))) sPass)
    (I := fun en => ∃ s4, en = [.dat (encF (n, ls)), .dat (encBs bs), .dat (encN p), .dat (.lst (ps.map encI)), s4, .non]) ls [.dat (encF (n, ls)), .dat (encBs bs), .dat (encN p), .dat (.lst (ps.map encI)), s4, .non] ⟨_, rfl⟩ fun s hs en hI => by
      obtain ⟨s4, rfl⟩ := hI
      have hsl := isSet_len (h.fr.set s hs)
      have e2 := above_ev (w := w) n ls s (by omega) (by omega)
      have hal : (aboveL ls s).length ≤ 1000 := Nat.le_trans (List.length_filter_le _ _) (by omega)
      have ea := any_ev (gi := gSeq (eFn 2 G__law_above (aCons (eVar 0) (aCons (eVar 4) aNil)))) (b := bName 5) (ge := eBin oIn (eVar 5) (eVar 3)) (vs := [5]) (en := [.dat (encF (n, ls)), .dat (encBs bs), .dat (encN p), .dat (.lst (ps.map encI)), .dat (encI s), .non]) (w := w) encI (fun t => decide (t ∈ ps)) (aboveL ls s) (seq_lst ((efn_ev (ds := [encF (n, ls), encI s]) (w1 := w) rfl rfl).trans e2)) (szL hal) fun t ht => ⟨[.dat (encF (n, ls)), .dat (encBs bs), .dat (encN p), .dat (.lst (ps.map encI)), .dat (encI s), .dat (encI t)], rfl, inL_ev rfl rfl⟩
      have ec := and_ev (notinL_ev (w := w) (s := s) (ps := ps) (ga := eVar 4) (gb := eVar 3) (en := [.dat (encF (n, ls)), .dat (encBs bs), .dat (encN p), .dat (.lst (ps.map encI)), .dat (encI s), .non]) rfl rfl) (tru_ev ea)
      refine ⟨_, rfl, fun hc => ?_, fun hc => ?_⟩
      · rw [Bool.not_eq_true'] at hc
        rw [hc] at ec
        exact ⟨_, (ifF ec).trans rfl, _, rfl⟩
      · rw [Bool.not_eq_false'] at hc
        rw [hc] at ec
        exact (ifT ec).trans rfl
  refine ⟨_, rfl, fun hc => ?_, fun hc => (set_seq (w1 := w) ((efn_ev (ds := [encF (n, ls), encBs bs, encN p]) (w1 := w) rfl rfl).trans e1)).trans ((for_ev (ds := ls.map encI) (w1 := w) rfl).trans (c2 hc))⟩
  obtain ⟨en', e, s4', rfl⟩ := c1 hc
  exact ⟨_, (set_seq (w1 := w) ((efn_ev (ds := [encF (n, ls), encBs bs, encN p]) (w1 := w) rfl rfl).trans e1)).trans ((for_ev (ds := ls.map encI) (w1 := w) rfl).trans e), _, _, _, rfl⟩
end
end K22

namespace K22
open PySem PySem.Spec L2 DL PF LW CL
open PyProof.Rows hiding St
theorem cut_drop1 (ds : List D) : DL.cutD ds (some 1) none = ds.drop 1 := by
  cases ds with
  | nil => rfl
  | cons d ds =>
    have h : DL.cutD (d :: ds) (some ((1 : Nat) : Int)) none = (d :: ds).drop 1 := by
      unfold DL.cutD
      rw [HT.sIx_none, HT.sIx_nat, Nat.min_eq_left (by simp)]
      exact List.take_of_length_le (by rw [List.length_drop]; exact Nat.le_refl _)
    exact h
theorem areB_sub {n : Nat} {bs cs : List Bar} (h : areBars 96 n bs) (hs : cs.Sublist bs) : areBars 96 n cs := ⟨fun b hb => h.1 b (hs.subset hb), Nat.le_trans hs.length_le h.2.1, fun k => Nat.le_trans (by
  unfold cntB
  exact (hs.filter _).length_le) (h.2.2 k)⟩
theorem Cb.sub {n : Nat} {ls : List IS} {bs cs : List Bar} (h : Cb n ls bs) (hs : cs.Sublist bs) : Cb n ls cs := ⟨h.h1, h.h3, h.fr, areB_sub h.bars hs, Nat.le_trans hs.length_le h.bl⟩
theorem coh_at {w : Wl} {n : Nat} {ls : List IS} {bs : List Bar} (h : Cb n ls bs) : ∃ x : Bool, G_is_coherent [encF (n, ls), encBs bs] w = .ok (.bl x) w ∧ byC ls bs = x ∧ byP n ls bs = x := by
  classical
  refine ⟨decide (CohR ls bs), ?_, ?_, ?_⟩
  · rw [is_coherent_ev h]
  · rw [Bool.eq_iff_iff, byC_iff, decide_eq_true_iff, coh_RC]
  · rw [Bool.eq_iff_iff, byP_iff h.fr, decide_eq_true_iff, coh_RC, coh_CP h.bars.1]
/-! ### corners told for the lots above -/
def extB (ls : List IS) (b : Bar) : List Bar := (aboveL ls b.1).map fun t => (t, b.2)
def extL (ls : List IS) (bs : List Bar) : List Bar := bs ++ bs.flatMap (extB ls)
theorem above_len {n : Nat} {ls : List IS} (h1 : 1 ≤ n) (h3 : n ≤ 3) (hf : isFrame n ls) (s : IS) : (aboveL ls s).length ≤ 7 := by
  have a := hf.2.length_le
  have b : (aboveL ls s).length ≤ ls.length := List.length_filter_le _ _
  have : (ssets n).length ≤ 7 := by
    have : n = 1 ∨ n = 2 ∨ n = 3 := by omega
    rcases this with rfl | rfl | rfl <;> decide
  omega
theorem ext_len {n : Nat} {ls : List IS} (h1 : 1 ≤ n) (h3 : n ≤ 3) (hf : isFrame n ls) : ∀ bs : List Bar, (bs.flatMap (extB ls)).length ≤ bs.length * 7
  | [] => by simp
  | b :: bs => by
    rw [List.flatMap_cons, List.length_append, List.length_cons, Nat.add_mul, Nat.one_mul]
    have a := ext_len h1 h3 hf bs
    have c : (extB ls b).length ≤ 7 := by unfold extB; rw [List.length_map]; exact above_len h1 h3 hf b.1
    omega
theorem ext_ok {n : Nat} {ls : List IS} {bs : List Bar} (h : Cb n ls bs) (hl : bs.length ≤ 4) : Cb n ls (extL ls bs) := by
  have hx := ext_len h.h1 h.h3 h.fr bs
  have hlen : (extL ls bs).length ≤ 32 := by unfold extL; rw [List.length_append]; omega
  refine ⟨h.h1, h.h3, h.fr, ⟨fun b hb => ?_, by omega, fun k => Nat.le_trans (cntB_le _ k) (by omega)⟩, by omega⟩
  unfold extL at hb
  rcases List.mem_append.mp hb with z | z
  · exact h.bars.1 b z
  · obtain ⟨b0, h0, hm⟩ := List.mem_flatMap.mp z
    obtain ⟨t, ht, rfl⟩ := List.mem_map.mp hm
    obtain ⟨t1, t2, t3⟩ := above_iff.mp ht
    have hb0 := h.bars.1 b0 h0
    refine ⟨h.fr.set t t1, hb0.2.1, fun j q hq => ?_⟩
    have := List.all_eq_true.mp t3 _ (hb0.2.2 j q hq)
    exact of_decide_eq_true this
theorem ext_coh {n : Nat} {ls : List IS} {bs : List Bar} (h : Cb n ls bs) : CohC ls (extL ls bs) := by
  intro b hb hl t ht
  obtain ⟨t1, t2, t3⟩ := above_iff.mp ht
  unfold extL at hb
  rcases List.mem_append.mp hb with z | z
  · refine ⟨(t, b.2), ?_, rfl, ins_refl _⟩
    exact List.mem_append_right _ (List.mem_flatMap.mpr ⟨b, z, List.mem_map.mpr ⟨t, ht, rfl⟩⟩)
  · obtain ⟨b0, h0, hm⟩ := List.mem_flatMap.mp z
    obtain ⟨u, hu, rfl⟩ := List.mem_map.mp hm
    obtain ⟨u1, u2, u3⟩ := above_iff.mp hu
    refine ⟨(t, b0.2), List.mem_append_right _ (List.mem_flatMap.mpr ⟨b0, h0, List.mem_map.mpr ⟨t, above_iff.mpr ⟨t1, ?_, ?_⟩, rfl⟩⟩), rfl, ins_refl _⟩
    · intro e
      apply u2
      have s0 := (h.bars.1 b0 h0).1
      have su := h.fr.set u u1
      have a := asc_sub s0.2.1 su.2.1 fun i hi => of_decide_eq_true (List.all_eq_true.mp u3 i hi)
      have c := asc_sub su.2.1 s0.2.1 fun i hi => by
        have := List.all_eq_true.mp t3 i hi
        rw [← e]
        exact of_decide_eq_true this
      exact c.eq_of_length_le a.length_le
    · refine List.all_eq_true.mpr fun i hi => ?_
      have a := of_decide_eq_true (List.all_eq_true.mp u3 i hi)
      exact List.all_eq_true.mp t3 i a
section
variable {w : Wl}
def bodyX : SG := (sSet 5 (eBin oAdd (eVar 5) (eCall oTup (aCons (eLc (gSeq (eFn 2 G__law_above (aCons (eVar 3) (aCons (eVar 6) aNil)))) (bName 8) eYes (eTup (aCons (eVar 8) (aCons (eVar 7) aNil))) [8]) aNil))))
theorem extLoop {n : Nat} {ls : List IS} (h1 : 1 ≤ n) (h3 : n ≤ 3) (hf : isFrame n ls) (d1 d2 d4 : D) : ∀ (bs acc : List Bar) (s6 s7 : Sl), (∀ b ∈ bs, isBar 96 n b) → acc.length + bs.length * 7 ≤ 1000 →
    ∃ s6' s7', forG (bTupN 2 (bCons (bName 6) (bCons (bName 7) bNil))) bodyX (bs.map encBar) [.dat .well, .dat d1, .dat d2, .dat (encF (n, ls)), .dat d4, .dat (encBs acc), s6, s7, .non, .non, .non, .non] w = .nx [.dat .well, .dat d1, .dat d2, .dat (encF (n, ls)), .dat d4, .dat (encBs (acc ++ bs.flatMap (extB ls))), s6', s7', .non, .non, .non, .non] w
  | [], acc, s6, s7, _, _ => ⟨s6, s7, by rw [List.flatMap_nil, List.append_nil]; rfl⟩
  | b :: bs, acc, s6, s7, hb, hl => by
    rw [List.length_cons] at hl
    have hal := above_len h1 h3 hf b.1
    have hsl := isSet_len (hb b List.mem_cons_self).1
    have hll := hf.len (show n ≤ 5 by omega)
    have e1 := above_ev (w := w) n ls b.1 (by omega) (by omega)
    have e2 : (eLc (gSeq (eFn 2 G__law_above (aCons (eVar 3) (aCons (eVar 6) aNil)))) (bName 8) eYes (eTup (aCons (eVar 8) (aCons (eVar 7) aNil))) [8]) [.dat .well, .dat d1, .dat d2, .dat (encF (n, ls)), .dat d4, .dat (encBs acc), .dat (encI b.1), .dat (encC b.2), .non, .non, .non, .non] w = .ok (.lst ((extB ls b).map encBar)) w := by
      refine (eLcY_ev encI (fun t => encBar (t, b.2)) (aboveL ls b.1) (seq_lst ((efn_ev (ds := [encF (n, ls), encI b.1]) (w1 := w) rfl rfl).trans e1)) (szL (by omega)) fun t _ => ⟨[.dat .well, .dat d1, .dat d2, .dat (encF (n, ls)), .dat d4, .dat (encBs acc), .dat (encI b.1), .dat (encC b.2), .dat (encI t), .non, .non, .non], rfl, etup_ev (cons_ev (w1 := w) rfl (one_ev rfl)) (show 2 ≤ sizeLine by decide)⟩).trans ?_
      unfold extB
      rw [List.map_map]
      rfl
    have hxl : (extB ls b).length ≤ 7 := by unfold extB; rw [List.length_map]; exact hal
    have e3 : bodyX [.dat .well, .dat d1, .dat d2, .dat (encF (n, ls)), .dat d4, .dat (encBs acc), .dat (encI b.1), .dat (encC b.2), .non, .non, .non, .non] w = .nx [.dat .well, .dat d1, .dat d2, .dat (encF (n, ls)), .dat d4, .dat (encBs (acc ++ extB ls b)), .dat (encI b.1), .dat (encC b.2), .non, .non, .non, .non] w := by
      refine set_ev ((addT_ev (w1 := w) (w2 := w) (xs := acc.map encBar) (ys := (extB ls b).map encBar) rfl (tup_ev e2) (szL (by rw [List.length_map, List.length_map]; omega))).trans ?_)
      rw [← List.map_append]
      rfl
    obtain ⟨s6', s7', e4⟩ := extLoop h1 h3 hf d1 d2 d4 bs (acc ++ extB ls b) (.dat (encI b.1)) (.dat (encC b.2)) (fun x hx => hb x (List.mem_cons_of_mem _ hx)) (by rw [List.length_append]; omega)
    refine ⟨s6', s7', (for_cons (b := bTupN 2 (bCons (bName 6) (bCons (bName 7) bNil))) (d := encBar b) rfl e3).trans (e4.trans ?_)⟩
    rw [List.flatMap_cons, List.append_assoc]
def tailR : SG := (sSeq (sPar 9 10 (aCons (eSl (eVar 5) (pSome (eC (.int 1))) pNone) (aCons (eIf (eUn oTru (eVar 4)) (eLst (aCons (eC (.bl true)) aNil)) (eLst (aCons (eFn 2 G__law_by_cells (aCons (eVar 3) (aCons (eVar 5) aNil))) aNil))) aNil)))
  (sSeq (sSet 11 (eLst (aCons (eFn 2 G_is_coherent (aCons (eVar 3) (aCons (eVar 5) aNil))) (aCons (eFnK 0 2 [1, 0] G_is_coherent aNil (aCons (eVar 5) (aCons (eVar 3) aNil))) aNil))))
  (sSeq (sSet 11 (eBin oAdd (eVar 11) (eLst (aCons (eFn 2 G_is_coherent (aCons (eVar 3) (aCons (eVar 9) aNil))) (aCons (eFn 2 G_is_coherent (aCons (eVar 3) (aCons (eTup aNil) aNil))) aNil)))))
  (sSeq (sSet 10 (eBin oAdd (eVar 10) (eLst (aCons (eFn 2 G__law_by_corners (aCons (eVar 3) (aCons (eVar 5) aNil))) (aCons (eFn 2 G__law_by_cells (aCons (eVar 3) (aCons (eVar 9) aNil))) (aCons (eC (.bl true)) aNil))))))
  (sRet (eBin oEq (eCall oRepr (aCons (eVar 11) aNil)) (eCall oRepr (aCons (eVar 10) aNil))))))))
theorem tail_ok {n : Nat} {ls : List IS} {bs : List Bar} (h : Cb n ls bs) (told : Bool) (ht : told = true → CohC ls bs) (d1 d2 : D) (s6 s7 : Sl) : tailR [.dat .well, .dat d1, .dat d2, .dat (encF (n, ls)), .dat (.bl told), .dat (encBs bs), s6, s7, .non, .non, .non, .non] w = .rt (.bl true) w := by
  have hl := h.sub (List.drop_sublist 1 bs)
  have h0 := h.sub (List.nil_sublist bs)
  obtain ⟨x, x1, x2, x3⟩ := coh_at (w := w) h
  obtain ⟨y, y1, y2, y3⟩ := coh_at (w := w) hl
  obtain ⟨z, z1, z2, z3⟩ := coh_at (w := w) h0
  have hz : z = true := z2.symm
  subst hz
  have p1 := by_cells_ev (w := w) h
  rw [x3] at p1
  have p2 := by_cells_ev (w := w) hl
  rw [y3] at p2
  have p3 := by_corners_ev (w := w) h
  rw [x2] at p3
  have edr : ∀ (en : List Sl), en[5]? = some (.dat (encBs bs)) → eSl (eVar 5) (pSome (eC (.int 1))) pNone en w = .ok (encBs (bs.drop 1)) w := fun en he => by
    have v : eVar 5 en w = .ok (encBs bs) w := by unfold eVar; simp only [he]
    unfold eSl pNone pSome
    simp only [v, eC, Res.bind, encBs]
    rw [cut_drop1, List.map_drop]
  have eif : (eIf (eUn oTru (eVar 4)) (eLst (aCons (eC (.bl true)) aNil)) (eLst (aCons (eFn 2 G__law_by_cells (aCons (eVar 3) (aCons (eVar 5) aNil))) aNil))) [.dat .well, .dat d1, .dat d2, .dat (encF (n, ls)), .dat (.bl told), .dat (encBs bs), s6, s7, .non, .non, .non, .non] w = .ok (.lst [.bl x]) w := by
    cases told with
    | true =>
      have hx : x = true := by rw [← x2]; exact byC_iff.mpr (ht rfl)
      rw [hx]
      exact (if_T (w1 := w) rfl).trans (elst_ev (one_ev rfl) (show 1 ≤ sizeLine by decide))
    | false => exact (if_F (w1 := w) rfl).trans (elst_ev (one_ev ((efn_ev (ds := [encF (n, ls), encBs bs]) (w1 := w) rfl rfl).trans p1)) (show 1 ≤ sizeLine by decide))
  refine (par_seq (w1 := w) (d := encBs (bs.drop 1)) (e := .lst [.bl x]) (cons_ev (w1 := w) (edr _ rfl) (one_ev eif))).trans ?_
  refine (set_seq (w1 := w) (d := .lst [.bl x, .bl x]) (elst_ev (cons_ev (w1 := w) ((efn_ev (ds := [encF (n, ls), encBs bs]) (w1 := w) rfl rfl).trans x1) (one_ev ((efnk_ev (ds := []) (es := [encBs bs, encF (n, ls)]) (zs := [encF (n, ls), encBs bs]) (w1 := w) (w2 := w) rfl rfl rfl rfl rfl rfl).trans x1))) (show 2 ≤ sizeLine by decide))).trans ?_
  refine (set_seq (w1 := w) (d := .lst [.bl x, .bl x, .bl y, .bl true]) ?_).trans ?_
  · exact (addL_ev (w1 := w) (w2 := w) (xs := [.bl x, .bl x]) (ys := [.bl y, .bl true]) rfl (elst_ev (cons_ev (w1 := w) ((efn_ev (ds := [encF (n, ls), encBs (bs.drop 1)]) (w1 := w) rfl rfl).trans y1) (one_ev ((efn_ev (ds := [encF (n, ls), encBs []]) (w1 := w) (cons_ev (w1 := w) rfl (one_ev rfl)) rfl).trans z1))) (show 2 ≤ sizeLine by decide)) (show 4 ≤ sizeLine by decide)).trans rfl
  refine (set_seq (w1 := w) (d := .lst [.bl x, .bl x, .bl y, .bl true]) ?_).trans (ret_ev ?_)
  · exact (addL_ev (w1 := w) (w2 := w) (xs := [.bl x]) (ys := [.bl x, .bl y, .bl true]) rfl (elst_ev (cons_ev (w1 := w) ((efn_ev (ds := [encF (n, ls), encBs bs]) (w1 := w) rfl rfl).trans p3) (cons_ev (w1 := w) ((efn_ev (ds := [encF (n, ls), encBs (bs.drop 1)]) (w1 := w) rfl rfl).trans p2) (one_ev rfl))) (show 3 ≤ sizeLine by decide)) (show 4 ≤ sizeLine by decide)).trans rfl
  · refine reprEq_ev (w1 := w) (w2 := w) (d := .lst [.bl x, .bl x, .bl y, .bl true]) (k := 1) (b := 100) ((shw_lst (k := 0) (b := 5) fun d hd => ?_).mono (Nat.le_refl _) (by simp)) rfl rfl
    simp only [List.mem_cons, List.not_mem_nil, or_false] at hd
    rcases hd with rfl | rfl | rfl | rfl <;> exact shw_bl _ 0
end
theorem right_ok (w : Wl) (h : Wk (10 ^ 8) w) : ∃ w', G__law_right [.well] w = .ok (.bl true) w' := by
  obtain ⟨d, w1, e1, d0, d3, k1⟩ := take (k := 5000) (m := 3) (h.mono (by omega)) (by omega) (by omega)
  obtain ⟨n, hn⟩ : ∃ n : Nat, (n : Int) = 1 + d := ⟨(1 + d).toNat, by omega⟩
  have n1 : 1 ≤ n := by omega
  have n3 : n ≤ 3 := by omega
  obtain ⟨b, t, w2, e2, hg, k2⟩ := grain_ev (k := 4900) (k1.mono (by omega))
  obtain ⟨ls, w3, e3, hf, k3⟩ := frame_ev (k := 4800) n n1 (by omega) (k2.mono (by omega))
  obtain ⟨q, w4, e4, q0, q1, k4⟩ := take (k := 4700) (m := 2) (k3.mono (by omega)) (by omega) (by omega)
  obtain ⟨m0, w5, e5, p0, p1, k5⟩ := take (k := 4600) (m := 5) (k4.mono (by omega)) (by omega) (by omega)
  obtain ⟨m, rfl⟩ : ∃ m : Nat, m0 = m := ⟨m0.toNat, by omega⟩
  obtain ⟨bs, w6, e6, hb, bl, k6⟩ := bars_ev (k := 200) hg n n1 (by omega) ls hf m (by omega) (k5.mono (by omega))
  have cb : Cb n ls bs := ⟨n1, n3, hf, bars_mono hb, by omega⟩
  have hpre : ∀ o, (sSeq (sIf (eUn oTru (eVar 4)) (sFor (gSeq (eCall oLst (aCons (eVar 5) aNil))) (bTupN 2 (bCons (bName 6) (bCons (bName 7) bNil))) bodyX) sPass) tailR) [.dat .well, .dat (.int n), .dat (encG b t), .dat (encF (n, ls)), .dat (.bl (decide (q = 0))), .dat (encBs bs), .non, .non, .non, .non, .non, .non] w6 = o →
      G__law_right [.well] w = (match o with
        | .rt d w1 => .ok d w1
        | .nx _ w1 => .ok .non w1
        | .ex c fn a _ w1 => .ex c fn a w1
        | _ => .bad) := fun o ho => by
    rw [← ho]
    have : g__law_right ([D.well].map .dat ++ List.replicate 11 .non) w = (sSeq (sIf (eUn oTru (eVar 4)) (sFor (gSeq (eCall oLst (aCons (eVar 5) aNil))) (bTupN 2 (bCons (bName 6) (bCons (bName 7) bNil))) bodyX) sPass) tailR) [.dat .well, .dat (.int n), .dat (encG b t), .dat (encF (n, ls)), .dat (.bl (decide (q = 0))), .dat (encBs bs), .non, .non, .non, .non, .non, .non] w6 := by
      refine (par_seq (w1 := w2) (d := .int n) (e := encG b t) (cons_ev (w1 := w1) ?_ (one_ev ((efn_ev (ds := [.well]) rfl rfl).trans e2)))).trans ?_
      · exact (add_ev (w1 := w) (w2 := w1) (i := 1) (j := d) rfl ((efn_ev (ds := [.well, .int 3]) (w1 := w) rfl rfl).trans e1)).trans (by rw [hn])
      refine (par_seq (w1 := w4) (d := encF (n, ls)) (e := .bl (decide (q = 0))) (cons_ev (w1 := w3) ((efn_ev (ds := [.well, .int n]) rfl rfl).trans e3) (one_ev (eqi_ev (w1 := w4) (w2 := w4) ((efn_ev (ds := [.well, .int 2]) (w1 := w3) rfl rfl).trans e4) rfl)))).trans ?_
      exact set_seq (w1 := w6) (d := encBs bs) ((efn_ev (ds := [.well, encF (n, ls), encG b t, .int m]) (w1 := w5) (cons_ev rfl (cons_ev rfl (cons_ev rfl (one_ev ((efn_ev (ds := [.well, .int 5]) (w1 := w4) rfl rfl).trans e5))))) rfl).trans e6)
    show (match g__law_right ([D.well].map .dat ++ List.replicate 11 .non) w with
      | .rt d w1 => Res.ok d w1
      | .nx _ w1 => .ok .non w1
      | .ex c fn a _ w1 => .ex c fn a w1
      | _ => .bad) = _
    rw [this]
  refine ⟨w6, ?_⟩
  by_cases hq : q = 0
  · obtain ⟨s6, s7, ex⟩ := extLoop (w := w6) n1 n3 hf (.int n) (encG b t) (.bl (decide (q = 0))) bs bs .non .non cb.bars.1 (by omega)
    have ht := tail_ok (w := w6) (ext_ok cb (by omega)) (decide (q = 0)) (fun _ => ext_coh cb) (.int n) (encG b t) s6 s7
    exact hpre (.rt (.bl true) w6) ((seq_nx ((ifT (w1 := w6) (by rw [decide_eq_true hq]; rfl)).trans ((for_ev (ds := bs.map encBar) (w1 := w6) rfl).trans ex))).trans ht)
  · have ht := tail_ok (w := w6) cb (decide (q = 0)) (fun z => absurd (of_decide_eq_true z) hq) (.int n) (encG b t) .non .non
    exact hpre (.rt (.bl true) w6) ((ifF_seq (w1 := w6) (by rw [decide_eq_false hq]; rfl)).trans ht)
theorem law_true (ns : List Int) (hl : ns.length ≤ 63) (hb : ∀ z ∈ ns, Builtin.Int.intBits z ≤ 1048576) : ∃ w1, G_law [.scr ns] [] = .ok (.bl true) w1 := by
  obtain ⟨n, hg, h0, h1⟩ := many_ok ns 3 [] (by omega) (by omega)
  exact ⟨[], lawG_ok (c0 := 91009) (GR := G__law_right) (GW := G__law_well) (fun ds w h => rfl) (by omega) (by omega) right_ok ns [] hg h0 h1⟩
end K22

namespace K22
open PySem PySem.Spec L2 DL PF LW
open PyProof.Rows hiding St
variable {P : Program} {w : World} {K : Kt} {mg : Str → Option Value} {base : Heap}
theorem txt_of {K : PySem.W.Frag} {h : Heap} {mg : Str → Option Value} {TT : List (Addr × Str)} {base : Heap} (X : K.In h) (G : h.Ns mainGlobals mg) (c : He.SaysD fas dfs K) (ci : ims.all (impOk K) = true) (ck : cns.all (conOk K) = true) (l_in_order : ∀ fd, FunD K "in_order" "in_order" (defArgs s_in_order) (defBody s_in_order) (defScope s_in_order) [] [] (He.ga K "in_order") fd → LTab TT mg base fd ((("in_order" : Str) ++ ".<locals>.") ++ "<lambda>")) : Txt K TT mg base where
  f__law_take := c.def_ 0 rfl
  g__law_take := He.glo_ok X G (c.fact 0 rfl)
  f__law_of := c.def_ 1 rfl
  g__law_of := He.glo_ok X G (c.fact 1 rfl)
  f__law_sets := c.def_ 2 rfl
  g__law_sets := He.glo_ok X G (c.fact 2 rfl)
  f__law_low := c.def_ 3 rfl
  g__law_low := He.glo_ok X G (c.fact 3 rfl)
  f__law_number := c.def_ 4 rfl
  g__law_number := He.glo_ok X G (c.fact 4 rfl)
  f__law_corner := c.def_ 5 rfl
  g__law_corner := He.glo_ok X G (c.fact 5 rfl)
  f__law_above := c.def_ 6 rfl
  g__law_above := He.glo_ok X G (c.fact 6 rfl)
  f__law_bars := c.def_ 7 rfl
  g__law_bars := He.glo_ok X G (c.fact 7 rfl)
  f__law_grain := c.def_ 8 rfl
  g__law_grain := He.glo_ok X G (c.fact 8 rfl)
  f__law_frame := c.def_ 9 rfl
  g__law_frame := He.glo_ok X G (c.fact 9 rfl)
  f_is_row := c.def_ 10 rfl
  g_is_row := He.glo_ok X G (c.fact 10 rfl)
  f_is_ascending := c.def_ 11 rfl
  g_is_ascending := He.glo_ok X G (c.fact 11 rfl)
  f_is_whole := c.def_ 12 rfl
  g_is_whole := He.glo_ok X G (c.fact 12 rfl)
  f_is_count := c.def_ 13 rfl
  g_is_count := He.glo_ok X G (c.fact 13 rfl)
  f_is_index := c.def_ 14 rfl
  g_is_index := He.glo_ok X G (c.fact 14 rfl)
  f_is_set := c.def_ 15 rfl
  g_is_set := He.glo_ok X G (c.fact 15 rfl)
  f_is_frame := c.def_ 16 rfl
  g_is_frame := He.glo_ok X G (c.fact 16 rfl)
  f_check_frame := c.def_ 17 rfl
  g_check_frame := He.glo_ok X G (c.fact 17 rfl)
  f_is_fraction := c.def_ 18 rfl
  g_is_fraction := He.glo_ok X G (c.fact 18 rfl)
  f_is_number := c.def_ 19 rfl
  g_is_number := He.glo_ok X G (c.fact 19 rfl)
  f_is_limit := c.def_ 20 rfl
  g_is_limit := He.glo_ok X G (c.fact 20 rfl)
  f_is_corner := c.def_ 21 rfl
  g_is_corner := He.glo_ok X G (c.fact 21 rfl)
  f_is_bar := c.def_ 22 rfl
  g_is_bar := He.glo_ok X G (c.fact 22 rfl)
  f_first_wrong_bar := c.def_ 23 rfl
  g_first_wrong_bar := He.glo_ok X G (c.fact 23 rfl)
  f_check_bars := c.def_ 24 rfl
  g_check_bars := He.glo_ok X G (c.fact 24 rfl)
  f_ranked := c.def_ 25 rfl
  g_ranked := He.glo_ok X G (c.fact 25 rfl)
  f_in_order := c.def_ 26 rfl
  g_in_order := He.glo_ok X G (c.fact 26 rfl)
  l_in_order := l_in_order
  f_unlike_limits := c.def_ 27 rfl
  g_unlike_limits := He.glo_ok X G (c.fact 27 rfl)
  f_is_part := c.def_ 28 rfl
  g_is_part := He.glo_ok X G (c.fact 28 rfl)
  f_highest_within := c.def_ 29 rfl
  g_highest_within := He.glo_ok X G (c.fact 29 rfl)
  f_is_under := c.def_ 30 rfl
  g_is_under := He.glo_ok X G (c.fact 30 rfl)
  f_first_split := c.def_ 31 rfl
  g_first_split := He.glo_ok X G (c.fact 31 rfl)
  f_is_coherent := c.def_ 32 rfl
  g_is_coherent := He.glo_ok X G (c.fact 32 rfl)
  f__law_at_most := c.def_ 33 rfl
  g__law_at_most := He.glo_ok X G (c.fact 33 rfl)
  f__law_inside := c.def_ 34 rfl
  g__law_inside := He.glo_ok X G (c.fact 34 rfl)
  f__law_by_corners := c.def_ 35 rfl
  g__law_by_corners := He.glo_ok X G (c.fact 35 rfl)
  f__law_bar_cells := c.def_ 36 rfl
  g__law_bar_cells := He.glo_ok X G (c.fact 36 rfl)
  f__law_within := c.def_ 37 rfl
  g__law_within := He.glo_ok X G (c.fact 37 rfl)
  f__law_possible := c.def_ 38 rfl
  g__law_possible := He.glo_ok X G (c.fact 38 rfl)
  f__law_by_cells := c.def_ 39 rfl
  g__law_by_cells := He.glo_ok X G (c.fact 39 rfl)
  f__law_right := c.def_ 40 rfl
  g__law_right := He.glo_ok X G (c.fact 40 rfl)
  f__law_well := c.def_ 41 rfl
  g__law_well := He.glo_ok X G (c.fact 41 rfl)
  f_law := c.def_ 42 rfl
  g_law := He.glo_ok X G (c.fact 42 rfl)
  k_ONE := con_ok X G ck (by decide)
  z_abs := He.free_ok X G (c.fact 43 rfl)
  z_all := He.free_ok X G (c.fact 44 rfl)
  z_any := He.free_ok X G (c.fact 45 rfl)
  z_divmod := He.free_ok X G (c.fact 46 rfl)
  z_enumerate := He.free_ok X G (c.fact 47 rfl)
  z_int := He.free_ok X G (c.fact 48 rfl)
  z_len := He.free_ok X G (c.fact 49 rfl)
  z_list := He.free_ok X G (c.fact 50 rfl)
  z_max := He.free_ok X G (c.fact 51 rfl)
  z_min := He.free_ok X G (c.fact 52 rfl)
  z_range := He.free_ok X G (c.fact 53 rfl)
  z_repr := He.free_ok X G (c.fact 54 rfl)
  z_sorted := He.free_ok X G (c.fact 55 rfl)
  z_sum := He.free_ok X G (c.fact 56 rfl)
  z_tuple := He.free_ok X G (c.fact 57 rfl)
  z_type := He.free_ok X G (c.fact 58 rfl)
  z_zip := He.free_ok X G (c.fact 59 rfl)
  m_gcd := imp_ok X G ci (by decide)
  c_MOST_BARS := He.int_ok X G (c.fact 60 rfl)
  c_MOST_CORNERS := He.int_ok X G (c.fact 61 rfl)
  c_MOST_COUNT := He.int_ok X G (c.fact 62 rfl)
theorem recs_ok : (lams.all fun x => (recsOf vw).any fun d => d.name == x) = true := by kernel_rfl
theorem facts {w : World} {K : PySem.W.Frag} {h : Heap} {mg : Str → Option Value} {f : Addr} (X : K.In h) (G : h.Ns mainGlobals mg) (hfa : mg ("law" : Str) = some (.ref f)) (c : He.SaysD fas dfs K) (nt : NoTab K) (ap : apart K lams = true) (ci : ims.all (impOk K) = true) (ck : cns.all (conOk K) = true) (tb : TabsOf vw mg h) :
    ∃ (fd : FuncData) (cs : List (Addr × Addr)) (sp : Sp), (∀ p ∈ cs, h.get? p.2 = some { cls := .none, data := .fields #[] }) ∧ (∀ p ∈ cs, K.lookup p.2 = none) ∧ (∀ p ∈ cs, PySem.W.CodeHd h p.1 p.2) ∧ (∀ (s : Shared) (u : Value), BindsTo s fd ⟨[u], []⟩ [("script", u)]) ∧
      (∀ (H : Hp) (a : Addr) (ns : List Int), ns.length ≤ 63 → (∀ z ∈ ns, Builtin.Int.intBits z ≤ 1048576) → (∀ p ∈ cs, H p.2 = some (.tbl #[])) → SqL K H a (ns.map V.int) → (∀ b ps, H b = some (.tbl ps) → b ∈ cs.map (·.2)) → sp [.ref a] H (fun v _ => v = .bl true) fun _ _ _ => False) ∧
      ∀ base : Heap, K.In base → base.Ns mainGlobals mg → (∀ p ∈ cs, LamX.TabB base mg p.1 p.2) → FG R.prog w K mg base 11 f fd ["script"] sp := by
  have glo : ∀ x ∈ lams, mg x = some (.ref (He.ga K x)) := fun x hx => by
    simp only [lams, List.mem_cons, List.not_mem_nil, or_false] at hx
    subst hx
    exact He.glo_ok X G (c.fact 26 rfl)
  have recd : ∀ x ∈ lams, ∃ d ∈ recsOf vw, d.name = x := fun x hx => by
    obtain ⟨d, hd, e⟩ := List.any_eq_true.mp (List.all_eq_true.mp recs_ok x hx)
    exact ⟨d, hd, by simpa using e⟩
  have lf : ∀ p ∈ csOf K lams, h.get? p.2 = some { cls := .none, data := .fields #[] } ∧ K.lookup p.2 = none ∧ PySem.W.CodeHd h p.1 p.2 := fun p hp => by
    obtain ⟨x, hx, e⟩ := cs_mem hp
    exact lam_facts X nt tb (glo x hx) (recd x hx) e
  obtain ⟨fd, F⟩ := c.def_ 42 rfl
  have ef := hfa.symm.trans (He.glo_ok X G (c.fact 42 rfl))
  cases ef
  have b := FunD.bindsA (ps := ["script"]) F fun _ _ _ _ _ _ us hl => match us, hl with | [_], _ => rfl
  refine ⟨fd, csOf K lams, spD ⟨K, TTof K lams, none⟩ 1 G_law, fun p hp => (lf p hp).1, fun p hp => (lf p hp).2.1, fun p hp => (lf p hp).2.2, fun s u => b s [u] rfl, fun H a ns hl hb ht hs _ => ?_, fun base kb gb tabs => ?_⟩
  · obtain ⟨w1, e⟩ := law_true ns hl hb
    exact law_sp hs (tabs_of ht) e
  · exact fg_law (K := ⟨K, TTof K lams, none⟩) (txt_of X G c ci ck (fun fd F => ltab_of (x := "in_order") ap List.mem_cons_self tabs F)) F
end K22
open PySem PySem.W PySem.Calls PyProof.Rows
theorem PySem.Challenge.cw_surefinds_k22_whole_coherent_bars_holds : PySem.Challenge.rw_surefinds_k22_whole_coherent_bars.Holds := by
  w_on; o_law
  refine HandSHeadRun.head_imp (r := OpenLaw.row PySem.Challenge.rw_surefinds_k22_whole_coherent_bars) (q := view (OpenLaw.row PySem.Challenge.rw_surefinds_k22_whole_coherent_bars).prog [0, 7, 57]) (H := K22.hk) (ob := K22.ob) (M := 8000) (loose := K22.lo) (d := HandSHeadRun.topDef (OpenLaw.row PySem.Challenge.rw_surefinds_k22_whole_coherent_bars).prog 57) (kwd := []) K22.ob_eq
    K22.run (by kernel_rfl) (by kernel_rfl) (by kernel_rfl) (by rfl) (by first | assumption | decide +kernel) (by decide +kernel) ⟨rfl, rfl, rfl, rfl, rfl, by decide +kernel⟩ ?hw ?hc
  case hw => w_witness2
  case hc =>
    refine DL.walk_own (l := PySem.Challenge.rw_surefinds_k22_whole_coherent_bars) (n := 63) (k := 11) (x := "script") rfl (by decide) (by kernel_rfl) ⟨⟨rfl, by decide, by decide⟩, rfl⟩ ?F
    intro w mg fa h Y G hmg0 tb
    obtain ⟨K, KX, c, nt, ap0⟩ := Y
    obtain ⟨ap1, ck⟩ := Bool.and_eq_true_iff.mp ap0
    obtain ⟨ap, ci⟩ := Bool.and_eq_true_iff.mp ap1
    have hmg : mg ("law" : PySem.Str) = some (.ref fa) := by
      have e : (HandSHeadRun.topDef (OpenLaw.row PySem.Challenge.rw_surefinds_k22_whole_coherent_bars).prog 57).name = ("law" : PySem.Str) := by kernel_rfl
      rw [← e]
      exact hmg0
    obtain ⟨fd, cs, sp, z⟩ := K22.facts (w := w) KX G hmg c nt ap ci ck tb
    exact ⟨K, fd, cs, sp, KX, z⟩



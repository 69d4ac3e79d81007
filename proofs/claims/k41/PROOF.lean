import PyProof.Rows.All
import Wide.All
import OpenK.AllK
import Wide.FinOn
import HandS.ForMost
import HandS.ForExc
import HandS.HeadHook2
import HandS.Lambda
import HandS.Style
import HandS.More
import HandS.Deep
import HandS.TupAny
import HandS.NoneIn
import HandS.Wide
import HandS.SortInts
import HandS.Zip
import HandS.Conv
import HandS.Gcd
import HandS.TupSets
import KE.GoesMore
import KE.SortData
import HandS.IsInst
import HandS.EndTab
import HandS.HeadWalk
import HandS.Head0
import HandS.Head1
import HandS.Head2
import HandS.Head3
import HandS.Dict
import HandS.DictComp
import HandS.ExcField
import HandS.ExcIs
import KE.KExcIs
import HandS.TupMul
import PySem.Challenge.RW_surefinds_k41_whole_shares_and_worths
set_option Elab.async false
set_option linter.all false
set_option maxRecDepth 100000
set_option maxHeartbeats 4000000
set_option autoImplicit false
/-! DL, part a: data behind values, the state of a body, what an expression comes to. -/
namespace DL
open PySem PySem.Spec L2
open PyProof.Rows hiding St

/-- plain data; the generator of draws; a built-in class; a def of the module -/
inductive D where
  | non | bl (b : Bool) | int (i : Int) | str (x : Str) | lst (xs : List D) | tup (xs : List D) | well | ty (n : String) | fn (x : Str) | rng (lo hi : Int) | hol (a : Addr) | scr (ns : List Int) | con (xs : List D)
abbrev Wl := List Int
/-- the generator's address; the code tables that may grow, each with the name that its codes bear -/
structure Bs where
  a : Option Addr
  T : List (Addr × Str)
/-- a lambda handed in: the generator, its address, what was frozen and what stood then -/
structure Lm where
  aw : Bs
  la : Addr
  F1 : Hp
  H1 : Hp
/-- the frozen part of the heap; the code tables that may grow, each with the name that its codes bear; the lambda handed in -/
structure Kt where
  K : PySem.W.Frag
  T : List (Addr × Str)
  L : Option Lm
instance : Coe Kt PySem.W.Frag := ⟨Kt.K⟩

mutual
inductive Dv (K : PySem.W.Frag) (aw : Bs) (F : Hp) : V → D → Prop
  | non : Dv K aw F .non .non
  | bl (b : Bool) : Dv K aw F (.bl b) (.bl b)
  | int (i : Int) : Dv K aw F (.int i) (.int i)
  | str (x : Str) : Dv K aw F (.str x) (.str x)
  | well {a : Addr} : aw.a = some a → Dv K aw F (.ref a) .well
  | ty (n : String) : Dv K aw F (.ty n) (.ty n)
  | fn (x : Str) : Dv K aw F (.ref (He.ga K x)) (.fn x)
  | rng {a : Addr} {lo hi : Int} : F a = some (.rng lo hi) → Dv K aw F (.ref a) (.rng lo hi)
  | hol (a : Addr) : Dv K aw F (.ref a) (.hol a)
  | scr {a : Addr} {ns : List Int} : SqL K F a (ns.map V.int) → Dv K aw F (.ref a) (.scr ns)
  | lst {a : Addr} {vs : List V} {ds : List D} : F a = some (.lst vs) → DvAll K aw F vs ds → Dv K aw F (.ref a) (.lst ds)
  | tup {a : Addr} {vs : List V} {ds : List D} : F a = some (.tup vs) → DvAll K aw F vs ds → Dv K aw F (.ref a) (.tup ds)
  | con {a : Addr} {vs : List V} {ds : List D} : SqT K F a vs → DvAll K aw F vs ds → Dv K aw F (.ref a) (.con ds)
inductive DvAll (K : PySem.W.Frag) (aw : Bs) (F : Hp) : List V → List D → Prop
  | nil : DvAll K aw F [] []
  | cons {v : V} {vs : List V} {d : D} {ds : List D} : Dv K aw F v d → DvAll K aw F vs ds → DvAll K aw F (v :: vs) (d :: ds)
end

theorem rd_same {F F' : Hp} (s : Same F F') {a : Addr} {u : HO} (r : Rd F a u) : Rd F' a u := by
  rcases r with r | ⟨o, r⟩
  · exact .inl (s _ _ r)
  · exact .inr ⟨o, s _ _ r⟩
theorem sqL_same {Kf : PySem.W.Frag} {F F' : Hp} (s : Same F F') {a : Addr} {vs : List V} (h : SqL Kf F a vs) : SqL Kf F' a vs := by
  rcases h with r | r
  · exact .inl (rd_same s r)
  · exact .inr r
theorem sqT_same {Kf : PySem.W.Frag} {F F' : Hp} (s : Same F F') {a : Addr} {vs : List V} (h : SqT Kf F a vs) : SqT Kf F' a vs := by
  rcases h with r | r
  · exact .inl (rd_same s r)
  · exact .inr r

section
variable {K : Kt} {Kf : PySem.W.Frag} {aw : Bs} {F F' H H' : Hp}
mutual
theorem Dv.mono (s : Same F F') : ∀ {v : V} {d : D}, Dv Kf aw F v d → Dv Kf aw F' v d
  | _, _, .non => .non
  | _, _, .bl b => .bl b
  | _, _, .int i => .int i
  | _, _, .str x => .str x
  | _, _, .well h => .well h
  | _, _, .ty n => .ty n
  | _, _, .fn x => .fn x
  | _, _, .rng h => .rng (s _ _ h)
  | _, _, .hol a => .hol a
  | _, _, .scr h => .scr (sqL_same s h)
  | _, _, .lst h a => .lst (s _ _ h) (DvAll.mono s a)
  | _, _, .tup h a => .tup (s _ _ h) (DvAll.mono s a)
  | _, _, .con h a => .con (sqT_same s h) (DvAll.mono s a)
theorem DvAll.mono (s : Same F F') : ∀ {vs : List V} {ds : List D}, DvAll Kf aw F vs ds → DvAll Kf aw F' vs ds
  | _, _, .nil => .nil
  | _, _, .cons a b => .cons (Dv.mono s a) (DvAll.mono s b)
end
theorem DvAll.length : ∀ {vs : List V} {ds : List D}, DvAll Kf aw F vs ds → vs.length = ds.length
  | _, _, .nil => rfl
  | _, _, .cons _ b => congrArg (· + 1) (DvAll.length b)
theorem DvAll.get : ∀ {vs : List V} {ds : List D} {i : Nat} {d : D}, DvAll Kf aw F vs ds → ds[i]? = some d → ∃ v, vs[i]? = some v ∧ Dv Kf aw F v d
  | _, _, i, _, .nil, h => by simp at h
  | _, _, 0, _, .cons a _, h => by
    simp at h
    subst h
    exact ⟨_, rfl, a⟩
  | _, _, i + 1, _, .cons _ b, h => by
    obtain ⟨v, e, r⟩ := DvAll.get (i := i) b (by simpa using h)
    exact ⟨v, by simpa using e, r⟩
theorem DvAll.set {v : V} {d : D} (r : Dv Kf aw F v d) : ∀ {vs : List V} {ds : List D} (n : Nat), DvAll Kf aw F vs ds → DvAll Kf aw F (vs.set n v) (ds.set n d)
  | _, _, _, .nil => .nil
  | _, _, 0, .cons _ b => .cons r b
  | _, _, n + 1, .cons a b => .cons a (DvAll.set r n b)
theorem DvAll.one {v : V} {d : D} (h : Dv Kf aw F v d) : DvAll Kf aw F [v] [d] := .cons h .nil
end

/-! ### the state -/
/-- where a body stands: the generator's address, what was frozen at the entry, the heap there -/
structure Fx where
  aw : Bs
  F0 : Hp
  H0 : Hp
/-- from F, H to F', H': frozen things stay, the heap's own stay but the generator, nothing that stood unfrozen is frozen -/
structure Go (aw : Bs) (F H F' H' : Hp) (w : Wl) : Prop where
  ff : Same F F'
  hh : ∀ (b : Addr) (o : HO), some b ≠ aw.a → (∀ ps, o ≠ .tbl ps) → H b = some o → H' b = some o
  ne : ∀ b, H b ≠ none → H' b ≠ none
  tb : LamX.Tabs aw.T H → LamX.Tabs aw.T H'
  sub : Same F' H'
  nt : ∀ (b : Addr) (ps : Array Value), F' b ≠ some (.tbl ps)
  fr : ∀ b, H b ≠ none → F b = none → F' b = none
  wl : ∀ a, aw.a = some a → H' a = some (.lst (w.map V.int))
section
variable {aw : Bs} {p : Addr} {F H F1 H1 F2 H2 : Hp} {w w1 w2 : Wl} {o : HO}
theorem Go.trans (a : Go aw F H F1 H1 w1) (b : Go aw F1 H1 F2 H2 w2) : Go aw F H F2 H2 w2 :=
  ⟨a.ff.trans b.ff, fun c o n k h => b.hh c o n k (a.hh c o n k h), fun c h => b.ne c (a.ne c h), fun h => b.tb (a.tb h), b.sub, b.nt, fun c n h => b.fr c (a.ne c n) (a.fr c n h), b.wl⟩
theorem Go.free (g : Go aw F H F1 H1 w) (hp : H1 p = none) : F1 p = none := by
  cases q : F1 p with
  | none => rfl
  | some u =>
    rw [g.sub p u q] at hp
    cases hp
theorem same_upd2 {F : Hp} {p : Addr} {o : HO} (h : F p = none) : Same F (upd F p o) := fun b u e => by
  rw [upd_ne (ne_of_none e h)]
  exact e
theorem ne_upd {H : Hp} {p b : Addr} {o : HO} (n : H b ≠ none) : upd H p o b ≠ none := by
  by_cases e : b = p
  · rw [e, upd_same]
    exact fun z => nomatch z
  · rw [upd_ne e]
    exact n
/-- a new object, frozen -/
theorem Go.new (g : Go aw F H F H w) (hp : H p = none) (o : HO) (ho : ∀ ps, o ≠ .tbl ps := by intro _ z; cases z) : Go aw F H (upd F p o) (upd H p o) w := by
  have fp := g.free hp
  have na : ∀ a, aw.a = some a → a ≠ p := fun a ea e => by
    rw [← e, g.wl a ea] at hp
    cases hp
  refine ⟨same_upd2 fp, fun b u _ _ e => same_upd2 hp b u e, fun b n => ne_upd n, fun t => t.ext fun b u e => same_upd2 hp b u e, fun b u e => ?_, fun b ps e => ?_, fun b n h => ?_, fun a ea => ?_⟩
  · by_cases eb : b = p
    · rw [eb, upd_same] at e
      rw [eb, upd_same]
      exact e
    · rw [upd_ne eb] at e
      rw [upd_ne eb]
      exact g.sub b u e
  · by_cases eb : b = p
    · rw [eb, upd_same] at e
      exact ho ps (Option.some.inj e)
    · rw [upd_ne eb] at e
      exact g.nt b ps e
  · have nb : b ≠ p := fun e => n (by rw [e]; exact hp)
    rw [upd_ne nb]
    exact h
  · rw [upd_ne (na a ea)]
    exact g.wl a ea
/-- what stands new and unfrozen is frozen -/
theorem Go.frozen (g : Go aw F H F1 H1 w) (n : H p = none) (q : H1 p = some o) (hf : F1 p = none) (ho : ∀ ps, o ≠ .tbl ps := by intro _ z; cases z) : Go aw F H (upd F1 p o) H1 w := by
  refine ⟨g.ff.trans (same_upd2 hf), g.hh, g.ne, g.tb, fun b u e => ?_, fun b ps e => ?_, fun b nb h => ?_, g.wl⟩
  · by_cases eb : b = p
    · rw [eb, upd_same] at e
      cases e
      rw [eb]
      exact q
    · rw [upd_ne eb] at e
      exact g.sub b u e
  · by_cases eb : b = p
    · rw [eb, upd_same] at e
      exact ho ps (Option.some.inj e)
    · rw [upd_ne eb] at e
      exact g.nt b ps e
  · have ne : b ≠ p := fun e => nb (by rw [e]; exact n)
    rw [upd_ne ne]
    exact g.fr b nb h
end

/-- a slot: nothing known, data, a list of the body's own, the lambda that was handed in -/
inductive Sl where
  | non
  | dat (d : D)
  | own (ds : List D)
  | hol
  | dic (kvs : List (List Int × D))
/-- a dict's pairs, the keys tuples of ints -/
inductive KVs (K : PySem.W.Frag) (aw : Bs) (F : Hp) : List (List Key × V) → List (List Int × D) → Prop
  | nil : KVs K aw F [] []
  | cons {k : List Int} {v : V} {d : D} {us : List (List Key × V)} {kvs : List (List Int × D)} : Dv K aw F v d → KVs K aw F us kvs → KVs K aw F ((k.map Sum.inl, v) :: us) ((k, d) :: kvs)
theorem KVs.mono {K : PySem.W.Frag} {aw : Bs} {F F' : Hp} (s : Same F F') {us : List (List Key × V)} {kvs : List (List Int × D)} (h : KVs K aw F us kvs) : KVs K aw F' us kvs := by
  induction h with
  | nil => exact .nil
  | cons r _ ih => exact .cons (r.mono s) ih
/-- the body's own dicts -/
def DicOk (K : PySem.W.Frag) (aw : Bs) (H0 : Hp) (en : List Sl) (σ : St) (F H : Hp) : Prop := ∀ (i : Nat) (kvs : List (List Int × D)), en[i]? = some (.dic kvs) →
  (∃ a us, σ[i]? = some (some (.ref a)) ∧ H a = some (.dT us) ∧ H0 a = none ∧ F a = none ∧ KVs K aw F us kvs) ∧ ∀ (j : Nat) (lvs : List (List Int × D)), en[j]? = some (.dic lvs) → σ[j]? = σ[i]? → j = i
theorem DicOk.keep {K : PySem.W.Frag} {aw : Bs} {H0 : Hp} {en en' : List Sl} {σ σ' : St} {F H F' H' : Hp} (d : DicOk K aw H0 en σ F H) (he : ∀ (i : Nat) (kvs : List (List Int × D)), en'[i]? = some (.dic kvs) → en[i]? = some (.dic kvs) ∧ σ'[i]? = σ[i]?)
    (hH : ∀ (a : Addr) (us : List (List Key × V)), H a = some (.dT us) → H0 a = none → F a = none → H' a = some (.dT us) ∧ F' a = none) (s : Same F F') : DicOk K aw H0 en' σ' F' H' := fun i kvs h => by
  obtain ⟨e1, e2⟩ := he i kvs h
  obtain ⟨⟨a, us, q1, q2, q3, q4, r⟩, inj⟩ := d i kvs e1
  obtain ⟨h1, h2⟩ := hH a us q2 q3 q4
  refine ⟨⟨a, us, e2.trans q1, h1, q3, h2, r.mono s⟩, fun j lvs hj z => ?_⟩
  obtain ⟨e3, e4⟩ := he j lvs hj
  exact inj j lvs e3 (e4.symm.trans (z.trans e2))
structure Ok (K : Kt) (f : Fx) (en : List Sl) (w : Wl) (σ : St) (F H : Hp) : Prop where
  go : Go f.aw f.F0 f.H0 F H w
  base : ∀ a, f.aw.a = some a → f.H0 a ≠ none ∧ f.F0 a = none
  len : σ.length = en.length
  dat : ∀ (i : Nat) (d : D), en[i]? = some (.dat d) → ∃ v, σ[i]? = some (some v) ∧ Dv K f.aw F v d
  own : ∀ (i : Nat) (ds : List D), en[i]? = some (.own ds) → ∃ a vs, σ[i]? = some (some (.ref a)) ∧ H a = some (.lst vs) ∧ f.H0 a = none ∧ F a = none ∧ DvAll K f.aw F vs ds
  tT : f.aw.T = K.T
  tabs : LamX.Tabs f.aw.T H
  hol : ∀ (i : Nat), en[i]? = some .hol → ∃ l, K.L = some l ∧ σ[i]? = some (some (.ref l.la)) ∧ f.aw = l.aw ∧ f.H0 = l.H1 ∧ Go l.aw l.F1 l.H1 F H w
  inj : ∀ (i j : Nat) (ds es : List D) (a : Addr), en[i]? = some (.own ds) → en[j]? = some (.own es) → σ[i]? = some (some (.ref a)) → σ[j]? = some (some (.ref a)) → i = j
  dic : DicOk K f.aw f.H0 en σ F H
section
variable {K : Kt} {Kf : PySem.W.Frag} {f : Fx} {en : List Sl} {w w' : Wl} {σ : St} {F H F' H' : Hp}
theorem Ok.step (o : Ok K f en w σ F H) (g : Go f.aw F H F' H' w') : Ok K f en w' σ F' H' := by
  refine ⟨o.go.trans g, o.base, o.len, fun i d e => ?_, fun i ds e => ?_, o.tT, g.tb o.tabs, fun i h => ?_, o.inj, o.dic.keep (fun _ _ h => ⟨h, rfl⟩) (fun a us h1 h2 h3 => ⟨g.hh a _ (fun z => (o.base a z.symm).1 h2) (fun _ z => nomatch z) h1, g.fr a (by rw [h1]; exact fun z => nomatch z) h3⟩) g.ff⟩
  · obtain ⟨v, e1, r⟩ := o.dat i d e
    exact ⟨v, e1, r.mono g.ff⟩
  · obtain ⟨a, vs, e1, h1, h2, h3, r⟩ := o.own i ds e
    have na : some a ≠ f.aw.a := fun z => (o.base a z.symm).1 h2
    exact ⟨a, vs, e1, g.hh a _ na (fun _ z => nomatch z) h1, h2, g.fr a (by rw [h1]; exact fun z => nomatch z) h3, r.mono g.ff⟩
  · obtain ⟨l, e1, e2, e3, e4, gl⟩ := o.hol i h
    exact ⟨l, e1, e2, e3, e4, gl.trans (e3 ▸ g)⟩
end

/-! ### what an expression comes to -/
inductive Res where
  | ok (d : D) (w : Wl)
  | ex (c fn : Str) (a : D) (w : Wl)
  | bad
abbrev EG := List Sl → Wl → Res
def Res.bind (r : Res) (k : D → Wl → Res) : Res := match r with
  | .ok d w => k d w
  | .ex c fn a w => .ex c fn a w
  | .bad => .bad
/-- an exception of the module's class c with one attribute -/
def Xr (K : PySem.W.Frag) (aw : Bs) (F : Hp) (c fn : Str) (a : D) (cls : Value) (dx : Option Addr) : Prop :=
  ∃ d v, cls = .ref (He.ga K c) ∧ dx = some d ∧ F d = some (.xd [(fn, v)]) ∧ Dv K aw F v a
/-- how much is known of a value: a new unfrozen list; frozen data; data that is readable just now -/
inductive Sg where
  | fr | st | wk
  deriving DecidableEq
def Dq (K : PySem.W.Frag) (aw : Bs) (F H : Hp) (v : V) (d : D) : Prop :=
  Dv K aw F v d ∨ ∃ ds a vs, d = .lst ds ∧ v = .ref a ∧ some a ≠ aw.a ∧ H a = some (.lst vs) ∧ DvAll K aw F vs ds
def Rl (s : Sg) (K : PySem.W.Frag) (aw : Bs) (H F' H' : Hp) (v : V) (d : D) : Prop := match s with
  | .wk => Dq K aw F' H' v d
  | .st => Dv K aw F' v d
  | .fr => ∃ ds a vs, d = .lst ds ∧ v = .ref a ∧ H a = none ∧ H' a = some (.lst vs) ∧ F' a = none ∧ DvAll K aw F' vs ds
def Wn (s : Sg) (K : PySem.W.Frag) (aw : Bs) (F H : Hp) (Q : VK) (E : XK) : Res → Prop
  | .ok d w => ∀ v F' H', Go aw F H F' H' w → Rl s K aw H F' H' v d → Q v H'
  | .ex c fn a w => ∀ cls dx F' H', Go aw F H F' H' w → Xr K aw F' c fn a cls dx → E cls dx H'
  | .bad => False
def ES (K : Kt) (W : WX) (s : Sg) (t : TE) (g : EG) : Prop :=
  ∀ (f : Fx) (en : List Sl) (w : Wl) (σ : St) (F H : Hp) (Q : VK), Ok K f en w σ F H → Wn s K f.aw F H Q (WE W σ) (g en w) → t σ H Q
structure DE (K : Kt) (X : Cx) (W : WX) (s : Sg) (e : Expr) (t : TE) (g : EG) : Prop where
  hK : X.K = K
  pe : PE X e t
  es : ES K W s t g
section
variable {K : Kt} {Kf : PySem.W.Frag} {W : WX} {aw : Bs} {F H F1 H1 F' H' : Hp} {Q R : VK} {E : XK} {w w1 : Wl} {s : Sg} {r : Res} {t ta tb : TE} {g ga gb : EG} {f : Fx} {en : List Sl} {σ : St} {v : V} {d : D} {ds : List D} {vs : List V}
theorem Dq.go (q : Dq Kf aw F H v d) (g : Go aw F H F' H' w) : Dq Kf aw F' H' v d := by
  rcases q with q | ⟨ds, a, vs, e1, e2, n, h, r⟩
  · exact .inl (q.mono g.ff)
  · exact .inr ⟨ds, a, vs, e1, e2, n, g.hh a _ n (fun _ z => nomatch z) h, r.mono g.ff⟩
theorem Wn.go (h : Wn .st Kf aw F H Q E r) (g : Go aw F H F1 H1 w1) : Wn .st Kf aw F1 H1 Q E r := by
  cases r with
  | ok d w => exact fun v F' H' g' r' => h v F' H' (g.trans g') r'
  | ex c fn a w => exact fun cls dx F' H' g' x => h cls dx F' H' (g.trans g') x
  | bad => exact h
theorem Wn.goF (h : Wn .fr Kf aw F H Q E r) (g : Go aw F H F1 H1 w1) : Wn .fr Kf aw F1 H1 Q E r := by
  cases r with
  | ok d w =>
    rintro v F' H' g' ⟨ds, a, vs, e1, e2, n, q, hf, r'⟩
    refine h v F' H' (g.trans g') ⟨ds, a, vs, e1, e2, ?_, q, hf, r'⟩
    cases z : H a with
    | none => rfl
    | some u => exact absurd n (g.ne a (by rw [z]; exact fun y => nomatch y))
  | ex c fn a w => exact fun cls dx F' H' g' x => h cls dx F' H' (g.trans g') x
  | bad => exact h
theorem Wn.goW (h : Wn .wk Kf aw F H Q E r) (g : Go aw F H F1 H1 w1) : Wn .wk Kf aw F1 H1 Q E r := by
  cases r with
  | ok d w => exact fun v F' H' g' r' => h v F' H' (g.trans g') r'
  | ex c fn a w => exact fun cls dx F' H' g' x => h cls dx F' H' (g.trans g') x
  | bad => exact h
theorem Wn.any (h : Wn s Kf aw F H Q E r) (g : Go aw F H F1 H1 w1) : Wn s Kf aw F1 H1 Q E r := by
  cases s with
  | fr => exact h.goF g
  | st => exact h.go g
  | wk => exact h.goW g
/-- a new list is frozen where that is wanted -/
theorem ES.toSt (h : ES K W s t g) (hs : s ≠ .wk) : ES K W .st t g := by
  cases s with
  | wk => exact absurd rfl hs
  | st => exact h
  | fr =>
    intro f en w σ F H Q o hw
    refine h f en w σ F H Q o ?_
    cases q : g en w with
    | bad =>
      rw [q] at hw
      exact hw
    | ex c fn a w1 =>
      rw [q] at hw
      exact hw
    | ok d w1 =>
      rw [q] at hw
      rintro v F' H' g' ⟨ds, a, vs, rfl, rfl, n, q', hf, r'⟩
      exact hw _ (upd F' a (.lst vs)) H' (g'.frozen n q' hf) (.lst upd_same (r'.mono (same_upd2 hf)))
theorem ES.toWk (h : ES K W s t g) : ES K W .wk t g := by
  cases s with
  | wk => exact h
  | st =>
    intro f en w σ F H Q o hw
    refine h f en w σ F H Q o ?_
    cases q : g en w with
    | bad => rw [q] at hw; exact hw
    | ex c fn a w1 => rw [q] at hw; exact hw
    | ok d w1 =>
      rw [q] at hw
      exact fun v F' H' g' r' => hw v F' H' g' (.inl r')
  | fr =>
    have h2 := h.toSt (fun z => nomatch z)
    intro f en w σ F H Q o hw
    refine h2 f en w σ F H Q o ?_
    cases q : g en w with
    | bad => rw [q] at hw; exact hw
    | ex c fn a w1 => rw [q] at hw; exact hw
    | ok d w1 =>
      rw [q] at hw
      exact fun v F' H' g' r' => hw v F' H' g' (.inl r')
/-- the end with a value that is known to be so -/
theorem Wn.val (h : Wn .st Kf aw F H Q E (.ok d w)) (g : Go aw F H F H w) (r : Dv Kf aw F v d) : Q v H := h v F H g r
/-- a list or tuple that is read -/
theorem Dq.seq (q : Dq Kf aw F H v (.lst ds)) (s : Same F H) : ∃ a vs, v = .ref a ∧ H a = some (.lst vs) ∧ DvAll Kf aw F vs ds := by
  rcases q with q | ⟨ds', a, vs, e1, e2, n, h, r⟩
  · cases q with
    | lst h r => exact ⟨_, _, rfl, s _ _ h, r⟩
  · cases e1
    exact ⟨a, vs, e2, h, r⟩
theorem Dq.int {i : Int} (q : Dq Kf aw F H v (.int i)) : v = .int i := by
  rcases q with q | ⟨ds', a, vs, e1, e2, n, h, r⟩
  · cases q; rfl
  · cases e1
theorem Dq.bl {b : Bool} (q : Dq Kf aw F H v (.bl b)) : v = .bl b := by
  rcases q with q | ⟨ds', a, vs, e1, e2, n, h, r⟩
  · cases q; rfl
  · cases e1
theorem Dq.str {x : Str} (q : Dq Kf aw F H v (.str x)) : v = .str x := by
  rcases q with q | ⟨ds', a, vs, e1, e2, n, h, r⟩
  · cases q; rfl
  · cases e1
theorem Dq.non (q : Dq Kf aw F H v .non) : v = .non := by
  rcases q with q | ⟨ds', a, vs, e1, e2, n, h, r⟩
  · cases q; rfl
  · cases e1
theorem Dq.well (q : Dq Kf aw F H v .well) : ∃ a, aw.a = some a ∧ v = .ref a := by
  rcases q with q | ⟨ds', a, vs, e1, e2, n, h, r⟩
  · cases q with
    | well h => exact ⟨_, h, rfl⟩
  · cases e1
theorem Dq.rng {lo hi : Int} (q : Dq Kf aw F H v (.rng lo hi)) : ∃ a, v = .ref a ∧ F a = some (.rng lo hi) := by
  rcases q with q | ⟨ds', a, vs, e1, e2, n, h, r⟩
  · cases q with
    | rng h => exact ⟨_, rfl, h⟩
  · cases e1
theorem Dq.scr {ns : List Int} (q : Dq Kf aw F H v (.scr ns)) (s : Same F H) : ∃ a, v = .ref a ∧ SqL Kf H a (ns.map V.int) := by
  rcases q with q | ⟨ds', a, vs, e1, e2, n, h, r⟩
  · cases q with
    | scr h => exact ⟨_, rfl, sqL_same s h⟩
  · cases e1
theorem Dq.hol {a : Addr} (q : Dq Kf aw F H v (.hol a)) : v = .ref a := by
  rcases q with q | ⟨ds', a, vs, e1, e2, n, h, r⟩
  · cases q; rfl
  · cases e1
theorem Dq.ty {n : String} (q : Dq Kf aw F H v (.ty n)) : v = .ty n := by
  rcases q with q | ⟨ds', a, vs, e1, e2, n, h, r⟩
  · cases q; rfl
  · cases e1
end
end DL

/-! DL, part b: expressions. -/
namespace DL
open PySem PySem.Spec L2
open PyProof.Rows hiding St

/-! ### names and constants -/
def eVar (i : Nat) : EG := fun en w => match en[i]? with
  | some (.dat d) => .ok d w
  | _ => .bad
def eC (d : D) : EG := fun _ w => .ok d w
section
variable {X : Cx} {W : WX} {K : Kt} {Kf : PySem.W.Frag} {pos : Pos}
end

/-! ### operators -/
def eBin (o : D → D → Wl → Res) (ga gb : EG) : EG := fun en w => (ga en w).bind fun d w1 => (gb en w1).bind fun e w2 => o d e w2
/-- an operation on values does what o says -/
def OpS (K : PySem.W.Frag) (s : Sg) (r : R2) (o : D → D → Wl → Res) : Prop :=
  ∀ (aw : Bs) (F H : Hp) (Q : VK) (E : XK) (x y : V) (d e : D) (w : Wl), Go aw F H F H w → Dq K aw F H x d → Dq K aw F H y e → Wn s K aw F H Q E (o d e w) → r x y H Q
section
variable {X : Cx} {W : WX} {K : Kt} {Kf : PySem.W.Frag} {s s1 s2 s3 : Sg} {pos : Pos} {a b c : Expr} {ta tb tc : TE} {ga gb gc : EG} {r r' : R2} {o o' : D → D → Wl → Res}
def oOr (o o' : D → D → Wl → Res) : D → D → Wl → Res := fun d e w => match o d e w with
  | .bad => o' d e w
  | z => z
theorem OpS.or (h : OpS Kf s r o) (h' : OpS Kf s r' o') : OpS Kf s (fun x y H Q => r x y H Q ∨ r' x y H Q) (oOr o o') := by
  intro aw F H Q E x y d e w g rx ry hw
  unfold oOr at hw
  cases q : o d e w with
  | bad =>
    rw [q] at hw
    exact .inr (h' aw F H Q E x y d e w g rx ry hw)
  | ok d' w' =>
    rw [q] at hw
    exact .inl (h aw F H Q E x y d e w g rx ry (by rw [q]; exact hw))
  | ex c fn a w' =>
    rw [q] at hw
    exact .inl (h aw F H Q E x y d e w g rx ry (by rw [q]; exact hw))
/-- two ints -/
def oI (C : Int → Int → Bool) (g : Int → Int → D) : D → D → Wl → Res := fun d e w => match d, e with
  | .int i, .int j => if C i j then .ok (g i j) w else .bad
  | _, _ => .bad
instance (i j : Int) : Decidable (CMulW i j) := by unfold CMulW; infer_instance
instance (i j : Int) : Decidable (CDivW i j) := by unfold CDivW; infer_instance
instance (i j : Int) : Decidable (CPow i j) := by unfold CPow; infer_instance
def oMul := oI (fun i j => decide (CMulW i j)) fun i j => .int (i * j)
def oFdiv := oI (fun i j => decide (CDivW i j)) fun i j => .int (i / j)
def oMod := oI (fun _ j => decide (0 < j)) fun i j => .int (i % j)
/-! a + b: ints, texts, tuples, lists (frozen); a + b of lists, new -/
def oAddI := oI (fun _ _ => true) fun i j => .int (i + j)
def oAddS : D → D → Wl → Res := fun d e w => match d, e with
  | .str i, .str j => if i.length + j.length ≤ sizeLine then .ok (.str (i ++ j)) w else .bad
  | _, _ => .bad
def oAddT : D → D → Wl → Res := fun d e w => match d, e with
  | .tup xs, .tup ys => if xs.length + ys.length ≤ sizeLine then .ok (.tup (xs ++ ys)) w else .bad
  | _, _ => .bad
def oAddL : D → D → Wl → Res := fun d e w => match d, e with
  | .lst xs, .lst ys => if xs.length + ys.length ≤ sizeLine then .ok (.lst (xs ++ ys)) w else .bad
  | _, _ => .bad
theorem OpS.toSt (h : OpS Kf .fr r o) : OpS Kf .st r o := by
  intro aw F H Q E x y d e w g rx ry hw
  refine h aw F H Q E x y d e w g rx ry ?_
  cases q : o d e w with
  | bad =>
    rw [q] at hw
    exact hw
  | ex c fn a w1 =>
    rw [q] at hw
    exact hw
  | ok d1 w1 =>
    rw [q] at hw
    rintro v F' H' g' ⟨ds, a, vs, rfl, rfl, n, q', hf, r'⟩
    exact hw _ (upd F' a (.lst vs)) H' (g'.frozen n q' hf) (.lst upd_same (r'.mono (same_upd2 hf)))
def oAdd := oOr oAddI (oOr oAddS (oOr oAddT oAddL))
/-! a list times an int -/
/-! -a -/
end
end DL

/-! DL, part c: comparisons, truth, tests. -/
namespace DL
open PySem PySem.Spec L2
open PyProof.Rows hiding St

mutual
def D.toP : D → PyData
  | .non => .none
  | .bl b => .bool b
  | .int i => .int i
  | .str x => .str x
  | .lst xs => .list (toPs xs)
  | .tup xs => .tuple (toPs xs)
  | .con xs => .tuple (toPs xs)
  | .well => .none
  | .ty _ => .none
  | .fn _ => .none
  | .rng _ _ => .none
  | .hol _ => .none
  | .scr _ => .none
def toPs : List D → List PyData
  | [] => []
  | d :: ds => d.toP :: toPs ds
end
mutual
def D.isP : D → Bool
  | .non => true
  | .bl _ => true
  | .int _ => true
  | .str _ => true
  | .lst xs => arePs xs
  | .tup xs => arePs xs
  | .con xs => arePs xs
  | .well => false
  | .ty _ => false
  | .fn _ => false
  | .rng _ _ => false
  | .hol _ => false
  | .scr _ => false
def arePs : List D → Bool
  | [] => true
  | d :: ds => d.isP && arePs ds
end
section
variable {K : Kt} {Kf : PySem.W.Frag} {aw : Bs} {F H : Hp}
end
def D.eqv (d e : D) : Bool := PyData.eqv d.toP e.toP
def oRel (p : Int → Int → Bool) := oI (fun _ _ => true) fun i j => .bl (p i j)
def oGt := oRel fun i j => decide (j < i)
section
variable {X : Cx} {W : WX} {K : Kt} {Kf : PySem.W.Frag} {s s1 s2 s3 : Sg} {pos : Pos} {a b c : Expr} {ta tb tc : TE} {ga gb gc : EG} {r r' : R2} {o o' : D → D → Wl → Res} {op op' : CmpOp}
/-! a comparison -/
/-! is -/
/-! in -/
/-! a < b < c -/
end

/-! ### tests -/
def WnB (K : PySem.W.Frag) (aw : Bs) (F H : Hp) (Q : Bool → Hp → Prop) (E : XK) : Res → Prop
  | .ok (.bl b) w => ∀ F' H', Go aw F H F' H' w → Q b H'
  | .ok _ _ => False
  | .ex c fn a w => ∀ cls dx F' H', Go aw F H F' H' w → Xr K aw F' c fn a cls dx → E cls dx H'
  | .bad => False
def ET (K : Kt) (W : WX) (t : TT) (g : EG) : Prop :=
  ∀ (f : Fx) (en : List Sl) (w : Wl) (σ : St) (F H : Hp) (Q : Bool → Hp → Prop), Ok K f en w σ F H → WnB K f.aw F H Q (WE W σ) (g en w) → t σ H Q
/-- the answer's truth decides -/
def bIf (r : Res) (a b : Wl → Res) : Res := match r with
  | .ok (.bl true) w => a w
  | .ok (.bl false) w => b w
  | .ok _ _ => .bad
  | .ex c fn a w => .ex c fn a w
  | .bad => .bad
section
variable {X : Cx} {W : WX} {K : Kt} {Kf : PySem.W.Frag} {s s1 s2 s3 : Sg} {pos : Pos} {a b c : Expr} {ta tb tc : TE} {tA tZ : TT} {ga gb gc : EG} {rest : List Expr} {aw : Bs} {F H F1 H1 : Hp} {QB : Bool → Hp → Prop} {E : XK} {r : Res} {w1 : Wl}
theorem WnB.any (h : WnB Kf aw F H QB E r) (g : Go aw F H F1 H1 w1) : WnB Kf aw F1 H1 QB E r := by
  cases r with
  | ok d w => cases d <;> first
    | exact h.elim
    | exact fun F' H' g' => h F' H' (g.trans g')
  | ex c fn a w => exact fun cls dx F' H' g' x => h cls dx F' H' (g.trans g') x
  | bad => exact h
/-- a test, then what its answer chooses; the end is any kind of wish that goes along -/
theorem ET.bind {f : Fx} {en : List Sl} {w : Wl} {σ : St} {R : Bool → Hp → Prop} (ha : ET K W tA ga) (o : Ok K f en w σ F H) {N : Res → Hp → Hp → Prop} {ka kb : Wl → Res}
    (hn : ∀ F1 H1 w1 z, Go f.aw F H F1 H1 w1 → N z F H → N z F1 H1) (hbad : N .bad F H → False) (hex : ∀ c fn a w, N (.ex c fn a w) F H → ∀ cls dx F' H', Go f.aw F H F' H' w → Xr K f.aw F' c fn a cls dx → WE W σ cls dx H')
    (h : N (bIf (ga en w) ka kb) F H)
    (hk : ∀ b w1 F1 H1, Go f.aw F H F1 H1 w1 → Ok K f en w1 σ F1 H1 → N (if b = true then ka w1 else kb w1) F1 H1 → R b H1) : tA σ H R := by
  refine ha f en w σ F H R o ?_
  cases q : ga en w with
  | bad =>
    rw [q] at h
    exact hbad h
  | ex c fn a w1 =>
    rw [q] at h
    exact hex c fn a w1 h
  | ok d w1 =>
    rw [q] at h
    cases d <;> first
      | exact (hbad h).elim
      | skip
    rename_i b
    intro F1 H1 g
    refine hk b w1 F1 H1 g (o.step g) (hn F1 H1 w1 _ g ?_)
    cases b <;> exact h
/-! truth of an int, a list, a tuple -/
/-! not, and, or -/
/-! .. as values: all but the last True or False -/
theorem DE.st (h : DE K X W s a ta ga) (hs : s ≠ .wk := by decide) : DE K X W .st a ta ga := by
  obtain ⟨K0, T0, L0⟩ := K
  cases h.hK
  exact ⟨rfl, h.pe, h.es.toSt hs⟩
theorem DE.wk (h : DE K X W s a ta ga) : DE K X W .wk a ta ga := by
  obtain ⟨K0, T0, L0⟩ := K
  cases h.hK
  exact ⟨rfl, h.pe, h.es.toWk⟩
end
end DL

/-! DL, part d: arguments, displays, subscripts, slices, calls of built-ins. -/
namespace DL
open PySem PySem.Spec L2
open PyProof.Rows hiding St

inductive AR where
  | ok (ds : List D) (w : Wl)
  | ex (c fn : Str) (a : D) (w : Wl)
  | bad
abbrev AG := List Sl → Wl → AR
inductive DqAll (K : PySem.W.Frag) (aw : Bs) (F H : Hp) : List V → List D → Prop
  | nil : DqAll K aw F H [] []
  | cons {v : V} {vs : List V} {d : D} {ds : List D} : Dq K aw F H v d → DqAll K aw F H vs ds → DqAll K aw F H (v :: vs) (d :: ds)
def RlA (b : Bool) (K : PySem.W.Frag) (aw : Bs) (F H : Hp) (vs : List V) (ds : List D) : Prop := match b with
  | true => DqAll K aw F H vs ds
  | false => DvAll K aw F vs ds
def WnA (b : Bool) (K : PySem.W.Frag) (aw : Bs) (F H : Hp) (Q : List V → Hp → Prop) (E : XK) : AR → Prop
  | .ok ds w => ∀ vs F' H', Go aw F H F' H' w → RlA b K aw F' H' vs ds → Q vs H'
  | .ex c fn a w => ∀ cls dx F' H', Go aw F H F' H' w → Xr K aw F' c fn a cls dx → E cls dx H'
  | .bad => False
def aNil : AG := fun _ w => .ok [] w
def AR.cons (r : AR) (d : D) : AR := match r with
  | .ok ds w => .ok (d :: ds) w
  | z => z
def aCons (ga : EG) (gr : AG) : AG := fun en w => match ga en w with
  | .ok d w1 => (gr en w1).cons d
  | .ex c fn a w1 => .ex c fn a w1
  | .bad => .bad
section
variable {X : Cx} {W : WX} {K : Kt} {Kf : PySem.W.Frag} {s s1 s2 s3 : Sg} {pos : Pos} {a b c e : Expr} {es : List Expr} {ta tb tc te : TE} {ga gb gc ge : EG} {t : TA} {g : AG} {aw : Bs} {F H F1 H1 : Hp} {E : XK} {w1 : Wl} {bb : Bool} {QA : List V → Hp → Prop} {r : AR}
theorem DqAll.go {w : Wl} (go : Go aw F H F1 H1 w) : ∀ {vs : List V} {ds : List D}, DqAll Kf aw F H vs ds → DqAll Kf aw F1 H1 vs ds
  | _, _, .nil => .nil
  | _, _, .cons a b => .cons (a.go go) (DqAll.go go b)
theorem WnA.any (h : WnA bb Kf aw F H QA E r) (go : Go aw F H F1 H1 w1) : WnA bb Kf aw F1 H1 QA E r := by
  cases r with
  | ok ds w => exact fun vs F' H' g' r' => h vs F' H' (go.trans g') r'
  | ex c fn a w => exact fun cls dx F' H' g' x => h cls dx F' H' (go.trans g') x
  | bad => exact h
/-! displays -/
/-! subscripts -/
def oIx : D → D → Wl → Res := fun d e w => match d, e with
  | .lst ds, .int i => (match atI ds i with
    | some z => .ok z w
    | none => .bad)
  | .tup ds, .int i => (match atI ds i with
    | some z => .ok z w
    | none => .bad)
  | .con ds, .int i => (match atI ds i with
    | some z => .ok z w
    | none => .bad)
  | .well, .int i => (match atI w i with
    | some n => .ok (.int n) w
    | none => .bad)
  | .scr ns, .int i => (match atI ns i with
    | some n => .ok (.int n) w
    | none => .bad)
  | _, _ => .bad
theorem DvAll.at {vs : List V} {ds : List D} (h : DvAll Kf aw F vs ds) {i : Int} {d : D} (e : atI ds i = some d) : ∃ v, atI vs i = some v ∧ Dv Kf aw F v d := by
  unfold atI at e ⊢
  rw [h.length]
  cases q : ixN ds.length i with
  | none =>
    rw [q] at e
    cases e
  | some j =>
    rw [q] at e
    exact h.get (i := j) e
/-! slices -/
/-! calls of built-ins by values -/
def eCall (o : List D → Wl → Res) (g : AG) : EG := fun en w => match g en w with
  | .ok ds w1 => o ds w1
  | .ex c fn a w1 => .ex c fn a w1
  | .bad => .bad
variable {r' : List V → Hp → VK → Prop} {o' : List D → Wl → Res} {x : Str} {p : Pos} {id T : String}
end
end DL

/-! DL, part e: statements, targets, loops, comprehensions. -/
namespace DL
open PySem PySem.Spec L2
open PyProof.Rows hiding St

inductive Out where
  | nx (en : List Sl) (w : Wl)
  | rt (d : D) (w : Wl)
  | rf (ds : List D) (w : Wl)
  | bk (en : List Sl) (w : Wl)
  | ct (en : List Sl) (w : Wl)
  | ex (c fn : Str) (a : D) (en : List Sl) (w : Wl)
  | bad
abbrev SG := List Sl → Wl → Out
/-- an expression's answer, then a statement's end -/
def Res.thn (r : Res) (en : List Sl) (k : D → Wl → Out) : Out := match r with
  | .ok d w => k d w
  | .ex c fn a w => .ex c fn a en w
  | .bad => .bad
def AR.thn (r : AR) (en : List Sl) (k : List D → Wl → Out) : Out := match r with
  | .ok ds w => k ds w
  | .ex c fn a w => .ex c fn a en w
  | .bad => .bad
def Out.seq (r : Out) (k : SG) : Out := match r with
  | .nx en w => k en w
  | z => z

/-! ### slots that are stored -/
section
variable {K : Kt} {Kf : PySem.W.Frag} {f : Fx} {en : List Sl} {w : Wl} {σ : St} {F H : Hp} {i : Nat} {v : V} {d : D} {ds : List D} {vs : List V} {a : Addr}
end

/-! ### statements -/
def sPass : SG := fun en w => .nx en w
def sSeq (g h : SG) : SG := fun en w => (g en w).seq h
def sSet (i : Nat) (g : EG) : SG := fun en w => (g en w).thn en fun d w1 => .nx (en.set i (.dat d)) w1
def sRet (g : EG) : SG := fun en w => (g en w).thn en fun d w1 => .rt d w1
def sIf (c : EG) (g h : SG) : SG := fun en w => (c en w).thn en fun d w1 => match d with
  | .bl true => g en w1
  | .bl false => h en w1
  | _ => .bad
/-- xs[j] = e of an own list; of the generator -/
def sPut (i : Nat) (gi g : EG) : SG := fun en w => match en[i]? with
  | some (.own ds) => (g en w).thn en fun d w1 => (gi en w1).thn en fun k w2 => (match k with
    | .int n => (match ixN ds.length n with
      | some j => .nx (en.set i (.own (ds.set j d))) w2
      | none => .bad)
    | _ => .bad)
  | some (.dat .well) => (g en w).thn en fun d w1 => (gi en w1).thn en fun k w2 => (match k, d with
    | .int n, .int z => (match ixN w2.length n with
      | some j => .nx en (w2.set j z)
      | none => .bad)
    | _, _ => .bad)
  | _ => .bad
section
variable {X : Cx} {W : WX} {K : Kt} {Kf : PySem.W.Frag} {s s1 s2 s3 : Sg} {pos pos' : Pos} {a b c e : Expr} {es : List Expr} {ta tb tc te ti : TE} {ga gb gc ge gi : EG} {t u : TS} {g h : SG} {tA : TT} {st : Stmt} {sts sts2 : List Stmt} {x y : Str}
end
end DL

/-! DL, part f: targets, what is walked, for, while, comprehensions. -/
namespace DL
open PySem PySem.Spec L2
open PyProof.Rows hiding St

/-! ### targets: names, tuples of targets -/
abbrev BG := D → List Sl → Option (List Sl)
abbrev BGs := List D → List Sl → Option (List Sl)
def Agree (vs : List Nat) (σ σ' : St) : Prop := σ'.length = σ.length ∧ ∀ i, i ∉ vs → σ'[i]? = σ[i]?
section
variable {X : Cx} {K : Kt} {Kf : PySem.W.Frag} {pos : Pos} {e : Expr} {es : List Expr} {t t' : TG} {u : TGs} {b : BG} {bs : BGs} {vs vs' : List Nat} {x : Str} {k : Nat}
theorem Agree.refl (σ : St) : Agree vs σ σ := ⟨rfl, fun _ _ => rfl⟩
end

/-! ### what is walked -/
section
variable {X : Cx} {W : WX} {K : Kt} {Kf : PySem.W.Frag} {s : Sg} {bb : Bool} {pos p : Pos} {tg e a b c : Expr} {te : TE} {ge : EG} {t t' : TI} {tA : TA} {gA : AG}
/-! ranges -/
end

/-! ### for -/
/-! ### while, by so many turns at most -/
section
variable {X : Cx} {W : WX} {K : Kt} {Kf : PySem.W.Frag} {pos : Pos} {tg e c : Expr} {ti : TI} {gi : AG} {g : TG} {b : BG} {vs : List Nat} {sts : List Stmt} {tb : TS} {gb : SG} {tA : TT} {gc : EG}
end

/-! ### comprehensions -/
section
variable {X : Cx} {W : WX} {K : Kt} {Kf : PySem.W.Frag} {s : Sg} {pos : Pos} {tg e elt : Expr} {ti : TI} {gi : AG} {g : TG} {b : BG} {vs vs' : List Nat} {tt : TT} {gt ge : EG} {te : TE} {f : Fx} {en : List Sl} {w : Wl} {σ : St} {F H : Hp}
/-! name = [..] -/
/-! targets of an assignment -/
end
end DL

/-! DL, part g: defs and their calls. -/
namespace DL
open PySem PySem.Spec L2
open PyProof.Rows hiding St

/-- room for k calls, and no repr is running -/
structure Rg (k : Nat) (A : Around) : Prop where
  room : Room k A
  gd : A.guards = some []
theorem Rg.mono {j k : Nat} {A : Around} (r : Rg k A) (h : j ≤ k) : Rg j A := ⟨r.room.mono h, r.gd⟩
theorem Rg.u {k : Nat} {A : Around} (r : Rg k A) : A.units + 65 < cLine := by
  have h1 := r.room.un
  omega
/-- a def's promise, where no repr is running -/
structure FG (P : Program) (w : World) (K : PySem.W.Frag) (mg : Str → Option Value) (base : Heap) (k : Nat) (f : Addr) (fd : FuncData) (ps : List Str) (sp : Sp) : Prop where
  len : ∀ vs H Q E, sp vs H Q E → vs.length = ps.length
  run : ∀ (A : Around) (outer : List Env) (s : Shared) (H : Hp) (args : Args) (us : List Value) (vs : List V) (Q : VK) (E : XK),
    Rg k A → Env0 P w K mg base A outer s H → BindsTo s fd args (ps.zip us) → Vals vs us → sp vs H Q E → codeAny (model P w) A (.call (.ref f) args) (CR (L2.CX P w) outer P w H s Q E) s
/-- the answer of a body -/
def runG (m : Nat) (gs : SG) (ds : List D) (w : Wl) : Res := match gs (ds.map .dat ++ List.replicate (m - ds.length) .non) w with
  | .rt d w1 => .ok d w1
  | .nx _ w1 => .ok .non w1
  | .ex c fn a _ w1 => .ex c fn a w1
  | _ => .bad
section
variable {P : Program} {w : World} {K : Kt} {Kf : PySem.W.Frag} {mg : Str → Option Value} {base : Heap} {k : Nat} {f : Addr} {fd : FuncData} {ps N : List Str} {x qual : Str} {params : Arguments} {body : List Stmt} {scope : Scope} {dvs : List V} {kws : List (Str × V)}
theorem FG.mono {j : Nat} {sp : Sp} (F : FG P w Kf mg base j f fd ps sp) (h : j ≤ k) : FG P w Kf mg base k f fd ps sp := ⟨F.len, fun A outer s H args us vs Q E r => F.run A outer s H args us vs Q E (r.mono h)⟩
end

section
variable {P : Program} {w : World} {K : Kt} {mg : Str → Option Value} {base : Heap} {k : Nat} {f : Addr} {fd : FuncData} {ps N : List Str} {x qual : Str} {params : Arguments} {body : List Stmt} {scope : Scope} {dvs : List V} {kws : List (Str × V)}
end
/-! ### calls -/
def permL {α : Type} (xs : List α) (pm : List Nat) : List α := pm.filterMap (xs[·]?)
/-- how positional and keyword arguments come to the parameters -/
def KBp (K : Kt) (fd : FuncData) (ps : List Str) (n : Nat) (ks : List Str) (pm : List Nat) : Prop :=
  ∀ (s : Shared) (us ws : List Value), K.K.In s.heap → us.length = n → ws.length = ks.length → BindsTo s fd ⟨us, ks.zip ws⟩ (ps.zip (permL (us ++ ws) pm))
section
variable {X : Cx} {W : WX} {K : Kt} {Kf : PySem.W.Frag} {k n : Nat} {f : Addr} {fd : FuncData} {ps ks : List Str} {G : List D → Wl → Res} {x : Str} {p pos kpos : Pos} {e : Expr} {es : List Expr} {kws : List Keyword} {t tk : TA} {g gk : AG} {s : Sg} {te : TE} {ge : EG} {nm : Option Str} {pm : List Nat}
end
end DL

/-! DL, part h: built-ins. -/
namespace DL
open PySem PySem.Spec L2
open PyProof.Rows hiding St

section
variable {X : Cx} {W : WX} {K : Kt} {Kf : PySem.W.Frag} {s : Sg} {pos p : Pos} {a b c e : Expr} {es : List Expr} {t : TA} {g : AG}
theorem DqAll.one {aw : Bs} {F H : Hp} {vs : List V} {d : D} (h : DqAll Kf aw F H vs [d]) : ∃ v, vs = [v] ∧ Dq Kf aw F H v d := by
  cases h with
  | cons h1 h2 =>
    cases h2
    exact ⟨_, rfl, h1⟩
theorem DqAll.two {aw : Bs} {F H : Hp} {vs : List V} {d e : D} (h : DqAll Kf aw F H vs [d, e]) : ∃ v u, vs = [v, u] ∧ Dq Kf aw F H v d ∧ Dq Kf aw F H u e := by
  cases h with
  | cons h1 h2 =>
    cases h2 with
    | cons h2 h3 =>
      cases h3
      exact ⟨_, _, rfl, h1, h2⟩
/-! len -/
/-! tuple(x), list(x) -/
/-! sum, all, any, max, min -/
/-! abs, int, str, divmod, type -/
def oInt : List D → Wl → Res := fun ds w => match ds with
  | [.int i] => .ok (.int i) w
  | [.bl b] => .ok (.int (if b then 1 else 0)) w
  | _ => .bad
/-! repr -/
end
end DL

/-! DL, part i: a def of data by its name; repr. -/
namespace DL
open PySem PySem.Spec L2
open PyProof.Rows hiding St

section
variable {P : Program} {w : World} {K : Kt} {Kf : PySem.W.Frag} {mg : Str → Option Value} {base : Heap} {k j m n : Nat} {x y : Str} {G : List D → Wl → Res} {params : Arguments} {body : List Stmt} {scope : Scope} {N ps ks : List Str} {pm : List Nat} {fd : FuncData} {f : Addr}
theorem FunD.kb (F : FunD K x y params body scope [] [] f fd)
    (h : ∀ (kV doc pm' : Value) (an : Option Addr) (cdv ct : Value) (us ws : List Value), us.length = m → ws.length = ks.length → bindArgs (PySem.W.fnOf x y params body scope .none kV doc pm' an cdv ct) ⟨us, ks.zip ws⟩ = pure (ps.zip (permL (us ++ ws) pm))) : KBp K fd ps m ks pm := by
  obtain ⟨oc, od, dV, kV, doc, pm', an, cdv, ct, osl, rfl, lk, hcd, hdf, _⟩ := F.ex
  intro s us ws _ h1 h2
  rcases hdf with ⟨_, rfl⟩ | ⟨q, _⟩
  · exact .of_eq (h kV doc pm' an cdv ct us ws h1 h2)
  · exact absurd rfl q
variable {X : Cx} {W : WX} {p pos : Pos} {e : Expr} {es : List Expr} {kws : List Keyword} {t tk' : TA} {g gk : AG}
end

/-! ### repr -/
section
variable {X : Cx} {W : WX} {K : Kt} {Kf : PySem.W.Frag} {s : Sg} {pos p : Pos} {a : Expr} {t : TA} {g : AG}
end
end DL

/-! DL, part k: the generator's own statement, code that is never reached, chains as tests, own comprehensions. -/
namespace DL
open PySem PySem.Spec L2
open PyProof.Rows hiding St

/-- x[k], y = divmod(a, b), x the generator -/
def sTake (i j : Nat) (gk ga gb : EG) : SG := fun en w => match en[i]? with
  | some (.dat .well) => (ga en w).thn en fun d w1 => (gb en w1).thn en fun e w2 => (match d, e with
    | .int a, .int b => if 0 < b ∧ b < 1073741824 then (gk en w2).thn en fun k w3 => (match k with
      | .int n => (match ixN w3.length n with
        | some jx => .nx (en.set j (.dat (.int (a % b)))) (w3.set jx (a / b))
        | none => .bad)
      | _ => .bad) else .bad
    | _, _ => .bad)
  | _ => .bad
section
variable {X : Cx} {W : WX} {K : Kt} {Kf : PySem.W.Frag} {s s1 s2 s3 : Sg} {pos p : Pos} {a b c e : Expr} {es : List Expr} {t : TA} {g : AG} {ta tb tc : TE} {ga gb gc : EG} {st : Stmt} {sts : List Stmt} {x y : Str}
end
end DL

/-! DL, part m: enumerate of tuples, zip. -/
namespace DL
open PySem PySem.Spec L2
open PyProof.Rows hiding St
open PySem.AutoSeq1 (wpAny_loadPart')
/-! ### enumerate(tuple) -/
end DL

/-! DL, part n: enumerate and zip, over data. -/
namespace DL
open PySem PySem.Spec L2
open PyProof.Rows hiding St
section
variable {X : Cx} {W : WX} {K : Kt} {Kf : PySem.W.Frag} {b bb : Bool} {pos p tpos : Pos} {a e : Expr} {elts : List Expr} {kk : Nat} {tA : TA} {gA : AG} {aw : Bs} {q r : Addr} {F1 H1 F H : Hp} {vs us : List V} {ds es : List D} {w : Wl} {v : V} {d : D}
end
end DL

/-! DL, part o: sorted, ranges as values. -/
namespace DL
open PySem PySem.Spec L2
open PyProof.Rows hiding St
open PySem.W (EachIs AllAlike Sortable dataLe)
/-! ### ranges as values -/
section
variable {X : Cx} {W : WX} {K : Kt} {Kf : PySem.W.Frag} {s : Sg} {bb : Bool} {pos p : Pos} {tg a b e : Expr} {t : TA} {g : AG} {te : TE} {ge : EG}
/-! ### sorted -/
end
end DL

/-! DL, part p: a lambda of one parameter, handed to a def. -/
namespace DL
open PySem PySem.Spec L2
open PyProof.Rows hiding St
section
variable {X : Cx} {pins : List (Addr × Obj)} {σ : L2.St} {H HZ : Hp} {s s1 : Shared} {a : Str} {scope : Scope} {f c' : Addr}
/-- what the making of a lambda does to the heap -/
structure Grow (T : List (Addr × Str)) (H H1 : Hp) : Prop where
  hh : LamX.ExtN H H1
  ne : ∀ b, H b ≠ none → H1 b ≠ none
  tb : LamX.Tabs T H1
end
end DL

/-! DL, part q: a def that gets a lambda as its last argument. -/
namespace DL
open PySem PySem.Spec L2
open PyProof.Rows hiding St
section
variable {X : Cx} {W : WX} {K : Kt} {Kf : PySem.W.Frag} {k j k2 : Nat} {x a : Str} {G : (D → Wl → Res) → List D → Wl → Res} {s1 s2 s3 : Sg} {e1 e2 body : Expr} {t1 t2 tb : TE} {g1 g2 gb : EG} {params : Arguments} {scope : Scope} {c P : Addr} {jj : Nat} {p lpos pos : Pos}
theorem Go.grow {aw : Bs} {F H H1 : Hp} {w : Wl} (g : Go aw F H F H w) (h : Grow aw.T H H1) : Go aw F H F H1 w :=
  ⟨Same.refl _, fun b o _ n e => h.hh b o e n, h.ne, fun _ => h.tb, fun b o e => h.hh b o (g.sub b o e) fun ps z => g.nt b ps (by rw [e, z]), g.nt, fun _ _ h => h, fun a ea => h.hh _ _ (g.wl a ea) fun _ z => nomatch z⟩
end
end DL

/-! DL, part r: a new generator, handed to a def. -/
namespace DL
open PySem PySem.Spec L2
open PyProof.Rows hiding St
section
variable {X : Cx} {W : WX} {K : Kt} {k j j2 n : Nat} {f : Addr} {fd : FuncData} {ps : List Str} {GR GW : List D → Wl → Res} {x y : Str} {p p2 pos pos2 : Pos} {e : Expr} {es : List Expr} {t : TA} {g : AG} {sp : Sp}
/-- behind the run with the new generator at a -/
theorem Go.well {aw : Bs} {a : Addr} {F H F1 H1 F2 H2 : Hp} {w w2 : Wl} (g : Go aw F H F1 H1 w) (n : H a = none) (hw : ∀ q, aw.a = some q → H q ≠ none) (g2 : Go ⟨some a, aw.T⟩ F1 H1 F2 H2 w2) : Go aw F H F2 H2 w := by
  refine ⟨g.ff.trans g2.ff, fun b o nb k h => ?_, fun b h => g2.ne b (g.ne b h), fun h => g2.tb (g.tb h), g2.sub, g2.nt, fun b nb h => g2.fr b (g.ne b nb) (g.fr b nb h), fun q hq => ?_⟩
  · exact g2.hh b o (fun z => by cases z; rw [n] at h; cases h) k (g.hh b o nb k h)
  · exact g2.hh q _ (fun z => by cases z; exact hw _ hq n) (fun _ z => nomatch z) (g.wl q hq)
end
end DL

/-! DL, part s: list(range), gcd, isinstance. -/
namespace DL
open PySem PySem.Spec L2
open PyProof.Rows hiding St
section
variable {X : Cx} {W : WX} {K : Kt} {Kf : PySem.W.Frag} {s s1 s2 : Sg} {pos pos2 p p2 : Pos} {a b e : Expr} {es : List Expr} {ta tb : TE} {ga gb : EG} {t : TA} {g : AG}
end
end DL

/-! DL, part t: a def that gets a def as its last argument. -/
namespace DL
open PySem PySem.Spec L2
open PyProof.Rows hiding St
section
variable {X : Cx} {W : WX} {K : Kt} {k j k2 : Nat} {x y : Str} {G : (D → Wl → Res) → List D → Wl → Res} {Gf : List D → Wl → Res} {e1 e2 e3 : Expr} {tA : TA} {gA : AG} {p pos : Pos}
end
end DL

/-! DL, part u: the end of a law, its def's promise asked where the caller stands. -/
namespace DL
open PySem PySem.Spec L2
open PyProof.Rows hiding St
section
variable {h h' : Heap} {a : Addr} {so : Obj} {ns : List Int} {off : Bool} {tabs : List Addr} {b : Addr} {o : Obj} {vs : List Value}
end
end DL

/-! DL, part v: the head's facts without the code tables; from a law's def to its row. -/
namespace DL
open PySem PySem.Spec L2
open PyProof.Rows hiding St
/-! ### the Hook -/
def isTab (o : Option Obj) : Bool := match o with
  | some ⟨.none, _, .fields _, _⟩ => true
  | _ => false
/-- no table of codes is in K -/
def NoTab (K : PySem.W.Frag) : Prop := ∀ a o, K.lookup a = some o → isTab (some o) = false
/-- the code of the module's def x, its table -/
def codeAt (K : PySem.W.Frag) (x : Str) : Option (Addr × Addr) := match K.lookup (He.ga K x) with
  | some ⟨_, _, .func fd, _⟩ => (match fd.code with
    | .ref c => (match K.lookup c with
      | some ⟨_, _, .fields vs, _⟩ => (match (vs[11]? : Option Value) with
        | some (.ref P) => some (c, P)
        | _ => none)
      | _ => none)
    | _ => none)
  | _ => none
def tabAt (K : PySem.W.Frag) (x : Str) : Option Addr := (codeAt K x).map (·.2)
/-- the tables of these defs stand apart -/
def apart (K : PySem.W.Frag) (xs : List Str) : Bool := (xs.map (tabAt K)).all (·.isSome) && decide (xs.map (tabAt K)).Nodup
theorem lookup_filter {p : Addr → Bool} {K : PySem.W.Frag} {a : Addr} {o : Obj} : ∀ l : List (Addr × Obj), (l.lookup a = some o) → (a, o) ∈ l
  | [], h => by cases h
  | (b, u) :: l, h => by
    rw [List.lookup_cons] at h
    split at h
    · rename_i e
      cases h
      have : a = b := by simpa using e
      rw [this]
      exact List.mem_cons_self
    · exact List.mem_cons_of_mem _ (lookup_filter (p := p) (K := K) l h)
end DL

/-! DL, part w: the code tables of the defs that make lambdas; the law's promise at the beginning. -/
namespace DL
open PySem PySem.Spec L2
open PyProof.Rows hiding St
section
variable {K : PySem.W.Frag} {h : Heap} {mg : Str → Option Value} {q : Program} {xs : List Str} {x : Str} {base : Heap}
end
end DL

/-! DL, part x: what the laws have in common: the generator of draws, its beginning, the law itself. -/
namespace DL
open PySem PySem.Spec L2
open PyProof.Rows hiding St
/-- the generator, good for k draws more -/
def Wk (k : Nat) (w : Wl) : Prop := ∃ a b c : Int, w = [a, b, c] ∧ 0 ≤ a ∧ 0 ≤ b ∧ b < 2147483549 ∧ 0 ≤ c ∧ c + k < 10 ^ 9
theorem log_lt {i : Int} {n : Nat} (h0 : 0 ≤ i) (h : i < 2 ^ n) (hn : 0 < n) : i.natAbs.log2 < n := by
  have : i.natAbs < 2 ^ n := by
    have e : (i.natAbs : Int) = i := Int.natAbs_of_nonneg h0
    have : (i.natAbs : Int) < ((2 ^ n : Nat) : Int) := by rw [e]; push_cast; exact h
    exact Int.ofNat_lt.mp this
  by_cases z : i.natAbs = 0
  · rw [z]
    exact hn
  · exact (Nat.log2_lt z).mpr this
theorem mulSmall {i j : Int} (hi : 0 ≤ i) (hi2 : i < 2 ^ 64) (hj : 0 ≤ j) (hj2 : j < 2 ^ 64) : CMulW i j := by
  have h1 := log_lt (i := i) (n := 64) hi (by exact hi2) (by omega)
  have h2 := log_lt (i := j) (n := 64) hj (by exact hj2) (by omega)
  unfold CMulW
  omega
/-! ### the law -/
end DL

/-! DL, part y: what printed functions answer on data that stand for lists, pairs and so on. -/
namespace DL
open PySem PySem.Spec L2
open PyProof.Rows hiding St

section
variable {α β : Type} {b : BG} {gt ge : EG} {gi : AG} {S en : List Sl} {w : Wl} {vs : List Nat}
end

/-! ### equality of data -/
/-- what stands for unlike things is unlike -/
def Eqs {α : Type} [DecidableEq α] (enc : α → D) : Prop := ∀ x y, (enc x).eqv (enc y) = decide (x = y)
def Shp (k : Nat) (d : D) : Prop := d.isP = true ∧ d.toP.canLay0 = true ∧ d.toP.depth ≤ k
theorem Shp.mono {k m : Nat} {d : D} (h : Shp k d) (hk : k ≤ m) : Shp m d := ⟨h.1, h.2.1, Nat.le_trans h.2.2 hk⟩
theorem shp_int (i : Int) (k : Nat) : Shp k (.int i) := ⟨rfl, rfl, Nat.zero_le _⟩
theorem shps {k : Nat} : ∀ {ds : List D}, (∀ d ∈ ds, Shp k d) → arePs ds = true ∧ PyData.canLayAll0 (toPs ds) = true ∧ PyData.depthAll (toPs ds) ≤ k
  | [], _ => ⟨rfl, rfl, Nat.zero_le _⟩
  | d :: ds, h => by
    obtain ⟨a, b, c⟩ := h d List.mem_cons_self
    obtain ⟨a', b', c'⟩ := shps (k := k) (ds := ds) fun x hx => h x (List.mem_cons_of_mem _ hx)
    refine ⟨?_, ?_, ?_⟩
    · show (d.isP && arePs ds) = true
      rw [a, a']; rfl
    · show (d.toP.canLay0 && PyData.canLayAll0 (toPs ds)) = true
      rw [b, b']; rfl
    · show max d.toP.depth (PyData.depthAll (toPs ds)) ≤ k
      omega
theorem shp_tup {k : Nat} {ds : List D} (h : ∀ d ∈ ds, Shp k d) : Shp (k + 1) (.tup ds) := by
  obtain ⟨a, b, c⟩ := shps h
  exact ⟨a, b, Nat.succ_le_succ c⟩
section
variable {α β γ : Type} [DecidableEq α] [DecidableEq β] [DecidableEq γ] {enc : α → D} {en2 : β → D} {en3 : γ → D}
theorem eqvAll_map (h : Eqs enc) : ∀ xs ys : List α, PyData.eqvAll (toPs (xs.map enc)) (toPs (ys.map enc)) = decide (xs = ys)
  | [], [] => rfl
  | [], _ :: _ => rfl
  | _ :: _, [] => rfl
  | x :: xs, y :: ys => by
    show ((enc x).eqv (enc y) && PyData.eqvAll (toPs (xs.map enc)) (toPs (ys.map enc))) = _
    rw [h x y, eqvAll_map h xs ys]
    by_cases e : x = y <;> by_cases e2 : xs = ys <;> simp [e, e2]
theorem Eqs.tup (h : Eqs enc) : Eqs fun xs : List α => D.tup (xs.map enc) := fun xs ys => eqvAll_map h xs ys
theorem Eqs.lst (h : Eqs enc) : Eqs fun xs : List α => D.lst (xs.map enc) := fun xs ys => eqvAll_map h xs ys
theorem Eqs.pair (h : Eqs enc) (h2 : Eqs en2) : Eqs fun p : α × β => D.tup [enc p.1, en2 p.2] := fun p q => by
  show ((enc p.1).eqv (enc q.1) && ((en2 p.2).eqv (en2 q.2) && true)) = _
  rw [h, h2]
  obtain ⟨a, b⟩ := p
  obtain ⟨c, d⟩ := q
  by_cases e : a = c <;> by_cases e2 : b = d <;> simp [e, e2]
end
/-! ### sets: ascending tuples of indexes -/
abbrev IS := List Int
/-! ### the text of data -/
def Low (x : Str) : Prop := ∀ c ∈ x.cps.toList, c < 128
end DL

/-! DL, part z: statements of printed functions, loops, draws. -/
namespace DL
open PySem PySem.Spec L2
open PyProof.Rows hiding St
section
variable {α β : Type} {b : BG} {gt ge g : EG} {gi : AG} {S en en1 en2 : List Sl} {w w1 w2 : Wl} {vs : List Nat} {body h k : SG} {d : D} {i : Nat}
theorem Wk.mono {k m : Nat} {w : Wl} (h : Wk k w) (hm : m ≤ k) : Wk m w := by
  obtain ⟨a, b, c, e, h1, h2, h3, h4, h5⟩ := h
  exact ⟨a, b, c, e, h1, h2, h3, h4, by omega⟩
end
/-! ### set families -/
/-- all sets of k indexes from lo on, ascending -/
def setsFrom (lo : Int) : Nat → List IS
  | 0 => []
  | k + 1 => [lo] :: ((setsFrom (lo + 1) k).map (lo :: ·) ++ setsFrom (lo + 1) k)
def ssets (n : Nat) : List IS := setsFrom 0 n
def isSet (n : Int) (s : IS) : Prop := s ≠ [] ∧ s.Pairwise (· < ·) ∧ ∀ i ∈ s, 0 ≤ i ∧ i < n
theorem mem_setsFrom : ∀ (k : Nat) (lo : Int) (s : IS), s ∈ setsFrom lo k ↔ s ≠ [] ∧ s.Pairwise (· < ·) ∧ ∀ i ∈ s, lo ≤ i ∧ i < lo + k
  | 0, lo, s => by
    simp only [setsFrom, List.not_mem_nil, false_iff]
    rintro ⟨h1, _, h2⟩
    cases s with
    | nil => exact h1 rfl
    | cons a r =>
      have := h2 a List.mem_cons_self
      omega
  | k + 1, lo, s => by
    rw [setsFrom, List.mem_cons, List.mem_append, List.mem_map]
    constructor
    · rintro (rfl | ⟨t, ht, rfl⟩ | h)
      · exact ⟨by simp, by simp, fun i hi => by simp at hi; omega⟩
      · obtain ⟨h1, h2, h3⟩ := (mem_setsFrom k (lo + 1) t).mp ht
        refine ⟨by simp, List.pairwise_cons.mpr ⟨fun a ha => by have := h3 a ha; omega, h2⟩, fun i hi => ?_⟩
        rcases List.mem_cons.mp hi with rfl | hi
        · omega
        · have := h3 i hi
          omega
      · obtain ⟨h1, h2, h3⟩ := (mem_setsFrom k (lo + 1) s).mp h
        exact ⟨h1, h2, fun i hi => by have := h3 i hi; omega⟩
    · rintro ⟨h1, h2, h3⟩
      cases s with
      | nil => exact absurd rfl h1
      | cons a r =>
        obtain ⟨p1, p2⟩ := List.pairwise_cons.mp h2
        have ha := h3 a List.mem_cons_self
        by_cases e : a = lo
        · subst e
          cases r with
          | nil => exact .inl rfl
          | cons c r =>
            refine .inr (.inl ⟨c :: r, (mem_setsFrom k (a + 1) _).mpr ⟨by simp, p2, fun i hi => ?_⟩, rfl⟩)
            have := p1 i hi
            have := h3 i (List.mem_cons_of_mem _ hi)
            omega
        · refine .inr (.inr ((mem_setsFrom k (lo + 1) _).mpr ⟨h1, h2, fun i hi => ?_⟩))
          have := h3 i hi
          rcases List.mem_cons.mp hi with rfl | hi
          · omega
          · have := p1 i hi
            omega
theorem mem_ssets {n : Nat} {s : IS} : s ∈ ssets n ↔ isSet n s := by
  unfold ssets isSet
  rw [mem_setsFrom]
  simp
end DL

/-! DL, part zb: data that can be shown. -/
namespace DL
open PySem PySem.Spec L2
open PyProof.Rows hiding St
/-- nested k deep at most, with a text of b signs at most: it can be shown -/
structure Shw (k b : Nat) (d : D) : Prop where
  shp : Shp k d
  show_ : d.toP.showable = true
  len : d.toP.shown.length ≤ b
  low : Low d.toP.shown
theorem Shw.mono {k b k' b' : Nat} {d : D} (h : Shw k b d) (hk : k ≤ k') (hb : b ≤ b') : Shw k' b' d := ⟨h.shp.mono hk, h.show_, Nat.le_trans h.len hb, h.low⟩
end DL

/-! DL, part zc: a, b, c = x, y, [] with new lists that are the body's own. -/
namespace DL
open PySem PySem.Spec L2
open PyProof.Rows hiding St
section
variable {X : Cx} {W : WX} {K : Kt} {Kf : PySem.W.Frag} {s : Sg} {pos : Pos} {e : Expr} {es : List Expr} {te : TE} {ge : EG} {t : TA} {g : AG} {aw : Bs} {F H F1 H1 F' H' : Hp} {w w1 : Wl} {bs : List Bool} {vs : List V} {ds : List D}
end
section
variable {X : Cx} {W : WX} {K : Kt} {Kf : PySem.W.Frag} {f : Fx} {en : List Sl} {w w1 : Wl} {σ : St} {F H H0 : Hp} {v : V} {d : D} {b : Bool} {bs : List Bool} {vs : List V} {ds : List D}
end
end DL

/-! DL, part zd: the head's facts where names come from math. -/
namespace DL
open PySem PySem.Spec L2
open PyProof.Rows hiding St
def impOk (K : PySem.W.Frag) (p : Str × String) : Bool := He.eqO (PySem.W.nsIn K mainGlobals p.1) (some (some (.builtin p.2)))
/-- a module's constant tuple of ints -/
def intsAre : List Value → List Int → Bool
  | [], [] => true
  | .int j _ :: r, i :: is => decide (j = i) && intsAre r is
  | _, _ => false
def conData (o : Obj) (is : List Int) : Bool := match o.data with
  | .seq its _ => decide (its.size ≤ sizeLine) && intsAre its.toList is
  | _ => false
def conOk (K : PySem.W.Frag) (p : Str × List Int) : Bool := He.eqO (PySem.W.nsIn K mainGlobals p.1) (some (some (.ref (He.ga K p.1)))) && match K.lookup (He.ga K p.1) with
  | some o => decide (o.cls = .type "tuple") && conData o p.2
  | none => false
section
variable {X : Cx} {W : WX} {K : Kt} {pos : Pos}
end
end DL

/-! DL, part ze: a body's own dict, its keys tuples of ints. -/
namespace DL
open PySem PySem.Spec L2
open PyProof.Rows hiding St
abbrev Kvs := List (List Int × D)
def getK (kvs : Kvs) (k : List Int) : Option D := (kvs.find? fun kv => decide (kv.1 = k)).map (·.2)
theorem inl_inj {a b : List Int} (h : a.map (Sum.inl : Int → Key) = b.map Sum.inl) : a = b := (List.map_inj_right fun _ _ e => Sum.inl.inj e).mp h
section
variable {Kf : PySem.W.Frag} {aw : Bs} {F H : Hp} {us : List (List Key × V)} {kvs : Kvs} {k : List Int} {v : V} {d : D}
theorem getK_pos {p : List Int × D} {r : Kvs} (e : p.1 = k) : getK (p :: r) k = some p.2 := by simp [getK, List.find?_cons, e]
theorem getK_neg {p : List Int × D} {r : Kvs} (e : ¬ p.1 = k) : getK (p :: r) k = getK r k := by simp [getK, List.find?_cons, e]
theorem KVs.val (h : KVs Kf aw F us kvs) (k : List Int) : (getK kvs k = none ∧ valV us (k.map Sum.inl) = none) ∨ ∃ d v, getK kvs k = some d ∧ valV us (k.map Sum.inl) = some v ∧ Dv Kf aw F v d := by
  induction h with
  | nil => exact .inl ⟨rfl, rfl⟩
  | @cons k' v d us kvs r _ ih =>
    by_cases e : k' = k
    · subst e
      exact .inr ⟨d, v, getK_pos rfl, valV_pos rfl, r⟩
    · have e' : ¬ k'.map (Sum.inl : Int → Key) = k.map Sum.inl := fun z => e (inl_inj z)
      rw [getK_neg (p := (k', d)) e, valV_neg (p := (k'.map Sum.inl, v)) e']
      exact ih
theorem KVs.any (h : KVs Kf aw F us kvs) (k : List Int) : (us.any fun kv => decide (kv.1 = k.map Sum.inl)) = kvs.any fun kv => decide (kv.1 = k) := by
  induction h with
  | nil => rfl
  | @cons k' v d us kvs r _ ih =>
    rw [List.any_cons, List.any_cons, ih]
    congr 1
    by_cases e : k' = k
    · subst e; simp
    · have e' : ¬ k'.map (Sum.inl : Int → Key) = k.map Sum.inl := fun z => e (inl_inj z)
      rw [decide_eq_false e, decide_eq_false e']
theorem KVs.length (h : KVs Kf aw F us kvs) : us.length = kvs.length := by
  induction h with
  | nil => rfl
  | cons _ _ ih => exact congrArg (· + 1) ih
end
/-! ### the state -/
section
variable {K : Kt} {Kf : PySem.W.Frag} {f : Fx} {en : List Sl} {w w1 : Wl} {σ : St} {F H : Hp} {a p : Addr} {us us' : List (List Key × V)} {kvs lvs : Kvs} {i : Nat}
end
/-! ### rules -/
section
variable {X : Cx} {W : WX} {K : Kt} {s s1 s2 : Sg} {pos pos' apos cpos p2 : Pos} {x : Str} {e g' : Expr} {te tg : TE} {ge gg : EG} {i : Nat}
end
end DL

/-! DL, part zf: x = {k: v for .. in .. if ..}, the keys tuples of ints. -/
namespace DL
open PySem PySem.Spec L2
open PyProof.Rows hiding St
/-! ### the hand layer's side -/
section
variable {X : Cx} {pins : List (Addr × Obj)} {σ : L2.St} {H : Hp} {s : Shared}
end
end DL

/-! DL, part zg: the data side of a dict's comprehension; k in x, k not in x. -/
namespace DL
open PySem PySem.Spec L2
open PyProof.Rows hiding St
section
variable {K : Kt} {W : WX} {f : Fx} {en : List Sl} {w : Wl} {σ : L2.St} {F H : Hp} {p : Addr} {us us' : List (List Key × V)}
variable {ti : TI} {gi : AG} {g : TG} {b : BG} {vs vs' : List Nat} {tt : TT} {gt gk gv : EG} {tk tv : TE} {s1 s2 : Sg}
end
section
variable {X : Cx} {W : WX} {K : Kt} {s1 s2 : Sg} {pos : Pos} {x : Str} {tg e : Expr} {ti : TI} {gi : AG} {g : TG} {b : BG} {vs' : List Nat}
end
end DL

/-! DL, part zh: try: .. except C as e: ... -/
namespace DL
open PySem PySem.Spec L2
open PyProof.Rows hiding St
section
variable {X : Cx} {W : WX} {K : Kt} {pos pos' np : Pos} {x n : Str} {C : Value} {i : Nat} {body suite : List Stmt} {b₀ : Stmt} {tb : WX → TS} {ts : Addr → Value → Option Addr → TS} {gb : SG} {gs : Bool → Str → Str → D → SG} {fe : Str → Bool}
theorem Go.from {aw : Bs} {F0 H0 F H F' H' : Hp} {w w' : Wl} (g : Go aw F0 H0 F H w) (g' : Go aw F H F' H' w') : Go aw F0 H0 F' H' w' := g.trans g'
end
end DL

/-! DL, part zi: in an except suite: isinstance(e, C), e.field. -/
namespace DL
open PySem PySem.Spec L2
open PyProof.Rows hiding St
section
variable {X : Cx} {W : WX} {K : Kt} {pos p p2 p3 : Pos} {n x fld : Str} {i : Nat} {l : Lm} {oe : Obj} {cls : Value} {dx : Option Addr} {pn : List (Addr × Obj)} {c fn : Str} {d : D} {b : Bool} {P : Prop}
end
end DL

/-! DL, part zj: count and index of a bool in a list of bools. -/
namespace DL
open PySem PySem.Spec L2
open PyProof.Rows hiding St
section
variable {X : Cx} {W : WX} {K : Kt} {pos ap : Pos} {a b : Expr} {ta tb : TE} {ga gb : EG} {s1 s2 : Sg} {r : V → List V → Hp → VK → Prop} {o : List D → D → Wl → Res}
end
end DL

/-! DL, part zk: t[::-1] of a tuple. -/
namespace DL
open PySem PySem.Spec L2 PySem.W HT
open PyProof.Rows hiding St
section
variable {prog : Program} {w : World} {A : Around} {E : Value → Shared → Prop} {s : Shared}
end
section
variable {X : Cx} {W : WX} {K : Kt} {pos : Pos} {a : Expr} {ta : TE} {ga : EG} {s1 : Sg}
end
end DL

set_option exponentiation.threshold 30000
/-! DL, part zl: lcm, t * k, own lists by comprehension. -/
namespace DL
open PySem PySem.Spec L2
open PyProof.Rows hiding St
section
variable {X : Cx} {W : WX} {K : Kt} {pos p : Pos} {a b : Expr} {es : List Expr} {t : TA} {g : AG} {ta tb : TE} {ga gb : EG} {s1 s2 : Sg}
end
/-! t * 1 -/
section
variable {X : Cx} {W : WX} {K : Kt} {pos p : Pos} {a b : Expr} {ta tb : TE} {ga gb : EG} {s1 s2 : Sg}
end
end DL

/-! DL, part zm: own lists by comprehension; x.pop(i) of an own list. -/
namespace DL
open PySem PySem.Spec L2
open PyProof.Rows hiding St
section
variable {X : Cx} {W : WX} {K : Kt} {pos pos' : Pos} {tg e elt : Expr} {s : Sg} {ti : TI} {gi : AG} {g : TG} {b : BG} {vs' : List Nat} {te : TE} {ge : EG} {x : Str}
end
end DL

/-! DL, part zn: sorted of tuples the first of which is empty. -/
namespace DL
open PySem PySem.Spec PySem.Calls PySem.SeqAt PySem.W
open PyProof.Rows hiding St
section
variable {prog : Program} {w : World} {A : Around} {s : Shared}
end
section
variable {M : Model} {A : Around} {E : Value → Shared → Prop} {s : Shared}
end
section
variable {prog : Program} {w : World} {A : Around} {s : Shared}
end
section
variable {β : Type} {enc : β → PyData} {R : Value → β → Prop} {bs : List β} {b₀ : β} {vs : List Value} {prog : Program} {w : World} {A : Around} {E : Value → Shared → Prop} {s : Shared}
end
end DL
namespace DL
open PySem PySem.Spec L2
open PyProof.Rows hiding St
section
variable {X : Cx} {W : WX} {K : Kt} {Kf : PySem.W.Frag} {pos p : Pos} {a : Expr} {t : TA} {g : AG}
end
end DL

/-! DL, part zo: xs += ys of an own list. -/
namespace DL
open PySem PySem.Spec L2
open PyProof.Rows hiding St
section
variable {X : Cx} {W : WX} {K : Kt} {s : Sg} {elt : Expr} {te : TE} {ge : EG} {pos : Pos}
end
end DL

/-! DL, part zp: index of an int in a list of ints. -/
namespace DL
open PySem PySem.Spec L2
open PyProof.Rows hiding St
section
variable {X : Cx} {W : WX} {K : Kt} {pos ap : Pos} {a b : Expr} {ta tb : TE} {ga gb : EG} {s1 s2 : Sg} {r : V → List V → Hp → VK → Prop} {o : List D → D → Wl → Res}
end
end DL

/-! DL, part zq: an own list is frozen before a statement. -/
namespace DL
open PySem PySem.Spec L2
open PyProof.Rows hiding St
section
variable {K : Kt} {X : Cx} {W : WX} {f : Fx} {en : List Sl} {w : Wl} {σ : St} {F H : Hp} {i : Nat} {ds : List D} {st : Stmt} {t : TS} {g : SG}
end
end DL

/-! DL, part zr: the head's facts over a told list of addresses. -/
namespace DL
open PySem PySem.Spec L2
open PyProof.Rows hiding St
def noT (g : Addr → Option Obj) (l : List Addr) : List Addr := l.filter fun a => !isTab (g a)
theorem noTab_l (g : Addr → Option Obj) (l : List Addr) : NoTab (He.frG g (noT g l)) := fun a o e => by
  have g1 := He.frG_at (noT g l) e
  have m := lookup_filter (p := fun _ => true) (K := []) _ e
  unfold He.frG at m
  obtain ⟨b, hb, eb⟩ := List.mem_filterMap.mp m
  unfold noT at hb
  have hb2 := (List.mem_filter.mp hb).2
  cases q : g b with
  | none => rw [q] at eb; cases eb
  | some u =>
    rw [q] at eb hb2
    cases eb
    simpa using hb2
def hookL (l : List Addr) (fa : List He.Fa) (fn : List He.DefD) (xs : List Str) (ims : List (Str × String)) (cs : List (Str × List Int)) : PySem.W.Hook where
  α := He.AlD × Bool
  obs := fun s => (He.obsD fa fn (He.frG s.heap.get? (noT s.heap.get? l)), apart (He.frG s.heap.get? (noT s.heap.get? l)) xs && ims.all (impOk (He.frG s.heap.get? (noT s.heap.get? l))) && cs.all (conOk (He.frG s.heap.get? (noT s.heap.get? l))))
  val := fun _ => (He.valD fn, true)
  says := fun _ h => ∃ K : PySem.W.Frag, K.In h ∧ He.SaysD fa fn K ∧ NoTab K ∧ (apart K xs && ims.all (impOk K) && cs.all (conOk K)) = true
  of := fun _ _ e => ⟨_, He.frG_in, congrArg Prod.fst e, noTab_l _ _, congrArg Prod.snd e⟩
  keeps := fun _ _ _ ⟨K, hK, c⟩ k => ⟨K, PySem.W.Frag.In.keeps hK k, c⟩
def obsL (l : List Addr) (fa : List He.Fa) (fn : List He.DefD) (xs : List Str) (ims : List (Str × String)) (cs : List (Str × List Int)) (g : Addr → Option Obj) : He.AlD × Bool := (He.obsD fa fn (He.frG g (noT g l)), apart (He.frG g (noT g l)) xs && ims.all (impOk (He.frG g (noT g l))) && cs.all (conOk (He.frG g (noT g l))))
end DL

/-! DL, part zs: comprehensions with two sources. -/
namespace DL
open PySem PySem.Spec L2
open PyProof.Rows hiding St
section
variable {X : Cx} {W : WX} {K : Kt} {Kf : PySem.W.Frag} {s : Sg} {pos : Pos} {tg e tg1 e1 elt : Expr} {ti ti1 : TI} {gi gi1 : AG} {g g1 : TG} {b b1 : BG} {vs vs' vs1 vs1' : List Nat} {ge : EG} {te : TE} {f : Fx} {en : List Sl} {w : Wl} {σ : St} {F H : Hp}
end
end DL

namespace PF
open PySem PySem.Spec L2 DL
open PyProof.Rows hiding St
end PF

/-! What the program's functions answer. -/
namespace PF
open PySem PySem.Spec L2 DL
open PyProof.Rows hiding St
section
variable {w : Wl}
instance (n : Int) (s : IS) : Decidable (isSet n s) := inferInstanceAs (Decidable (_ ∧ _ ∧ _))
/-! ties -/
end
end PF

/-! What the program's functions answer: frames. -/
namespace PF
open PySem PySem.Spec L2 DL
open PyProof.Rows hiding St
/-! ### first_wrong -/
/-! ### ties -/
section
variable {w : Wl}
/-! ### all sets -/
theorem ssets_len : ∀ n : Nat, n ≤ 5 → (ssets n).length ≤ 31
  | 0, _ => by decide
  | 1, _ => by decide
  | 2, _ => by decide
  | 3, _ => by decide
  | 4, _ => by decide
  | 5, _ => by decide
  | n + 6, h => by omega
/-! ### frames -/
end
end PF

/-! What the program's functions answer: fractions, corners, books. -/
namespace PF
open PySem PySem.Spec L2 DL
open PyProof.Rows hiding St
/-! ### fractions -/
abbrev Fr := Int × Int
def leQ (q r : Fr) : Prop := q.1 * r.2 ≤ r.1 * q.2
instance (q r : Fr) : Decidable (leQ q r) := inferInstanceAs (Decidable (_ ≤ _))
section
variable {w w1 w2 : Wl} {en : List Sl} {ga gb : EG}
end
section
variable {w : Wl}
/-! ### limits, corners -/
/-! ### sayings, books -/
/-! ### numbers -/
/-! ### what sayings say -/
end
end PF

/-! What the program's functions answer: bars. -/
namespace PF
open PySem PySem.Spec L2 DL
open PyProof.Rows hiding St
/-! ### what a dict holds -/
/-! ### bars -/
section
variable {w : Wl}
/-! ### the lots that are left -/
end
end PF

namespace LW
open PySem PySem.Spec L2 DL PF
open PyProof.Rows hiding St
end LW

/-! What the laws' own helpers answer. -/
namespace LW
open PySem PySem.Spec L2 DL PF
open PyProof.Rows hiding St
/-! ### one of some things -/
/-! ### fractions in lowest terms -/
/-! ### grains, numbers, corners -/
end LW

/-! What the laws' own helpers answer: corners, frames, books. -/
namespace LW
open PySem PySem.Spec L2 DL PF
open PyProof.Rows hiding St
section
variable {w : Wl} {en : List Sl} {ga gb : EG}
end
section
variable {w : Wl}
end
/-! ### corners -/
/-! ### frames -/
def isFrame (n : Nat) (ls : List IS) : Prop := ls ≠ [] ∧ ls.Sublist (ssets n)
theorem isFrame.set {n : Nat} {ls : List IS} (h : isFrame n ls) : ∀ s ∈ ls, isSet n s := fun s hs => mem_ssets.mp (h.2.subset hs)
theorem isFrame.len {n : Nat} {ls : List IS} (h : isFrame n ls) (hn : n ≤ 5) : ls.length ≤ 31 := Nat.le_trans h.2.length_le (ssets_len n hn)
/-! ### books -/
end LW

/-! What the laws' own helpers answer: within, wrong. -/
namespace LW
open PySem PySem.Spec L2 DL PF
open PyProof.Rows hiding St
/-! ### wrong corners -/
end LW

/-! What the laws' own helpers answer: bars. -/
namespace LW
open PySem PySem.Spec L2 DL PF
open PyProof.Rows hiding St
/-! ### drawn bars -/
/-! ### the possible lots, the sure counts -/
/-! ### numbers near bars -/
end LW

namespace LV
open PySem PySem.Spec L2 DL PF
open PyProof.Rows hiding St
def g__law_draw : SG :=
  (sSeq (sIf (eBin oGt (eBin oIx (eVar 0) (eC (.int 0))) (eC (.int 0))) (sSeq (sTake 0 2 (eC (.int 0)) (eBin oIx (eVar 0) (eC (.int 0))) (eVar 1))
  (sRet (eVar 2))) sPass)
  (sSeq (sPut 0 (eC (.int 2)) (eBin oAdd (eBin oIx (eVar 0) (eC (.int 2))) (eC (.int 1))))
  (sSeq (sSet 3 (eBin oMod (eCall oInt (aCons (eBin oAdd (eBin oAdd (eBin oMul (eBin oIx (eVar 0) (eC (.int 1))) (eC (.int 39373))) (eBin oMul (eBin oIx (eVar 0) (eC (.int 2))) (eC (.int 71993)))) (eC (.int 11))) aNil)) (eC (.int 2147483543))))
  (sSeq (sPut 0 (eC (.int 1)) (eBin oMod (eCall oInt (aCons (eBin oAdd (eBin oMul (eVar 3) (eBin oAdd (eBin oMul (eC (.int 2)) (eBin oFdiv (eVar 3) (eC (.int 29)))) (eC (.int 14009)))) (eBin oIx (eVar 0) (eC (.int 2)))) aNil)) (eC (.int 2147483549))))
  (sRet (eBin oMod (eCall oInt (aCons (eBin oFdiv (eBin oIx (eVar 0) (eC (.int 1))) (eC (.int 113))) aNil)) (eVar 1)))))))
def G__law_draw : List D → Wl → Res := fun ds w => runG 4 g__law_draw ds w
end LV

/-! The second family of laws: the well, one draw, the law. -/
namespace LV
open PySem PySem.Spec L2 DL PF
open PyProof.Rows hiding St
theorem draw {k : Nat} {w : Wl} {m : Int} (h : Wk (k + 1) w) (h0 : 0 < m) (h1 : m < 1073741824) : ∃ d w', G__law_draw [.well, .int m] w = .ok (.int d) w' ∧ 0 ≤ d ∧ d < m ∧ Wk k w' := by
  obtain ⟨a, b, c, rfl, ha, hb, hb2, hc, hc2⟩ := h
  by_cases z : 0 < a
  · refine ⟨a % m, [a / m, b, c], ?_, Int.emod_nonneg _ (by omega), Int.emod_lt_of_pos _ h0, a / m, b, c, rfl, Int.ediv_nonneg ha (by omega), hb, hb2, hc, by omega⟩
    simp [G__law_draw, runG, g__law_draw, sSeq, Out.seq, sIf, Res.thn, eBin, Res.bind, eVar, eC, oIx, oGt, oRel, oI, sTake, sRet, atI, ixN, z, h0, h1]
  · have m1 : CMulW b 39373 := mulSmall hb (by omega) (by omega) (by omega)
    have m2 : CMulW (c + 1) 71993 := mulSmall (by omega) (by omega) (by omega) (by omega)
    generalize hx : (b * 39373 + (c + 1) * 71993 + 11) % 2147483543 = x at *
    have x0 : 0 ≤ x := by rw [← hx]; exact Int.emod_nonneg _ (by omega)
    have x1 : x < 2147483543 := by rw [← hx]; exact Int.emod_lt_of_pos _ (by omega)
    have y0 : 0 ≤ x / 29 := Int.ediv_nonneg x0 (by omega)
    have y1 : x / 29 ≤ x := Int.ediv_le_self _ x0
    have m3 : CMulW 2 (x / 29) := mulSmall (by omega) (by omega) y0 (by omega)
    have m4 : CMulW x (2 * (x / 29) + 14009) := mulSmall x0 (by omega) (by omega) (by omega)
    have m5 : ∀ i j : Int, 0 < j → j < 2 ^ 64 → CDivW i j := fun i j h1 h2 => ⟨h1, by
      have := log_lt (i := j) (n := 64) (by omega) h2 (by omega)
      omega⟩
    have d1 := m5 x 29 (by omega) (by omega)
    have d2 := m5 ((x * (2 * (x / 29) + 14009) + (c + 1)) % 2147483549) 113 (by omega) (by omega)
    refine ⟨(x * (2 * (x / 29) + 14009) + (c + 1)) % 2147483549 / 113 % m, [a, (x * (2 * (x / 29) + 14009) + (c + 1)) % 2147483549, c + 1], ?_, Int.emod_nonneg _ (by omega), Int.emod_lt_of_pos _ h0, a, _, c + 1, rfl, ha, Int.emod_nonneg _ (by omega), Int.emod_lt_of_pos _ (by omega), by omega, by omega⟩
    simp [G__law_draw, runG, g__law_draw, sSeq, Out.seq, sIf, sPass, Res.thn, eBin, Res.bind, eVar, eC, oIx, oGt, oRel, oI, sTake, sRet, atI, ixN, z, h0, h1, sPut, sSet, eCall, aCons, aNil, AR.cons, oInt, oAdd, oOr, oAddI, oMul, oMod, oFdiv, m1, m2, m3, m4, d1, d2, hx]
/-! ### the law -/
end LV

/-! The second family of laws: fractions as rational numbers. -/
namespace LV
open PySem PySem.Spec L2 DL PF
open PyProof.Rows hiding St
def encR (q : Rat) : D := .tup [.int q.num, .int q.den]
/-- of at most so many bits -/
def Rz (B : Nat) (q : Rat) : Prop := q.num.natAbs < 2 ^ B ∧ q.den < 2 ^ B
theorem Rz.mono {B C : Nat} {q : Rat} (h : Rz B q) (hc : B ≤ C) : Rz C q := ⟨Nat.lt_of_lt_of_le h.1 (Nat.pow_le_pow_right (by omega) hc), Nat.lt_of_lt_of_le h.2 (Nat.pow_le_pow_right (by omega) hc)⟩
theorem Rz.num {B : Nat} {q : Rat} (h : Rz B q) : q.num.natAbs < 2 ^ B := h.1
theorem Rz.den {B : Nat} {q : Rat} (h : Rz B q) : ((q.den : Nat) : Int).natAbs < 2 ^ B := by rw [Int.natAbs_natCast]; exact h.2
section
variable {w : Wl} {B C : Nat} {p q : Rat}
end
end LV

set_option exponentiation.threshold 2000
/-! The program's functions on fractions, as rational numbers. -/
namespace LV
open PySem PySem.Spec L2 DL PF
open PyProof.Rows hiding St
/-- a fraction: a pair, or a constant one of the module -/
def IsR (d : D) (q : Rat) : Prop := d = encR q ∨ d = .con [.int q.num, .int q.den]
theorem IsR.num {d : D} {q : Rat} (h : IsR d q) (w : Wl) : oIx d (.int 0) w = .ok (.int q.num) w := by
  rcases h with rfl | rfl <;> rfl
theorem IsR.den {d : D} {q : Rat} (h : IsR d q) (w : Wl) : oIx d (.int 1) w = .ok (.int q.den) w := by
  rcases h with rfl | rfl <;> rfl
theorem IsR.toP {d : D} {q : Rat} (h : IsR d q) : d.toP = (encR q).toP := by
  rcases h with rfl | rfl <;> rfl
section
variable {w w1 w2 : Wl} {B C : Nat} {p q : Rat} {d e : D} {en : List Sl} {g : EG}
instance : DecidableEq Rat := inferInstance
theorem shp_rat (q : Rat) (k : Nat) : Shp (k + 1) (encR q) := shp_tup fun z hz => by
  simp only [List.mem_cons, List.not_mem_nil, or_false] at hz
  rcases hz with rfl | rfl <;> exact shp_int _ _
theorem IsR.shp (h : IsR d q) (k : Nat) : Shp (k + 1) d := by
  obtain ⟨a, b, c⟩ := shp_rat q k
  refine ⟨?_, by rw [h.toP]; exact b, by rw [h.toP]; exact c⟩
  rcases h with rfl | rfl <;> exact a
end
/-! sizes -/
end LV

/-! The second family of laws: one of some things. -/
namespace LV
open PySem PySem.Spec L2 DL PF
open PyProof.Rows hiding St
/-! all sets -/
/-! a drawn order -/
end LV

namespace K41
open PySem PySem.Spec L2 DL PF LV
open PyProof.Rows hiding St
def topS (i : Nat) : Stmt := PySem.Challenge.pw_surefinds_k41_whole_shares_and_worths.main.body.getD i (.Pass ⟨0, 0, 0, 0⟩)
abbrev s__law_draw : Stmt := topS 44
abbrev s__law_pick : Stmt := topS 45
abbrev s__law_low : Stmt := topS 46
abbrev s__law_any_part : Stmt := topS 54
abbrev s__law_sub : Stmt := topS 48
abbrev s__law_add : Stmt := topS 47
abbrev s__law_mark : Stmt := topS 55
abbrev s__law_marks : Stmt := topS 56
abbrev s__law_below : Stmt := topS 50
abbrev s__law_is_in : Stmt := topS 60
abbrev s__law_greater : Stmt := topS 51
abbrev s__law_worth_at : Stmt := topS 66
abbrev s__law_level : Stmt := topS 57
abbrev s__law_low_level : Stmt := topS 58
abbrev s__law_mul : Stmt := topS 49
abbrev s__law_steps : Stmt := topS 61
abbrev s__law_order : Stmt := topS 62
abbrev s__law_stepped : Stmt := topS 63
abbrev s__law_share : Stmt := topS 64
abbrev s_is_row : Stmt := topS 14
abbrev s_is_whole : Stmt := topS 13
abbrev s_is_fraction : Stmt := topS 17
abbrev s_is_number : Stmt := topS 18
abbrev s_is_at_most : Stmt := topS 10
abbrev s_check_limits : Stmt := topS 26
abbrev s_is_count : Stmt := topS 15
abbrev s_tells_count : Stmt := topS 16
abbrev s_check_leading_limits : Stmt := topS 27
abbrev s_is_ascending : Stmt := topS 20
abbrev s_is_index : Stmt := topS 19
abbrev s_is_set : Stmt := topS 21
abbrev s_check_set : Stmt := topS 28
abbrev s_all_sets : Stmt := topS 31
abbrev s_is_part : Stmt := topS 30
abbrev s_alike : Stmt := topS 33
abbrev s_lowest : Stmt := topS 9
abbrev s_share_worth : Stmt := topS 41
abbrev s_worths_against : Stmt := topS 40
abbrev s_share_worths : Stmt := topS 39
abbrev s__law_sets_of : Stmt := topS 52
abbrev s__law_edge : Stmt := topS 59
abbrev s__law_worths : Stmt := topS 65
abbrev s__law_all_sets : Stmt := topS 53
abbrev s_first_wrong : Stmt := topS 22
abbrev s_check_numbers : Stmt := topS 24
abbrev s_check_leading_numbers : Stmt := topS 25
abbrev s_up_to : Stmt := topS 36
abbrev s_called_up : Stmt := topS 35
abbrev s_share : Stmt := topS 38
abbrev s__law_greatest : Stmt := topS 67
abbrev s__law_right : Stmt := topS 68
abbrev s__law_well : Stmt := topS 43
abbrev s_law : Stmt := topS 69
variable {P : Program} {w : World} {K : Kt} {mg : Str → Option Value} {base : Heap}
end K41

namespace K41
open PySem PySem.Spec L2 DL PF LV
open PyProof.Rows hiding St
variable {P : Program} {w : World} {K : Kt} {mg : Str → Option Value} {base : Heap}
def dfs : List He.DefD := [⟨("_law_draw", none), "_law_draw", "_law_draw", defArgs s__law_draw, defBody s__law_draw, defScope s__law_draw, [], []⟩, ⟨("_law_pick", none), "_law_pick", "_law_pick", defArgs s__law_pick, defBody s__law_pick, defScope s__law_pick, [], []⟩, ⟨("_law_low", none), "_law_low", "_law_low", defArgs s__law_low, defBody s__law_low, defScope s__law_low, [], []⟩, ⟨("_law_any_part", none), "_law_any_part", "_law_any_part", defArgs s__law_any_part, defBody s__law_any_part, defScope s__law_any_part, [], []⟩, ⟨("_law_sub", none), "_law_sub", "_law_sub", defArgs s__law_sub, defBody s__law_sub, defScope s__law_sub, [], []⟩, ⟨("_law_add", none), "_law_add", "_law_add", defArgs s__law_add, defBody s__law_add, defScope s__law_add, [], []⟩, ⟨("_law_mark", none), "_law_mark", "_law_mark", defArgs s__law_mark, defBody s__law_mark, defScope s__law_mark, [], []⟩, ⟨("_law_marks", none), "_law_marks", "_law_marks", defArgs s__law_marks, defBody s__law_marks, defScope s__law_marks, [], []⟩, ⟨("_law_below", none), "_law_below", "_law_below", defArgs s__law_below, defBody s__law_below, defScope s__law_below, [], []⟩, ⟨("_law_is_in", none), "_law_is_in", "_law_is_in", defArgs s__law_is_in, defBody s__law_is_in, defScope s__law_is_in, [], []⟩, ⟨("_law_greater", none), "_law_greater", "_law_greater", defArgs s__law_greater, defBody s__law_greater, defScope s__law_greater, [], []⟩, ⟨("_law_worth_at", none), "_law_worth_at", "_law_worth_at", defArgs s__law_worth_at, defBody s__law_worth_at, defScope s__law_worth_at, [], []⟩, ⟨("_law_level", none), "_law_level", "_law_level", defArgs s__law_level, defBody s__law_level, defScope s__law_level, [], []⟩, ⟨("_law_low_level", none), "_law_low_level", "_law_low_level", defArgs s__law_low_level, defBody s__law_low_level, defScope s__law_low_level, [], []⟩, ⟨("_law_mul", none), "_law_mul", "_law_mul", defArgs s__law_mul, defBody s__law_mul, defScope s__law_mul, [], []⟩, ⟨("_law_steps", none), "_law_steps", "_law_steps", defArgs s__law_steps, defBody s__law_steps, defScope s__law_steps, [], []⟩, ⟨("_law_order", none), "_law_order", "_law_order", defArgs s__law_order, defBody s__law_order, defScope s__law_order, [], []⟩, ⟨("_law_stepped", none), "_law_stepped", "_law_stepped", defArgs s__law_stepped, defBody s__law_stepped, defScope s__law_stepped, [], []⟩, ⟨("_law_share", none), "_law_share", "_law_share", defArgs s__law_share, defBody s__law_share, defScope s__law_share, [], []⟩, ⟨("is_row", none), "is_row", "is_row", defArgs s_is_row, defBody s_is_row, defScope s_is_row, [], []⟩, ⟨("is_whole", none), "is_whole", "is_whole", defArgs s_is_whole, defBody s_is_whole, defScope s_is_whole, [], []⟩, ⟨("is_fraction", none), "is_fraction", "is_fraction", defArgs s_is_fraction, defBody s_is_fraction, defScope s_is_fraction, [], []⟩, ⟨("is_number", none), "is_number", "is_number", defArgs s_is_number, defBody s_is_number, defScope s_is_number, [], []⟩, ⟨("is_at_most", none), "is_at_most", "is_at_most", defArgs s_is_at_most, defBody s_is_at_most, defScope s_is_at_most, [], []⟩, ⟨("check_limits", none), "check_limits", "check_limits", defArgs s_check_limits, defBody s_check_limits, defScope s_check_limits, [], []⟩, ⟨("is_count", none), "is_count", "is_count", defArgs s_is_count, defBody s_is_count, defScope s_is_count, [], []⟩, ⟨("tells_count", none), "tells_count", "tells_count", defArgs s_tells_count, defBody s_tells_count, defScope s_tells_count, [], []⟩, ⟨("check_leading_limits", none), "check_leading_limits", "check_leading_limits", defArgs s_check_leading_limits, defBody s_check_leading_limits, defScope s_check_leading_limits, [], []⟩, ⟨("is_ascending", none), "is_ascending", "is_ascending", defArgs s_is_ascending, defBody s_is_ascending, defScope s_is_ascending, [], []⟩, ⟨("is_index", none), "is_index", "is_index", defArgs s_is_index, defBody s_is_index, defScope s_is_index, [], []⟩, ⟨("is_set", none), "is_set", "is_set", defArgs s_is_set, defBody s_is_set, defScope s_is_set, [], []⟩, ⟨("check_set", none), "check_set", "check_set", defArgs s_check_set, defBody s_check_set, defScope s_check_set, [], []⟩, ⟨("all_sets", none), "all_sets", "all_sets", defArgs s_all_sets, defBody s_all_sets, defScope s_all_sets, [], []⟩, ⟨("is_part", none), "is_part", "is_part", defArgs s_is_part, defBody s_is_part, defScope s_is_part, [], []⟩, ⟨("alike", none), "alike", "alike", defArgs s_alike, defBody s_alike, defScope s_alike, [], []⟩, ⟨("lowest", none), "lowest", "lowest", defArgs s_lowest, defBody s_lowest, defScope s_lowest, [], []⟩, ⟨("share_worth", none), "share_worth", "share_worth", defArgs s_share_worth, defBody s_share_worth, defScope s_share_worth, [], []⟩, ⟨("worths_against", none), "worths_against", "worths_against", defArgs s_worths_against, defBody s_worths_against, defScope s_worths_against, [], []⟩, ⟨("share_worths", none), "share_worths", "share_worths", defArgs s_share_worths, defBody s_share_worths, defScope s_share_worths, [], []⟩, ⟨("_law_sets_of", none), "_law_sets_of", "_law_sets_of", defArgs s__law_sets_of, defBody s__law_sets_of, defScope s__law_sets_of, [], []⟩, ⟨("_law_edge", none), "_law_edge", "_law_edge", defArgs s__law_edge, defBody s__law_edge, defScope s__law_edge, [], []⟩, ⟨("_law_worths", none), "_law_worths", "_law_worths", defArgs s__law_worths, defBody s__law_worths, defScope s__law_worths, [], []⟩, ⟨("_law_all_sets", none), "_law_all_sets", "_law_all_sets", defArgs s__law_all_sets, defBody s__law_all_sets, defScope s__law_all_sets, [], []⟩, ⟨("first_wrong", none), "first_wrong", "first_wrong", defArgs s_first_wrong, defBody s_first_wrong, defScope s_first_wrong, [], []⟩, ⟨("check_numbers", none), "check_numbers", "check_numbers", defArgs s_check_numbers, defBody s_check_numbers, defScope s_check_numbers, [], []⟩, ⟨("check_leading_numbers", none), "check_leading_numbers", "check_leading_numbers", defArgs s_check_leading_numbers, defBody s_check_leading_numbers, defScope s_check_leading_numbers, [], []⟩, ⟨("up_to", none), "up_to", "up_to", defArgs s_up_to, defBody s_up_to, defScope s_up_to, [], []⟩, ⟨("called_up", none), "called_up", "called_up", defArgs s_called_up, defBody s_called_up, defScope s_called_up, [], []⟩, ⟨("share", none), "share", "share", defArgs s_share, defBody s_share, defScope s_share, [], []⟩, ⟨("_law_greatest", none), "_law_greatest", "_law_greatest", defArgs s__law_greatest, defBody s__law_greatest, defScope s__law_greatest, [], []⟩, ⟨("_law_right", none), "_law_right", "_law_right", defArgs s__law_right, defBody s__law_right, defScope s__law_right, [], []⟩, ⟨("_law_well", none), "_law_well", "_law_well", defArgs s__law_well, defBody s__law_well, defScope s__law_well, [], []⟩, ⟨("law", none), "law", "law", defArgs s_law, defBody s_law, defScope s_law, [], []⟩]
def fas : List He.Fa := [.glo "_law_draw", .glo "_law_pick", .glo "_law_low", .glo "_law_any_part", .glo "_law_sub", .glo "_law_add", .glo "_law_mark", .glo "_law_marks", .glo "_law_below", .glo "_law_is_in", .glo "_law_greater", .glo "_law_worth_at", .glo "_law_level", .glo "_law_low_level", .glo "_law_mul", .glo "_law_steps", .glo "_law_order", .glo "_law_stepped", .glo "_law_share", .glo "is_row", .glo "is_whole", .glo "is_fraction", .glo "is_number", .glo "is_at_most", .glo "check_limits", .glo "is_count", .glo "tells_count", .glo "check_leading_limits", .glo "is_ascending", .glo "is_index", .glo "is_set", .glo "check_set", .glo "all_sets", .glo "is_part", .glo "alike", .glo "lowest", .glo "share_worth", .glo "worths_against", .glo "share_worths", .glo "_law_sets_of", .glo "_law_edge", .glo "_law_worths", .glo "_law_all_sets", .glo "first_wrong", .glo "check_numbers", .glo "check_leading_numbers", .glo "up_to", .glo "called_up", .glo "share", .glo "_law_greatest", .glo "_law_right", .glo "_law_well", .glo "law", .free "abs", .free "all", .free "divmod", .free "enumerate", .free "int", .free "len", .free "list", .free "range", .free "repr", .free "sorted", .free "sum", .free "tuple", .free "type", .free "zip", .int "MOST_COUNT" 5]
def lams : List Str := []
abbrev R : PySem.W.OpenRow := PySem.W.OpenLaw.row PySem.Challenge.rw_surefinds_k41_whole_shares_and_worths
abbrev vw : Program := PySem.W.view R.prog [0, 69]
def lo : List Str := (["FindError", "InvalidSet", "InvalidNumbers", "InvalidLimits", "NIL", "ONE", "lowest", "is_at_most", "MOST_COUNT", "is_whole", "is_row", "is_count", "tells_count", "is_fraction", "is_number", "is_index", "is_ascending", "is_set", "first_wrong", "check_numbers", "check_leading_numbers", "check_limits", "check_leading_limits", "check_set", "is_part", "all_sets", "alike", "called_up", "up_to", "share"] : List Str) ++ (["share_worths", "worths_against", "share_worth", "_law_well", "_law_draw", "_law_pick", "_law_low", "_law_add", "_law_sub", "_law_mul", "_law_below", "_law_greater", "_law_sets_of", "_law_all_sets", "_law_any_part", "_law_mark", "_law_marks", "_law_level", "_law_low_level", "_law_edge", "_law_is_in", "_law_steps", "_law_order", "_law_stepped", "_law_share", "_law_worths", "_law_worth_at", "_law_greatest", "_law_right"] : List Str)
def cns : List (Str × List Int) := [("NIL", [0, 1]), ("ONE", [1, 1])]
def ims : List (Str × String) := [("gcd", "math.gcd")]
def asl : List Addr := [3, 6, 4, 52, 74, 95, 116, 119, 120, 127, 134, 141, 148, 155, 162, 169, 176, 183, 188, 193, 200, 207, 214, 221, 228, 235, 240, 245, 250, 257, 262, 267, 274, 279, 286, 293, 300, 307, 314, 321, 328, 335, 342, 349, 354, 361, 368, 375, 382, 389, 396, 401, 408, 413, 418, 425, 430, 437, 444, 449, 454, 459, 0, 51, 73, 94, 115, 126, 133, 140, 147, 154, 161, 168, 175, 182, 187, 192, 199, 206, 213, 220, 227, 234, 239, 244, 249, 256, 261, 266, 273, 278, 285, 292, 299, 306, 313, 320, 327, 334, 341, 348, 353, 360, 367, 374, 381, 388, 395, 400, 407, 412, 417, 424, 429, 436, 443, 448, 453, 458, 50, 53, 71, 72, 92, 93, 113, 114, 121, 123, 124, 125, 128, 130, 131, 132, 135, 137, 138, 139, 142, 144, 145, 146, 149, 151, 152, 153, 156, 158, 159, 160, 163, 165, 166, 167, 170, 172, 173, 174, 177, 179, 180, 181, 184, 186, 189, 191, 194, 196, 197, 198, 201, 203, 204, 205, 208, 210, 211, 212, 215, 217, 218, 219, 222, 224, 225, 226, 229, 231, 232, 233, 236, 238, 241, 243, 246, 248, 251, 253, 254, 255, 258, 260, 263, 265, 268, 270, 271, 272, 275, 277, 280, 282, 283, 284, 287, 289, 290, 291, 294, 296, 297, 298, 301, 303, 304, 305, 308, 310, 311, 312, 315, 317, 318, 319, 322, 324, 325, 326, 329, 331, 332, 333, 336, 338, 339, 340, 343, 345, 346, 347, 350, 352, 355, 357, 358, 359, 362, 364, 365, 366, 369, 371, 372, 373, 376, 378, 379, 380, 383, 385, 386, 387, 390, 392, 393, 394, 397, 399, 402, 404, 405, 406, 409, 411, 414, 416, 419, 421, 422, 423, 426, 428, 431, 433, 434, 435, 438, 440, 441, 442, 445, 447, 450, 452, 455, 457, 70, 59, 91, 80, 112, 101]
abbrev hk : PySem.W.Hook := hookL asl fas dfs lams ims cns
def ob (s : PySem.W.SharedT) : He.AlD × Bool := obsL asl fas dfs lams ims cns (HandSHeadRun.getT s)
theorem run (w : World) : HandSHeadRun.RunEqI R vw hk ob 8000 lo w := by
  unfold HandSHeadRun.RunEqI
  kernel_rfl
end K41
set_option Elab.async false
set_option linter.all false
set_option maxRecDepth 100000
set_option maxHeartbeats 4000000
set_option autoImplicit false
/-! DL, part a: data behind values, the state of a body, what an expression comes to. -/
namespace DL
open PySem PySem.Spec L2
open PyProof.Rows hiding St

section
variable {K : Kt} {Kf : PySem.W.Frag} {aw : Bs} {F F' H H' : Hp}
theorem DvAll.app : ∀ {vs : List V} {ds : List D} {us : List V} {es : List D}, DvAll Kf aw F vs ds → DvAll Kf aw F us es → DvAll Kf aw F (vs ++ us) (ds ++ es)
  | _, _, _, _, .nil, h => h
  | _, _, _, _, .cons a b, h => .cons a (DvAll.app b h)
theorem DvAll.take : ∀ {vs : List V} {ds : List D} (n : Nat), DvAll Kf aw F vs ds → DvAll Kf aw F (vs.take n) (ds.take n)
  | _, _, 0, _ => .nil
  | _, _, _ + 1, .nil => .nil
  | _, _, n + 1, .cons a b => .cons a (DvAll.take n b)
theorem DvAll.drop : ∀ {vs : List V} {ds : List D} (n : Nat), DvAll Kf aw F vs ds → DvAll Kf aw F (vs.drop n) (ds.drop n)
  | _, _, 0, h => h
  | _, _, _ + 1, .nil => .nil
  | _, _, n + 1, .cons _ b => DvAll.drop n b
theorem DvAll.snoc {vs : List V} {ds : List D} {v : V} {d : D} (h : DvAll Kf aw F vs ds) (r : Dv Kf aw F v d) : DvAll Kf aw F (vs ++ [v]) (ds ++ [d]) := h.app (.one r)
end

/-! ### the state -/
section
variable {aw : Bs} {p : Addr} {F H F1 H1 F2 H2 : Hp} {w w1 w2 : Wl} {o : HO}
theorem Go.here (g : Go aw F H F1 H1 w) : Go aw F1 H1 F1 H1 w := ⟨Same.refl _, fun _ _ _ _ h => h, fun _ h => h, fun h => h, g.sub, g.nt, fun _ _ h => h, g.wl⟩
/-- a list is written: the tables stay -/
theorem tabs_lst {T : List (Addr × Str)} {H : Hp} {p : Addr} {vs us : List V} (t : LamX.Tabs T H) (hp : H p = some (.lst vs)) : LamX.Tabs T (upd H p (.lst us)) := fun q hq => by
  obtain ⟨ps, h1, h2, h3⟩ := t q hq
  refine ⟨ps, by rw [upd_ne (ne_of h1 hp fun z => nomatch z)]; exact h1, h2, fun pos cv hc => ?_⟩
  obtain ⟨c, e1, e2⟩ := h3 pos cv hc
  exact ⟨c, e1, by rw [upd_ne (ne_of e2 hp (fun z => by unfold LamX.CodeO at z; cases z))]; exact e2⟩
/-- an own list is written, or laid -/
theorem Go.wr {us : List V} (g : Go aw F H F1 H1 w) (n : H p = none) (fp : F1 p = none) (np : some p ≠ aw.a) (hp : H1 p = none ∨ ∃ vs, H1 p = some (.lst vs)) : Go aw F H F1 (upd H1 p (.lst us)) w := by
  refine ⟨g.ff, fun b u nb k q => ?_, fun b nb => ne_upd (g.ne b nb), fun t => ?_, fun b u q => ?_, g.nt, g.fr, fun a ea => ?_⟩
  · rw [upd_ne (fun z => by rw [z, n] at q; cases q)]
    exact g.hh b u nb k q
  · rcases hp with hp | ⟨vs, hp⟩
    · exact (g.tb t).ext fun b u e => by
        rw [upd_ne (ne_of_none e hp)]
        exact e
    · exact tabs_lst (g.tb t) hp
  · rw [upd_ne (fun z => by rw [z, fp] at q; cases q)]
    exact g.sub b u q
  · rw [upd_ne (fun z => np (by rw [ea, z]))]
    exact g.wl a ea
/-- the generator is written -/
theorem Go.tn {q : Addr} (g : Go aw F H F1 H1 w) (ha : aw.a = some q) (fa : F1 q = none) (w' : Wl) : Go aw F H F1 (upd H1 q (.lst (w'.map V.int))) w' := by
  refine ⟨g.ff, fun b u nb k q => ?_, fun b nb => ne_upd (g.ne b nb), fun t => tabs_lst (g.tb t) (g.wl q ha), fun b u z => ?_, g.nt, g.fr, fun a ea => ?_⟩
  · rw [upd_ne (fun z => nb (by rw [ha, z]))]
    exact g.hh b u nb k q
  · rw [upd_ne (fun y => by rw [y, fa] at z; cases z)]
    exact g.sub b u z
  · rw [ha] at ea
    cases ea
    exact upd_same
/-- a new object, not frozen -/
theorem Go.laid (g : Go aw F H F H w) (hp : H p = none) (o : HO) : Go aw F H F (upd H p o) w := by
  have na : ∀ a, aw.a = some a → a ≠ p := fun a ea e => by
    rw [← e, g.wl a ea] at hp
    cases hp
  refine ⟨Same.refl _, fun b u _ _ e => same_upd2 hp b u e, fun b n => ne_upd n, fun t => t.ext fun b u e => same_upd2 hp b u e, fun b u e => same_upd2 hp b u (g.sub b u e), g.nt, fun _ _ h => h, fun a ea => ?_⟩
  rw [upd_ne (na a ea)]
  exact g.wl a ea
end

section
variable {K : Kt} {Kf : PySem.W.Frag} {f : Fx} {en : List Sl} {w w' : Wl} {σ : St} {F H F' H' : Hp}
theorem Ok.awF (o : Ok K f en w σ F H) : ∀ a, f.aw.a = some a → F a = none := fun a e => o.go.fr a (o.base a e).1 (o.base a e).2
theorem Ok.here (o : Ok K f en w σ F H) : Go f.aw F H F H w := o.go.here
end

/-! ### what an expression comes to -/
section
variable {K : Kt} {Kf : PySem.W.Frag} {W : WX} {aw : Bs} {F H F1 H1 F' H' : Hp} {Q R : VK} {E : XK} {w w1 : Wl} {s : Sg} {r : Res} {t ta tb : TE} {g ga gb : EG} {f : Fx} {en : List Sl} {σ : St} {v : V} {d : D} {ds : List D} {vs : List V}
/-- one part, then the rest -/
theorem ES.bindW {s' : Sg} {k : D → Wl → Res} (ha : ES K W s' ta ga) (o : Ok K f en w σ F H) (h : Wn s K f.aw F H Q (WE W σ) ((ga en w).bind k))
    (hk : ∀ d w1 v F1 H1, Go f.aw F H F1 H1 w1 → Ok K f en w1 σ F1 H1 → Dq K f.aw F1 H1 v d → Wn s K f.aw F1 H1 Q (WE W σ) (k d w1) → R v H1) : ta σ H R := by
  refine ha.toWk f en w σ F H R o ?_
  cases q : ga en w with
  | bad => rw [q] at h; exact h
  | ex c fn a w1 => rw [q] at h; exact h
  | ok d w1 =>
    rw [q] at h
    exact fun v F1 H1 g r => hk d w1 v F1 H1 g (o.step g) r (Wn.any h g)
theorem ES.bindS {s' : Sg} {k : D → Wl → Res} (ha : ES K W s' ta ga) (hs : s' ≠ .wk) (o : Ok K f en w σ F H) (h : Wn s K f.aw F H Q (WE W σ) ((ga en w).bind k))
    (hk : ∀ d w1 v F1 H1, Go f.aw F H F1 H1 w1 → Ok K f en w1 σ F1 H1 → Dv K f.aw F1 v d → Wn s K f.aw F1 H1 Q (WE W σ) (k d w1) → R v H1) : ta σ H R := by
  refine ha.toSt hs f en w σ F H R o ?_
  cases q : ga en w with
  | bad => rw [q] at h; exact h
  | ex c fn a w1 => rw [q] at h; exact h
  | ok d w1 =>
    rw [q] at h
    exact fun v F1 H1 g r => hk d w1 v F1 H1 g (o.step g) r (Wn.any h g)
theorem Wn.tupNew (h : Wn .st Kf aw F H Q E (.ok (.tup ds) w)) (g : Go aw F H F H w) (r : DvAll Kf aw F vs ds) : ∀ p, H p = none → Q (.ref p) (upd H p (.tup vs)) := fun p hp =>
  h _ _ _ (g.new hp _) (.tup upd_same (r.mono (same_upd2 (g.free hp))))
theorem Wn.lstNew (h : Wn .fr Kf aw F H Q E (.ok (.lst ds) w)) (g : Go aw F H F H w) (r : DvAll Kf aw F vs ds) : ∀ p, H p = none → Q (.ref p) (upd H p (.lst vs)) := fun p hp =>
  h _ _ _ (g.laid hp _) ⟨ds, p, vs, rfl, rfl, hp, upd_same, g.free hp, r⟩
theorem Dq.tupl (q : Dq Kf aw F H v (.tup ds)) (s : Same F H) : ∃ a vs, v = .ref a ∧ SqT Kf H a vs ∧ DvAll Kf aw F vs ds := by
  rcases q with q | ⟨ds', a, vs, e1, e2, n, h, r⟩
  · cases q with
    | tup h r => exact ⟨_, _, rfl, SqT.of (s _ _ h), r⟩
  · cases e1
theorem Dq.conl (q : Dq Kf aw F H v (.con ds)) (s : Same F H) : ∃ a vs, v = .ref a ∧ SqT Kf H a vs ∧ DvAll Kf aw F vs ds := by
  rcases q with q | ⟨ds', a, vs, e1, e2, n, h, r⟩
  · cases q with
    | con h r => exact ⟨_, _, rfl, sqT_same s h, r⟩
  · cases e1
end
end DL

/-! DL, part b: expressions. -/
namespace DL
open PySem PySem.Spec L2
open PyProof.Rows hiding St

/-! ### names and constants -/
def eOwn (i : Nat) : EG := fun en w => match en[i]? with
  | some (.own ds) => .ok (.lst ds) w
  | _ => .bad
section
variable {X : Cx} {W : WX} {K : Kt} {Kf : PySem.W.Frag} {pos : Pos}
theorem de_var (i : Nat) {x : Str} (hN : X.N[i]? = some x := by rfl) (hv : Vis X.env.scope x := by first | exact Or.inl rfl | exact Or.inr (Or.inl rfl) | exact Or.inr (Or.inr rfl))
    (hd : (x == ("__debug__" : Str)) = false := by decide) (hcd : (x == ("__classdict__" : Str)) = false := by decide) (hK : X.K = K.K := by rfl) : DE K X W .st (.Name x pos) (tVar i) (eVar i) := by
  obtain ⟨K0, T0, L0⟩ := K
  cases hK
  refine ⟨rfl, pe_var hN hv hd hcd, fun f en w σ F H Q o h => ?_⟩
  unfold eVar at h
  cases q : en[i]? with
  | none => rw [q] at h; exact h.elim
  | some sl =>
    cases sl with
    | non => rw [q] at h; exact h.elim
    | hol => rw [q] at h; exact h.elim
    | dic _ => rw [q] at h; exact h.elim
    | own ds => rw [q] at h; exact h.elim
    | dat d =>
      rw [q] at h
      obtain ⟨v, e, r⟩ := o.dat i d q
      exact ⟨v, e, Wn.val h o.here r⟩
theorem de_own (i : Nat) {x : Str} (hN : X.N[i]? = some x := by rfl) (hv : Vis X.env.scope x := by first | exact Or.inl rfl | exact Or.inr (Or.inl rfl) | exact Or.inr (Or.inr rfl))
    (hd : (x == ("__debug__" : Str)) = false := by decide) (hcd : (x == ("__classdict__" : Str)) = false := by decide) (hK : X.K = K.K := by rfl) : DE K X W .wk (.Name x pos) (tVar i) (eOwn i) := by
  obtain ⟨K0, T0, L0⟩ := K
  cases hK
  refine ⟨rfl, pe_var hN hv hd hcd, fun f en w σ F H Q o h => ?_⟩
  unfold eOwn at h
  cases q : en[i]? with
  | none => rw [q] at h; exact h.elim
  | some sl =>
    cases sl with
    | non => rw [q] at h; exact h.elim
    | hol => rw [q] at h; exact h.elim
    | dic _ => rw [q] at h; exact h.elim
    | dat ds => rw [q] at h; exact h.elim
    | own ds =>
      rw [q] at h
      obtain ⟨a, vs, e, h1, h2, h3, r⟩ := o.own i ds q
      have na : some a ≠ f.aw.a := fun z => (o.base a z.symm).1 h2
      exact ⟨_, e, h _ F H o.here (.inr ⟨ds, a, vs, rfl, rfl, na, h1, r⟩)⟩
theorem es_c {K : Kt} {v : V} {d : D} (r : ∀ aw F, Dv K aw F v d) : ES K W .st (tC v) (eC d) := fun f en w σ F H Q o h => h v F H o.here (r _ _)
theorem de_int {i : Int} {j} (hK : X.K = K.K := by rfl) : DE K X W .st (.Constant (.int i) j pos) (tC (.int i)) (eC (.int i)) := by
  obtain ⟨K0, T0, L0⟩ := K
  cases hK
  exact ⟨rfl, pe_int, es_c fun _ _ => .int i⟩
theorem de_bl {b : Bool} {j} (hK : X.K = K.K := by rfl) : DE K X W .st (.Constant (.bool b) j pos) (tC (.bl b)) (eC (.bl b)) := by
  obtain ⟨K0, T0, L0⟩ := K
  cases hK
  exact ⟨rfl, pe_bl, es_c fun _ _ => .bl b⟩
theorem de_non {j} (hK : X.K = K.K := by rfl) : DE K X W .st (.Constant .none j pos) (tC .non) (eC .non) := by
  obtain ⟨K0, T0, L0⟩ := K
  cases hK
  exact ⟨rfl, pe_non, es_c fun _ _ => .non⟩
/-- a constant of the module -/
theorem de_gint {x : Str} {i : Int} (hg : Gl X x) (hm : ∃ t, X.mg x = some (.int i t)) (hd : (x == ("__debug__" : Str)) = false := by decide) (hK : X.K = K.K := by rfl) : DE K X W .st (.Name x pos) (tC (.int i)) (eC (.int i)) := by
  obtain ⟨K0, T0, L0⟩ := K
  cases hK
  obtain ⟨t, hm⟩ := hm
  exact ⟨rfl, pe_glob hg hm ⟨t, rfl⟩ hd, es_c fun _ _ => .int i⟩
/-- a built-in class by its name -/
theorem de_ty {x : Str} {n : String} (hg : Gl X x) (hm : X.mg x = none) (hv : bootBuiltins x = some (.type n)) (hn : x ≠ "__name__" := by decide) (hd : (x == ("__debug__" : Str)) = false := by decide) (hK : X.K = K.K := by rfl) : DE K X W .st (.Name x pos) (tC (.ty n)) (eC (.ty n)) := by
  obtain ⟨K0, T0, L0⟩ := K
  cases hK
  exact ⟨rfl, pe_bltn hg hm hv rfl hn hd, es_c fun _ _ => .ty n⟩
/-- a def of the module as a value -/
theorem de_fn {x : Str} (hg : Gl X x) (hm : X.mg x = some (.ref (He.ga K x))) (hd : (x == ("__debug__" : Str)) = false := by decide) (hK : X.K = K.K := by rfl) : DE K X W .st (.Name x pos) (tC (.ref (He.ga K x))) (eC (.fn x)) := by
  obtain ⟨K0, T0, L0⟩ := K
  cases hK
  exact ⟨rfl, pe_glob hg hm rfl hd, es_c fun _ _ => .fn x⟩
end

/-! ### operators -/
def eUn (o : D → Wl → Res) (ga : EG) : EG := fun en w => (ga en w).bind o
section
variable {X : Cx} {W : WX} {K : Kt} {Kf : PySem.W.Frag} {s s1 s2 s3 : Sg} {pos : Pos} {a b c : Expr} {ta tb tc : TE} {ga gb gc : EG} {r r' : R2} {o o' : D → D → Wl → Res}
theorem es_bin (hs : OpS K s r o) (ha : ES K W s1 ta ga) (hb : ES K W s2 tb gb) : ES K W s (tOp r ta tb) (eBin o ga gb) := fun f en w σ F H Q ok h =>
  ha.bindW ok h fun d w1 v F1 H1 g1 o1 r1 h1 => hb.bindW o1 h1 fun e w2 u F2 H2 g2 o2 r2 h2 => hs f.aw F2 H2 Q _ v u d e w2 o2.here (r1.go g2) r2 h2
theorem de_bin {op : Operator} (ho : OpR X (binaryOp op) r) (hs : OpS K s r o) (ha : DE K X W s1 a ta ga) (hb : DE K X W s2 b tb gb) : DE K X W s (.BinOp a op b pos) (tOp r ta tb) (eBin o ga gb) := by
  obtain ⟨K0, T0, L0⟩ := K
  cases ha.hK
  exact ⟨rfl, pe_op ho ha.pe hb.pe, es_bin hs ha.es hb.es⟩
theorem ops_I {C : Int → Int → Prop} {Cb : Int → Int → Bool} {gv : Int → Int → V} {g : Int → Int → D} (hC : ∀ i j, Cb i j = true → C i j) (hg : ∀ aw F i j, Dv Kf aw F (gv i j) (g i j)) : OpS Kf .st (rI C gv) (oI Cb g) := by
  intro aw F H Q E x y d e w go rx ry hw
  cases d <;> cases e <;> first
    | exact hw.elim
    | skip
  rename_i i j
  have hx := rx.int
  have hy := ry.int
  subst hx hy
  simp only [oI] at hw
  by_cases hc : Cb i j = true
  · rw [if_pos hc] at hw
    exact ⟨i, j, rfl, rfl, hC i j hc, Wn.val hw go (hg aw F i j)⟩
  · rw [if_neg hc] at hw
    exact hw.elim
theorem ops_I0 {gv : Int → Int → V} {g : Int → Int → D} (hg : ∀ aw F i j, Dv Kf aw F (gv i j) (g i j)) : OpS Kf .st (rI0 gv) (oI (fun _ _ => true) g) := by
  intro aw F H Q E x y d e w go rx ry hw
  cases d <;> cases e <;> first
    | exact hw.elim
    | skip
  rename_i i j
  have hx := rx.int
  have hy := ry.int
  subst hx hy
  exact ⟨i, j, rfl, rfl, Wn.val (show Wn .st Kf aw F H Q E (.ok (g i j) w) from hw) go (hg aw F i j)⟩
def oSub := oI (fun _ _ => true) fun i j => .int (i - j)
def oPow := oI (fun i j => decide (CPow i j)) fun i j => .int (i ^ j.toNat)
def oShl := oI (fun i j => decide (CPow i j)) fun i j => .int (i * 2 ^ j.toNat)
def oShr := oI (fun _ j => decide (0 ≤ j)) fun i j => .int (i / 2 ^ j.toNat)
def oAnd := oI (fun _ _ => true) fun i j => .int (Builtin.bitAnd i j)
def rSubI : R2 := rI0 fun i j => .int (i - j)
def rMulI : R2 := rI CMulW fun i j => .int (i * j)
def rFdivI : R2 := rI CDivW fun i j => .int (i / j)
def rModI : R2 := rI (fun _ j => 0 < j) fun i j => .int (i % j)
def rPowI : R2 := rI CPow fun i j => .int (i ^ j.toNat)
def rShlI : R2 := rI CPow fun i j => .int (i * 2 ^ j.toNat)
def rShrI : R2 := rI (fun _ j => 0 ≤ j) fun i j => .int (i / 2 ^ j.toNat)
def rAndI : R2 := rI0 fun i j => .int (Builtin.bitAnd i j)
theorem ops_sub : OpS Kf .st rSubI oSub := ops_I0 fun _ _ i j => .int _
theorem ops_mul : OpS Kf .st rMulI oMul := ops_I (fun i j h => of_decide_eq_true h) fun _ _ i j => .int _
theorem de_sub (ha : DE K X W s1 a ta ga) (hb : DE K X W s2 b tb gb) : DE K X W .st (.BinOp a .Sub b pos) (tOp rSubI ta tb) (eBin oSub ga gb) := by
  obtain ⟨K0, T0, L0⟩ := K
  cases ha.hK
  exact de_bin op_sub ops_sub ha hb
theorem de_mul (ha : DE K X W s1 a ta ga) (hb : DE K X W s2 b tb gb) : DE K X W .st (.BinOp a .Mult b pos) (tOp rMulI ta tb) (eBin oMul ga gb) := by
  obtain ⟨K0, T0, L0⟩ := K
  cases ha.hK
  exact de_bin op_mulW ops_mul ha hb
theorem de_fdiv (ha : DE K X W s1 a ta ga) (hb : DE K X W s2 b tb gb) : DE K X W .st (.BinOp a .FloorDiv b pos) (tOp rFdivI ta tb) (eBin oFdiv ga gb) := by
  obtain ⟨K0, T0, L0⟩ := K
  cases ha.hK
  exact de_bin op_fdivW (ops_I (fun i j h => of_decide_eq_true h) fun _ _ i j => .int _) ha hb
theorem de_mod (ha : DE K X W s1 a ta ga) (hb : DE K X W s2 b tb gb) : DE K X W .st (.BinOp a .Mod b pos) (tOp rModI ta tb) (eBin oMod ga gb) := by
  obtain ⟨K0, T0, L0⟩ := K
  cases ha.hK
  exact de_bin op_mod (ops_I (fun i j h => of_decide_eq_true h) fun _ _ i j => .int _) ha hb
theorem de_pow (ha : DE K X W s1 a ta ga) (hb : DE K X W s2 b tb gb) : DE K X W .st (.BinOp a .Pow b pos) (tOp rPowI ta tb) (eBin oPow ga gb) := by
  obtain ⟨K0, T0, L0⟩ := K
  cases ha.hK
  exact de_bin op_pow (ops_I (fun i j h => of_decide_eq_true h) fun _ _ i j => .int _) ha hb
theorem de_shr (ha : DE K X W s1 a ta ga) (hb : DE K X W s2 b tb gb) : DE K X W .st (.BinOp a .RShift b pos) (tOp rShrI ta tb) (eBin oShr ga gb) := by
  obtain ⟨K0, T0, L0⟩ := K
  cases ha.hK
  exact de_bin op_shr (ops_I (fun i j h => of_decide_eq_true h) fun _ _ i j => .int _) ha hb
theorem de_shl (ha : DE K X W s1 a ta ga) (hb : DE K X W s2 b tb gb) : DE K X W .st (.BinOp a .LShift b pos) (tOp rShlI ta tb) (eBin oShl ga gb) := by
  obtain ⟨K0, T0, L0⟩ := K
  cases ha.hK
  exact de_bin op_shl (ops_I (fun i j h => of_decide_eq_true h) fun _ _ i j => .int _) ha hb
theorem de_band (ha : DE K X W s1 a ta ga) (hb : DE K X W s2 b tb gb) : DE K X W .st (.BinOp a .BitAnd b pos) (tOp rAndI ta tb) (eBin oAnd ga gb) := by
  obtain ⟨K0, T0, L0⟩ := K
  cases ha.hK
  exact de_bin op_and (ops_I0 fun _ _ i j => .int _) ha hb
/-! a + b: ints, texts, tuples, lists (frozen); a + b of lists, new -/
def rAddI : R2 := rI0 fun i j => .int (i + j)
def rAddS : R2 := fun x y H Q => ∃ i j, x = .str i ∧ y = .str j ∧ i.length + j.length ≤ sizeLine ∧ Q (.str (i ++ j)) H
theorem ops_addS : OpS Kf .st rAddS oAddS := by
  intro aw F H Q E x y d e w go rx ry hw
  cases d <;> cases e <;> first
    | exact hw.elim
    | skip
  rename_i i j
  have hx := rx.str
  have hy := ry.str
  subst hx hy
  simp only [oAddS] at hw
  by_cases hc : i.length + j.length ≤ sizeLine
  · rw [if_pos hc] at hw
    exact ⟨i, j, rfl, rfl, hc, Wn.val hw go (.str _)⟩
  · rw [if_neg hc] at hw
    exact hw.elim
theorem ops_addT : OpS Kf .st (rCatA Kf) oAddT := by
  intro aw F H Q E x y d e w go rx ry hw
  cases d <;> cases e <;> first
    | exact hw.elim
    | skip
  rename_i xs ys
  obtain ⟨a, us, rfl, hu, du⟩ := rx.tupl go.sub
  obtain ⟨b, vs, rfl, hv, dv⟩ := ry.tupl go.sub
  simp only [oAddT] at hw
  by_cases hc : xs.length + ys.length ≤ sizeLine
  · rw [if_pos hc] at hw
    refine ⟨a, b, us, vs, rfl, rfl, hu, hv, by rw [du.length, dv.length]; exact hc, fun e => ?_, fun _ e => ?_, fun _ _ => Wn.tupNew hw go (du.app dv)⟩
    · subst e
      cases du
      exact Wn.val hw go (by
        rcases ry with r | ⟨_, _, _, e, _⟩
        · exact r
        · cases e)
    · subst e
      cases dv
      rw [List.append_nil] at hw
      exact Wn.val hw go (by
        rcases rx with r | ⟨_, _, _, e, _⟩
        · exact r
        · cases e)
  · rw [if_neg hc] at hw
    exact hw.elim
theorem ops_addL : OpS Kf .fr rCat oAddL := by
  intro aw F H Q E x y d e w go rx ry hw
  cases d <;> cases e <;> first
    | exact hw.elim
    | skip
  rename_i xs ys
  obtain ⟨a, us, rfl, hu, du⟩ := rx.seq go.sub
  obtain ⟨b, vs, rfl, hv, dv⟩ := ry.seq go.sub
  simp only [oAddL] at hw
  by_cases hc : xs.length + ys.length ≤ sizeLine
  · rw [if_pos hc] at hw
    exact ⟨a, b, us, vs, rfl, rfl, hu, hv, by rw [du.length, dv.length]; exact hc, Wn.lstNew hw go (du.app dv)⟩
  · rw [if_neg hc] at hw
    exact hw.elim
def rAdd4 (K : PySem.W.Frag) : R2 := fun x y H Q => rAddI x y H Q ∨ (rAddS x y H Q ∨ (rCatA K x y H Q ∨ rCat x y H Q))
theorem de_add (ha : DE K X W s1 a ta ga) (hb : DE K X W s2 b tb gb) : DE K X W .st (.BinOp a .Add b pos) (tOp (rAdd4 K) ta tb) (eBin oAdd ga gb) := by
  obtain ⟨K0, T0, L0⟩ := K
  cases ha.hK
  exact de_bin (op_add.or (op_add_str.or (op_catA.or op_cat))) ((ops_I0 fun _ _ i j => .int _).or (ops_addS.or (ops_addT.or ops_addL.toSt))) ha hb
/-! a list times an int -/
def oMulL : D → D → Wl → Res := fun d e w => match d, e with
  | .lst xs, .int k => if -(2 ^ 63) ≤ k ∧ k < 2 ^ 63 ∧ xs.length * k.toNat ≤ sizeLine then .ok (.lst (List.replicate k.toNat xs).flatten) w else .bad
  | _, _ => .bad
theorem DvAll.rep {aw : Bs} {F : Hp} {vs : List V} {ds : List D} (h : DvAll Kf aw F vs ds) : ∀ k : Nat, DvAll Kf aw F (List.replicate k vs).flatten (List.replicate k ds).flatten
  | 0 => .nil
  | k + 1 => by
    rw [List.replicate_succ, List.replicate_succ, List.flatten_cons, List.flatten_cons]
    exact h.app (DvAll.rep h k)
theorem ops_mulL : OpS Kf .fr rRep oMulL := by
  intro aw F H Q E x y d e w go rx ry hw
  cases d <;> cases e <;> first
    | exact hw.elim
    | skip
  rename_i xs k
  obtain ⟨a, us, rfl, hu, du⟩ := rx.seq go.sub
  have hy := ry.int
  subst hy
  simp only [oMulL] at hw
  by_cases hc : -(2 ^ 63) ≤ k ∧ k < 2 ^ 63 ∧ xs.length * k.toNat ≤ sizeLine
  · rw [if_pos hc] at hw
    exact ⟨a, k, us, rfl, rfl, hu, hc.1, hc.2.1, by rw [du.length]; exact hc.2.2, Wn.lstNew hw go (du.rep _)⟩
  · rw [if_neg hc] at hw
    exact hw.elim
theorem de_mulL (ha : DE K X W s1 a ta ga) (hb : DE K X W s2 b tb gb) : DE K X W .fr (.BinOp a .Mult b pos) (tOp rRep ta tb) (eBin oMulL ga gb) := by
  obtain ⟨K0, T0, L0⟩ := K
  cases ha.hK
  exact de_bin op_rep ops_mulL ha hb
/-! -a -/
end
end DL

/-! DL, part c: comparisons, truth, tests. -/
namespace DL
open PySem PySem.Spec L2
open PyProof.Rows hiding St

section
variable {K : Kt} {Kf : PySem.W.Frag} {aw : Bs} {F H : Hp}
mutual
theorem Dv.dp (s : Same F H) : ∀ {v : V} {d : D}, Dv Kf aw F v d → d.isP = true → Dp Kf H v d.toP
  | _, _, .non, _ => .non
  | _, _, .bl b, _ => .bl b
  | _, _, .int i, _ => .int i
  | _, _, .str x, _ => .str x
  | _, _, .lst h a, p => .lst (.inl (.inl (s _ _ h))) (DvAll.dp s a p)
  | _, _, .tup h a, p => .tup (SqT.of (s _ _ h)) (DvAll.dp s a p)
  | _, _, .con h a, p => .tup (sqT_same s h) (DvAll.dp s a p)
  | _, _, .well _, p => absurd (show false = true from p) (by decide)
  | _, _, .ty _, p => absurd (show false = true from p) (by decide)
  | _, _, .fn _, p => absurd (show false = true from p) (by decide)
  | _, _, .rng _, p => absurd (show false = true from p) (by decide)
  | _, _, .hol _, p => absurd (show false = true from p) (by decide)
  | _, _, .scr _, p => absurd (show false = true from p) (by decide)
theorem DvAll.dp (s : Same F H) : ∀ {vs : List V} {ds : List D}, DvAll Kf aw F vs ds → arePs ds = true → DpAll Kf H vs (toPs ds)
  | _, _, .nil, _ => .nil
  | _, _, .cons a b, p => .cons (Dv.dp s a (Bool.and_eq_true_iff.mp p).1) (DvAll.dp s b (Bool.and_eq_true_iff.mp p).2)
end
theorem Dq.dp {v : V} {d : D} (q : Dq Kf aw F H v d) (s : Same F H) (p : d.isP = true) : Dp Kf H v d.toP := by
  rcases q with q | ⟨ds, a, vs, rfl, rfl, n, h, r⟩
  · exact q.dp s p
  · exact .lst (.inl (.inl h)) (r.dp s p)
end
def D.sh (d : D) : Bool := d.isP && SeqAt.shaped d.toP
def oEq : D → D → Wl → Res := fun d e w => if d.sh && e.sh then .ok (.bl (d.eqv e)) w else .bad
def oNe : D → D → Wl → Res := fun d e w => if d.sh && e.sh then .ok (.bl (!d.eqv e)) w else .bad
def oLe := oRel fun i j => decide (i ≤ j)
def oGe := oRel fun i j => decide (j ≤ i)
def rLeI : R2 := rI0 fun i j => .bl (decide (i ≤ j))
def rGtI : R2 := rI0 fun i j => .bl (decide (j < i))
def rGeI : R2 := rI0 fun i j => .bl (decide (j ≤ i))
def rLtI : R2 := rI0 fun i j => .bl (decide (i < j))
def allInts : List D → Option (List Int)
  | [] => some []
  | .int i :: r => (allInts r).map (i :: ·)
  | _ :: _ => none
def oLtT : D → D → Wl → Res := fun d e w => match d, e with
  | .tup xs, .tup ys => (match allInts xs, allInts ys with
    | some a, some b => .ok (.bl (HT.lexLt a b)) w
    | _, _ => .bad)
  | _, _ => .bad
def oLt := oOr (oRel fun i j => decide (i < j)) oLtT
section
variable {X : Cx} {W : WX} {K : Kt} {Kf : PySem.W.Frag} {s s1 s2 s3 : Sg} {pos : Pos} {a b c : Expr} {ta tb tc : TE} {ga gb gc : EG} {r r' : R2} {o o' : D → D → Wl → Res} {op op' : CmpOp}
theorem vals_ints {aw : Bs} {F : Hp} : ∀ {vs : List V} {ds : List D} {ns : List Int}, DvAll Kf aw F vs ds → allInts ds = some ns → vs = ns.map V.int
  | _, _, _, .nil, h => by
    cases h
    rfl
  | _, _, ns, .cons (d := .int i) (ds := ds) x y, h => by
    cases x
    cases q : allInts ds with
    | none =>
      simp only [allInts, q, Option.map_none] at h
      cases h
    | some ms =>
      simp only [allInts, q, Option.map_some, Option.some.injEq] at h
      subst h
      rw [vals_ints y q]
      rfl
  | _, _, ns, .cons (d := .non) x y, h => nomatch h
  | _, _, ns, .cons (d := .bl _) x y, h => nomatch h
  | _, _, ns, .cons (d := .str _) x y, h => nomatch h
  | _, _, ns, .cons (d := .lst _) x y, h => nomatch h
  | _, _, ns, .cons (d := .tup _) x y, h => nomatch h
  | _, _, ns, .cons (d := .well) x y, h => nomatch h
  | _, _, ns, .cons (d := .ty _) x y, h => nomatch h
  | _, _, ns, .cons (d := .fn _) x y, h => nomatch h
  | _, _, ns, .cons (d := .rng _ _) x y, h => nomatch h
  | _, _, ns, .cons (d := .hol _) x y, h => nomatch h
  | _, _, ns, .cons (d := .scr _) x y, h => nomatch h
theorem ops_eq : OpS Kf .st (rEqD Kf) oEq := by
  intro aw F H Q E x y d e w go rx ry hw
  unfold oEq at hw
  by_cases hc : (d.sh && e.sh) = true
  · rw [if_pos hc] at hw
    obtain ⟨h1, h2⟩ := Bool.and_eq_true_iff.mp hc
    obtain ⟨p1, q1⟩ := Bool.and_eq_true_iff.mp h1
    obtain ⟨p2, q2⟩ := Bool.and_eq_true_iff.mp h2
    exact ⟨d.toP, e.toP, rx.dp go.sub p1, ry.dp go.sub p2, q1, q2, Wn.val hw go (.bl _)⟩
  · rw [if_neg hc] at hw
    exact hw.elim
theorem ops_ne : OpS Kf .st (rNeD Kf) oNe := by
  intro aw F H Q E x y d e w go rx ry hw
  unfold oNe at hw
  by_cases hc : (d.sh && e.sh) = true
  · rw [if_pos hc] at hw
    obtain ⟨h1, h2⟩ := Bool.and_eq_true_iff.mp hc
    obtain ⟨p1, q1⟩ := Bool.and_eq_true_iff.mp h1
    obtain ⟨p2, q2⟩ := Bool.and_eq_true_iff.mp h2
    exact ⟨d.toP, e.toP, rx.dp go.sub p1, ry.dp go.sub p2, q1, q2, Wn.val hw go (.bl _)⟩
  · rw [if_neg hc] at hw
    exact hw.elim
theorem ops_ltT : OpS Kf .st (rLtT Kf) oLtT := by
  intro aw F H Q E x y d e w go rx ry hw
  cases d <;> cases e <;> first
    | exact hw.elim
    | skip
  rename_i xs ys
  simp only [oLtT] at hw
  cases q1 : allInts xs with
  | none =>
    rw [q1] at hw
    exact hw.elim
  | some ns =>
    cases q2 : allInts ys with
    | none =>
      rw [q1, q2] at hw
      exact hw.elim
    | some ms =>
      rw [q1, q2] at hw
      obtain ⟨a, us, rfl, hu, du⟩ := rx.tupl go.sub
      obtain ⟨b, vs, rfl, hv, dv⟩ := ry.tupl go.sub
      rw [vals_ints du q1] at hu
      rw [vals_ints dv q2] at hv
      exact ⟨a, b, ns, ms, rfl, rfl, hu, hv, Wn.val hw go (.bl _)⟩
/-! a comparison -/
theorem de_cmp (ho : OpR X (compareOp op) r) (hs : OpS K s r o) (ha : DE K X W s1 a ta ga) (hb : DE K X W s2 b tb gb) (hm : behindInMarks op b = false) : DE K X W s (.Compare a [op] [b] pos) (tOp r ta tb) (eBin o ga gb) := by
  obtain ⟨K0, T0, L0⟩ := K
  cases ha.hK
  exact ⟨rfl, pe_cmpR ho ha.pe hb.pe hm, es_bin hs ha.es hb.es⟩
theorem de_eq (hu : X.A.units + 65 < cLine) (ha : DE K X W s1 a ta ga) (hb : DE K X W s2 b tb gb) : DE K X W .st (.Compare a [.Eq] [b] pos) (tOp (rEqD K) ta tb) (eBin oEq ga gb) := by
  obtain ⟨K0, T0, L0⟩ := K
  cases ha.hK
  exact de_cmp (op_eqD (Nat.lt_of_succ_lt hu)) ops_eq ha hb (nomark _)
theorem ops_rel {p : Int → Int → Bool} : OpS Kf .st (rI0 fun i j => .bl (p i j)) (oRel p) := ops_I0 fun _ _ i j => .bl _
def rLt2 (K : PySem.W.Frag) : R2 := fun x y H Q => rLtI x y H Q ∨ rLtT K x y H Q
theorem de_lt (hu : X.A.units + 65 < cLine) (ha : DE K X W s1 a ta ga) (hb : DE K X W s2 b tb gb) : DE K X W .st (.Compare a [.Lt] [b] pos) (tOp (rLt2 K) ta tb) (eBin oLt ga gb) := by
  obtain ⟨K0, T0, L0⟩ := K
  cases ha.hK
  exact de_cmp (op_lt.or (op_ltT (by omega))) (ops_rel.or ops_ltT) ha hb (nomark _)
theorem de_le (ha : DE K X W s1 a ta ga) (hb : DE K X W s2 b tb gb) : DE K X W .st (.Compare a [.LtE] [b] pos) (tOp rLeI ta tb) (eBin oLe ga gb) := by
  obtain ⟨K0, T0, L0⟩ := K
  cases ha.hK
  exact de_cmp op_le ops_rel ha hb (nomark _)
theorem de_gt (ha : DE K X W s1 a ta ga) (hb : DE K X W s2 b tb gb) : DE K X W .st (.Compare a [.Gt] [b] pos) (tOp rGtI ta tb) (eBin oGt ga gb) := by
  obtain ⟨K0, T0, L0⟩ := K
  cases ha.hK
  exact de_cmp op_gt ops_rel ha hb (nomark _)
/-! is -/
def D.isN : D → Bool
  | .non => true
  | _ => false
def oIsN : D → D → Wl → Res := fun d e w => match e with
  | .non => .ok (.bl d.isN) w
  | _ => .bad
def oNotN : D → D → Wl → Res := fun d e w => match e with
  | .non => .ok (.bl (!d.isN)) w
  | _ => .bad
theorem dq_isN {aw : Bs} {F H : Hp} {v : V} {d : D} (q : Dq Kf aw F H v d) : decide (v = .non) = d.isN := by
  rcases q with q | ⟨ds, a, vs, rfl, rfl, _, _, _⟩
  · cases q <;> rfl
  · rfl
theorem ops_isN : OpS Kf .st (fun x y H Q => y = .non ∧ Q (.bl (decide (x = .non))) H) oIsN := by
  intro aw F H Q E x y d e w go rx ry hw
  cases e <;> first
    | exact hw.elim
    | skip
  exact ⟨ry.non, by rw [dq_isN rx]; exact Wn.val (show Wn .st Kf aw F H Q E (.ok (.bl d.isN) w) from hw) go (.bl _)⟩
theorem ops_notN : OpS Kf .st (fun x y H Q => y = .non ∧ Q (.bl (!decide (x = .non))) H) oNotN := by
  intro aw F H Q E x y d e w go rx ry hw
  cases e <;> first
    | exact hw.elim
    | skip
  exact ⟨ry.non, by rw [dq_isN rx]; exact Wn.val (show Wn .st Kf aw F H Q E (.ok (.bl (!d.isN)) w) from hw) go (.bl _)⟩
def oIsT : D → D → Wl → Res := fun d e w => match d, e with
  | .ty m, .ty n => .ok (.bl (decide (m = n))) w
  | _, _ => .bad
def oNotT : D → D → Wl → Res := fun d e w => match d, e with
  | .ty m, .ty n => .ok (.bl (!decide (m = n))) w
  | _, _ => .bad
theorem ops_isT : OpS Kf .st (fun x y H Q => ∃ m n, x = .ty m ∧ y = .ty n ∧ Q (.bl (decide (m = n))) H) oIsT := by
  intro aw F H Q E x y d e w go rx ry hw
  cases d <;> cases e <;> first
    | exact hw.elim
    | skip
  rename_i m n
  exact ⟨m, n, rx.ty, ry.ty, Wn.val (show Wn .st Kf aw F H Q E (.ok (.bl (decide (m = n))) w) from hw) go (.bl _)⟩
theorem ops_notT : OpS Kf .st (fun x y H Q => ∃ m n, x = .ty m ∧ y = .ty n ∧ Q (.bl (!decide (m = n))) H) oNotT := by
  intro aw F H Q E x y d e w go rx ry hw
  cases d <;> cases e <;> first
    | exact hw.elim
    | skip
  rename_i m n
  exact ⟨m, n, rx.ty, ry.ty, Wn.val (show Wn .st Kf aw F H Q E (.ok (.bl (!decide (m = n))) w) from hw) go (.bl _)⟩
def oIsB : D → D → Wl → Res := fun d e w => match d, e with
  | .bl m, .bl n => .ok (.bl (decide (m = n))) w
  | _, _ => .bad
def oNotB : D → D → Wl → Res := fun d e w => match d, e with
  | .bl m, .bl n => .ok (.bl (!decide (m = n))) w
  | _, _ => .bad
theorem ops_isB : OpS Kf .st rIsB oIsB := by
  intro aw F H Q E x y d e w go rx ry hw
  cases d <;> cases e <;> first
    | exact hw.elim
    | skip
  rename_i m n
  exact ⟨m, n, rx.bl, ry.bl, Wn.val (show Wn .st Kf aw F H Q E (.ok (.bl (decide (m = n))) w) from hw) go (.bl _)⟩
theorem ops_notB : OpS Kf .st rNotB oNotB := by
  intro aw F H Q E x y d e w go rx ry hw
  cases d <;> cases e <;> first
    | exact hw.elim
    | skip
  rename_i m n
  exact ⟨m, n, rx.bl, ry.bl, Wn.val (show Wn .st Kf aw F H Q E (.ok (.bl (!decide (m = n))) w) from hw) go (.bl _)⟩
def rIs3 : R2 := fun x y H Q => (y = .non ∧ Q (.bl (decide (x = .non))) H) ∨ ((∃ m n, x = .ty m ∧ y = .ty n ∧ Q (.bl (decide (m = n))) H) ∨ rIsB x y H Q)
def rNot3 : R2 := fun x y H Q => (y = .non ∧ Q (.bl (!decide (x = .non))) H) ∨ ((∃ m n, x = .ty m ∧ y = .ty n ∧ Q (.bl (!decide (m = n))) H) ∨ rNotB x y H Q)
def oIs := oOr oIsN (oOr oIsT oIsB)
def oNot := oOr oNotN (oOr oNotT oNotB)
theorem de_is (ha : DE K X W s1 a ta ga) (hb : DE K X W s2 b tb gb) : DE K X W .st (.Compare a [.Is] [b] pos) (tOp rIs3 ta tb) (eBin oIs ga gb) := by
  obtain ⟨K0, T0, L0⟩ := K
  cases ha.hK
  exact de_cmp (op_isN.or (op_isTy.or op_isBl)) (ops_isN.or (ops_isT.or ops_isB)) ha hb (nomark _)
/-! in -/
def rInU (K : PySem.W.Frag) : R2 := fun x y H Q => ∃ d ds, Dp K H x d ∧ Dp K H y (.tuple ds) ∧ SeqAt.shaped d = true ∧ SeqAt.shaped (.tuple ds) = true ∧ Q (.bl (ds.any fun z => PyData.eqv z d)) H
def rNotInU (K : PySem.W.Frag) : R2 := fun x y H Q => ∃ d ds, Dp K H x d ∧ Dp K H y (.tuple ds) ∧ SeqAt.shaped d = true ∧ SeqAt.shaped (.tuple ds) = true ∧ Q (.bl (!ds.any fun z => PyData.eqv z d)) H
theorem op_inU (hu : X.A.units + 65 < cLine) : OpR X (compareOp .In) (rInU X.K) := by
  rintro pins st σ H x y v u Q I rx ry ⟨d, ds, hd, he, sd, se, q⟩
  obtain ⟨_, m1⟩ := hd.reads I d x v rx
  obtain ⟨_, m2⟩ := he.reads I (.tuple ds) y u ry
  exact SeqAt.in_tuple_reads m2 m1 (SeqAt.canLay_of_shaped se) (SeqAt.canLay_of_shaped sd) (room_in_shaped sd hu) ⟨.bl _, H, I, rfl, q⟩
theorem op_notInU (hu : X.A.units + 65 < cLine) : OpR X (compareOp .NotIn) (rNotInU X.K) := by
  rintro pins st σ H x y v u Q I rx ry ⟨d, ds, hd, he, sd, se, q⟩
  obtain ⟨_, m1⟩ := hd.reads I d x v rx
  obtain ⟨_, m2⟩ := he.reads I (.tuple ds) y u ry
  exact SeqAt.notIn_tuple_reads m2 m1 (SeqAt.canLay_of_shaped se) (SeqAt.canLay_of_shaped sd) (room_in_shaped sd hu) ⟨.bl _, H, I, rfl, q⟩
def D.items : D → Option (List D)
  | .lst ds => some ds
  | .tup ds => some ds
  | _ => none
def isIn (d : D) (ds : List D) : Bool := ds.any fun z => z.eqv d
theorem isIn_p (d : D) : ∀ ds : List D, ((toPs ds).any fun z => PyData.eqv z d.toP) = isIn d ds
  | [] => rfl
  | e :: r => by
    show (PyData.eqv e.toP d.toP || (toPs r).any fun z => PyData.eqv z d.toP) = (e.eqv d || isIn d r)
    rw [isIn_p d r]
    rfl
def oIn : D → D → Wl → Res := fun d e w => match e.items with
  | some ds => if d.sh && e.sh then .ok (.bl (isIn d ds)) w else .bad
  | none => .bad
def oNotIn : D → D → Wl → Res := fun d e w => match e.items with
  | some ds => if d.sh && e.sh then .ok (.bl (!isIn d ds)) w else .bad
  | none => .bad
def rIn2 (K : PySem.W.Frag) : R2 := fun x y H Q => rInD K x y H Q ∨ rInU K x y H Q
def rNotIn2 (K : PySem.W.Frag) : R2 := fun x y H Q => rNotInD K x y H Q ∨ rNotInU K x y H Q
theorem ops_in : OpS Kf .st (rIn2 Kf) oIn := by
  intro aw F H Q E x y d e w go rx ry hw
  cases e <;> first
    | exact hw.elim
    | skip
  all_goals
    rename_i ds
    simp only [oIn, D.items] at hw
    split at hw
    · rename_i hc
      obtain ⟨h1, h2⟩ := Bool.and_eq_true_iff.mp hc
      obtain ⟨p1, q1⟩ := Bool.and_eq_true_iff.mp h1
      obtain ⟨p2, q2⟩ := Bool.and_eq_true_iff.mp h2
      first
        | exact .inl ⟨d.toP, toPs ds, rx.dp go.sub p1, ry.dp go.sub p2, q1, q2, by rw [isIn_p]; exact Wn.val hw go (.bl _)⟩
        | exact .inr ⟨d.toP, toPs ds, rx.dp go.sub p1, ry.dp go.sub p2, q1, q2, by rw [isIn_p]; exact Wn.val hw go (.bl _)⟩
    · exact hw.elim
theorem ops_notIn : OpS Kf .st (rNotIn2 Kf) oNotIn := by
  intro aw F H Q E x y d e w go rx ry hw
  cases e <;> first
    | exact hw.elim
    | skip
  all_goals
    rename_i ds
    simp only [oNotIn, D.items] at hw
    split at hw
    · rename_i hc
      obtain ⟨h1, h2⟩ := Bool.and_eq_true_iff.mp hc
      obtain ⟨p1, q1⟩ := Bool.and_eq_true_iff.mp h1
      obtain ⟨p2, q2⟩ := Bool.and_eq_true_iff.mp h2
      first
        | exact .inl ⟨d.toP, toPs ds, rx.dp go.sub p1, ry.dp go.sub p2, q1, q2, by rw [isIn_p]; exact Wn.val hw go (.bl _)⟩
        | exact .inr ⟨d.toP, toPs ds, rx.dp go.sub p1, ry.dp go.sub p2, q1, q2, by rw [isIn_p]; exact Wn.val hw go (.bl _)⟩
    · exact hw.elim
theorem de_in (hu : X.A.units + 65 < cLine) (ha : DE K X W s1 a ta ga) (hb : DE K X W s2 b tb gb) (hm : behindInMarks .In b = false := by rfl) : DE K X W .st (.Compare a [.In] [b] pos) (tOp (rIn2 K) ta tb) (eBin oIn ga gb) := by
  obtain ⟨K0, T0, L0⟩ := K
  cases ha.hK
  exact de_cmp ((op_inD hu).or (op_inU hu)) ops_in ha hb hm
/-! a < b < c -/
def eChain (o o' : D → D → Wl → Res) (ga gb gc : EG) : EG := fun en w => (ga en w).bind fun d w1 => (gb en w1).bind fun e w2 => (o d e w2).bind fun k w3 => match k with
  | .bl true => (gc en w3).bind fun z w4 => o' e z w4
  | .bl false => .ok (.bl false) w3
  | _ => .bad
theorem de_chain (ho : OpR X (compareOp op) r) (ho' : OpR X (compareOp op') r') (hs : OpS K .st r o) (hs' : OpS K .st r' o') (ha : DE K X W s1 a ta ga) (hb : DE K X W s2 b tb gb) (hc : DE K X W s3 c tc gc)
    (hm : lastMarks [op, op'] [b, c] = false := by rfl) : DE K X W .st (.Compare a [op, op'] [b, c] pos) (tChain r r' ta tb tc) (eChain o o' ga gb gc) := by
  obtain ⟨K0, T0, L0⟩ := K
  cases ha.hK
  refine ⟨rfl, pe_chain ho ho' ha.pe hb.pe hc.pe hm, fun f en w σ F H Q ok h => ?_⟩
  refine ha.es.bindW ok h fun d w1 v F1 H1 g1 o1 r1 h1 => hb.es.bindW o1 h1 fun e w2 u F2 H2 g2 o2 r2 h2 => ?_
  refine hs f.aw F2 H2 _ (WE W σ) v u d e w2 o2.here (r1.go g2) r2 ?_
  cases q : o d e w2 with
  | bad =>
    rw [q] at h2
    exact h2
  | ex c fn a w3 =>
    rw [q] at h2
    exact h2
  | ok k w3 =>
    rw [q] at h2
    intro z F3 H3 g3 r3
    cases k <;> first
      | exact h2.elim
      | skip
    rename_i kb
    cases r3
    refine ⟨kb, rfl, ?_⟩
    cases kb with
    | false => exact Wn.val (Wn.any h2 g3) g3.here (.bl _)
    | true => exact hc.es.bindW (o2.step g3) (Wn.any h2 g3) fun z' w4 u' F4 H4 g4 o4 r4 h4 => hs' f.aw F4 H4 Q _ u u' e z' w4 o4.here ((r2.go g3).go g4) r4 h4
theorem de_lele (ha : DE K X W s1 a ta ga) (hb : DE K X W s2 b tb gb) (hc : DE K X W s3 c tc gc) : DE K X W .st (.Compare a [.LtE, .LtE] [b, c] pos) (tChain rLeI rLeI ta tb tc) (eChain oLe oLe ga gb gc) := by
  obtain ⟨K0, T0, L0⟩ := K
  cases ha.hK
  exact de_chain op_le op_le ops_rel ops_rel ha hb hc (nomark _)
theorem de_lelt (ha : DE K X W s1 a ta ga) (hb : DE K X W s2 b tb gb) (hc : DE K X W s3 c tc gc) : DE K X W .st (.Compare a [.LtE, .Lt] [b, c] pos) (tChain rLeI rLtI ta tb tc) (eChain oLe (oRel fun i j => decide (i < j)) ga gb gc) := by
  obtain ⟨K0, T0, L0⟩ := K
  cases ha.hK
  exact de_chain op_le op_lt ops_rel ops_rel ha hb hc (nomark _)
end

/-! ### tests -/
structure DT (K : Kt) (X : Cx) (W : WX) (e : Expr) (t : TT) (g : EG) : Prop where
  pt : PT X e t
  es : ET K W t g
structure DW (K : Kt) (X : Cx) (W : WX) (e : Expr) (t : TT) (g : EG) : Prop where
  pw : PW X e t
  es : ET K W t g
def bNot (r : Res) : Res := match r with
  | .ok (.bl b) w => .ok (.bl (!b)) w
  | .ok _ _ => .bad
  | z => z
def eNot (ga : EG) : EG := fun en w => bNot (ga en w)
def eAnd (ga gb : EG) : EG := fun en w => bIf (ga en w) (gb en) fun w1 => .ok (.bl false) w1
def eOr (ga gb : EG) : EG := fun en w => bIf (ga en w) (fun w1 => .ok (.bl true) w1) (gb en)
def eIf (gc ga gb : EG) : EG := fun en w => bIf (gc en w) (ga en) (gb en)
section
variable {X : Cx} {W : WX} {K : Kt} {Kf : PySem.W.Frag} {s s1 s2 s3 : Sg} {pos : Pos} {a b c : Expr} {ta tb tc : TE} {tA tZ : TT} {ga gb gc : EG} {rest : List Expr} {aw : Bs} {F H F1 H1 : Hp} {QB : Bool → Hp → Prop} {E : XK} {r : Res} {w1 : Wl}
theorem et_bindB {f : Fx} {en : List Sl} {w : Wl} {σ : St} {R : Bool → Hp → Prop} (ha : ET K W tA ga) (o : Ok K f en w σ F H) {ka kb : Wl → Res} (h : WnB K f.aw F H QB (WE W σ) (bIf (ga en w) ka kb))
    (hk : ∀ b w1 F1 H1, Go f.aw F H F1 H1 w1 → Ok K f en w1 σ F1 H1 → WnB K f.aw F1 H1 QB (WE W σ) (if b = true then ka w1 else kb w1) → R b H1) : tA σ H R :=
  ha.bind o (N := fun z F H => WnB K f.aw F H QB (WE W σ) z) (fun _ _ _ _ g h => WnB.any h g) (fun h => h) (fun c fn a w h => h) h hk
theorem et_bindE {f : Fx} {en : List Sl} {w : Wl} {σ : St} {Q : VK} {R : Bool → Hp → Prop} (ha : ET K W tA ga) (o : Ok K f en w σ F H) {ka kb : Wl → Res} (h : Wn s K f.aw F H Q (WE W σ) (bIf (ga en w) ka kb))
    (hk : ∀ b w1 F1 H1, Go f.aw F H F1 H1 w1 → Ok K f en w1 σ F1 H1 → Wn s K f.aw F1 H1 Q (WE W σ) (if b = true then ka w1 else kb w1) → R b H1) : tA σ H R :=
  ha.bind o (N := fun z F H => Wn s K f.aw F H Q (WE W σ) z) (fun _ _ _ _ g h => Wn.any h g) (fun h => h) (fun c fn a w h => h) h hk
/-- an expression whose value is a bool, as a test -/
theorem es_test (ha : ES K W s1 ta ga) : ET K W (fun σ H Q => ta σ H fun x H' => ∃ k, x = .bl k ∧ Q k H') ga := by
  intro f en w σ F H Q o h
  refine ha.toWk f en w σ F H _ o ?_
  cases q : ga en w with
  | bad =>
    rw [q] at h
    exact h
  | ex c fn a w1 =>
    rw [q] at h
    exact h
  | ok d w1 =>
    rw [q] at h
    cases d <;> first
      | exact h.elim
      | skip
    exact fun v F' H' g r => ⟨_, r.bl, h F' H' g⟩
theorem dt_cmp {op : CmpOp} {r : R2} {o : D → D → Wl → Res} (ho : OpR X (compareOp op) r) (hs : OpS K s r o) (ha : DE K X W s1 a ta ga) (hb : DE K X W s2 b tb gb) (hm : behindInMarks op b = false) : DT K X W (.Compare a [op] [b] pos) (tTest (tOp r ta tb)) (eBin o ga gb) := by
  obtain ⟨K0, T0, L0⟩ := K
  cases ha.hK
  exact ⟨pt_cmpR ho ha.pe hb.pe hm, es_test (es_bin hs ha.es hb.es)⟩
theorem dt_eq (hu : X.A.units + 65 < cLine) (ha : DE K X W s1 a ta ga) (hb : DE K X W s2 b tb gb) : DT K X W (.Compare a [.Eq] [b] pos) (tTest (tOp (rEqD K) ta tb)) (eBin oEq ga gb) := by
  obtain ⟨K0, T0, L0⟩ := K
  cases ha.hK
  exact dt_cmp (op_eqD (Nat.lt_of_succ_lt hu)) ops_eq ha hb (nomark _)
theorem dt_ne (hu : X.A.units + 65 < cLine) (ha : DE K X W s1 a ta ga) (hb : DE K X W s2 b tb gb) : DT K X W (.Compare a [.NotEq] [b] pos) (tTest (tOp (rNeD K) ta tb)) (eBin oNe ga gb) := by
  obtain ⟨K0, T0, L0⟩ := K
  cases ha.hK
  exact dt_cmp (op_neD (Nat.lt_of_succ_lt hu)) ops_ne ha hb (nomark _)
theorem dt_lt (hu : X.A.units + 65 < cLine) (ha : DE K X W s1 a ta ga) (hb : DE K X W s2 b tb gb) : DT K X W (.Compare a [.Lt] [b] pos) (tTest (tOp (rLt2 K) ta tb)) (eBin oLt ga gb) := by
  obtain ⟨K0, T0, L0⟩ := K
  cases ha.hK
  exact dt_cmp (op_lt.or (op_ltT (by omega))) (ops_rel.or ops_ltT) ha hb (nomark _)
theorem dt_le (ha : DE K X W s1 a ta ga) (hb : DE K X W s2 b tb gb) : DT K X W (.Compare a [.LtE] [b] pos) (tTest (tOp rLeI ta tb)) (eBin oLe ga gb) := by
  obtain ⟨K0, T0, L0⟩ := K
  cases ha.hK
  exact dt_cmp op_le ops_rel ha hb (nomark _)
theorem dt_gt (ha : DE K X W s1 a ta ga) (hb : DE K X W s2 b tb gb) : DT K X W (.Compare a [.Gt] [b] pos) (tTest (tOp rGtI ta tb)) (eBin oGt ga gb) := by
  obtain ⟨K0, T0, L0⟩ := K
  cases ha.hK
  exact dt_cmp op_gt ops_rel ha hb (nomark _)
theorem dt_ge (ha : DE K X W s1 a ta ga) (hb : DE K X W s2 b tb gb) : DT K X W (.Compare a [.GtE] [b] pos) (tTest (tOp rGeI ta tb)) (eBin oGe ga gb) := by
  obtain ⟨K0, T0, L0⟩ := K
  cases ha.hK
  exact dt_cmp op_ge ops_rel ha hb (nomark _)
theorem dt_isnot (ha : DE K X W s1 a ta ga) (hb : DE K X W s2 b tb gb) : DT K X W (.Compare a [.IsNot] [b] pos) (tTest (tOp rNot3 ta tb)) (eBin oNot ga gb) := by
  obtain ⟨K0, T0, L0⟩ := K
  cases ha.hK
  exact dt_cmp (op_notN.or (op_isNotTy.or op_notBl)) (ops_notN.or (ops_notT.or ops_notB)) ha hb (nomark _)
theorem dt_in (hu : X.A.units + 65 < cLine) (ha : DE K X W s1 a ta ga) (hb : DE K X W s2 b tb gb) (hm : behindInMarks .In b = false := by rfl) : DT K X W (.Compare a [.In] [b] pos) (tTest (tOp (rIn2 K) ta tb)) (eBin oIn ga gb) := by
  obtain ⟨K0, T0, L0⟩ := K
  cases ha.hK
  exact dt_cmp ((op_inD hu).or (op_inU hu)) ops_in ha hb hm
theorem dt_notin (hu : X.A.units + 65 < cLine) (ha : DE K X W s1 a ta ga) (hb : DE K X W s2 b tb gb) (hm : behindInMarks .NotIn b = false := by rfl) : DT K X W (.Compare a [.NotIn] [b] pos) (tTest (tOp (rNotIn2 K) ta tb)) (eBin oNotIn ga gb) := by
  obtain ⟨K0, T0, L0⟩ := K
  cases ha.hK
  exact dt_cmp ((op_notInD hu).or (op_notInU hu)) ops_notIn ha hb hm
/-! truth of an int, a list, a tuple -/
def oTru : D → Wl → Res := fun d w => match d with
  | .bl b => .ok (.bl b) w
  | .int i => .ok (.bl (i != 0)) w
  | .non => .ok (.bl false) w
  | .lst ds => .ok (.bl (!ds.isEmpty)) w
  | .tup ds => .ok (.bl (!ds.isEmpty)) w
  | _ => .bad
theorem dvEmpty {vs : List V} {ds : List D} (h : DvAll Kf aw F vs ds) : vs.isEmpty = ds.isEmpty := by cases h <;> rfl
theorem dt_truth (ha : DE K X W s1 a ta ga) (he : ∀ whole, isTrue a X.env whole = (do let v ← whole; standAt a.pos; holding [v] (truthy v)) := by intro _; rfl) : DT K X W a (fun σ H Q => ta σ H fun x H' => ∃ k, TruV K x H' k ∧ Q k H') (eUn oTru ga) := by
  obtain ⟨K0, T0, L0⟩ := K
  cases ha.hK
  refine ⟨pt_truth ha.pe he, fun f en w σ F H Q o h => ?_⟩
  refine ha.es.toWk f en w σ F H _ o ?_
  unfold eUn at h
  cases q : ga en w with
  | bad =>
    rw [q] at h
    exact h
  | ex c fn a w1 =>
    rw [q] at h
    exact h
  | ok d w1 =>
    rw [q] at h
    intro v F' H' g r
    cases d <;> first
      | exact h.elim
      | skip
    · have e := r.non
      subst e
      exact ⟨_, rfl, h F' H' g⟩
    · have e := r.bl
      subst e
      exact ⟨_, rfl, h F' H' g⟩
    · have e := r.int
      subst e
      exact ⟨_, rfl, h F' H' g⟩
    · obtain ⟨p, vs, rfl, hv, dv⟩ := r.seq g.sub
      exact ⟨_, .inl ⟨vs, .inl (.inl hv), rfl⟩, by rw [dvEmpty dv]; exact h F' H' g⟩
    · obtain ⟨p, vs, rfl, hv, dv⟩ := r.tupl g.sub
      exact ⟨_, .inr (.inl ⟨vs, hv, rfl⟩), by rw [dvEmpty dv]; exact h F' H' g⟩
/-! not, and, or -/
theorem dt_not (ha : DT K X W a tA ga) : DT K X W (.UnaryOp .Not a pos) (tNot tA) (eNot ga) := by
  refine ⟨pt_not ha.pt, fun f en w σ F H Q o h => ?_⟩
  refine ha.es f en w σ F H _ o ?_
  unfold eNot bNot at h
  cases q : ga en w with
  | bad =>
    rw [q] at h
    exact h
  | ex c fn a w1 =>
    rw [q] at h
    exact h
  | ok d w1 =>
    rw [q] at h
    cases d <;> first
      | exact h.elim
      | exact h
theorem DW.dt (h : DW K X W a tA ga) : DT K X W a tA ga := ⟨h.pw.pt, h.es⟩
theorem dw_and1 (ha : DT K X W a tA ga) : DW K X W (.BoolOp .And [a] pos) tA ga := ⟨pw_and1 ha.pt, ha.es⟩
theorem dw_or1 (ha : DT K X W a tA ga) : DW K X W (.BoolOp .Or [a] pos) tA ga := ⟨pw_or1 ha.pt, ha.es⟩
theorem dw_and (ha : DT K X W a tA ga) (hb : DW K X W (.BoolOp .And (b :: rest) pos) tZ gb) : DW K X W (.BoolOp .And (a :: b :: rest) pos) (tAnd tA tZ) (eAnd ga gb) := by
  refine ⟨pw_and ha.pt hb.pw, fun f en w σ F H Q o h => ?_⟩
  show tA σ H fun c H1 => if c = true then tZ σ H1 Q else Q false H1
  refine et_bindB ha.es o h fun k w1 F1 H1 g o1 h1 => ?_
  cases k with
  | true => exact hb.es f en w1 σ F1 H1 Q o1 h1
  | false => exact h1 F1 H1 o1.here
theorem dw_or (ha : DT K X W a tA ga) (hb : DW K X W (.BoolOp .Or (b :: rest) pos) tZ gb) : DW K X W (.BoolOp .Or (a :: b :: rest) pos) (tOr tA tZ) (eOr ga gb) := by
  refine ⟨pw_or ha.pt hb.pw, fun f en w σ F H Q o h => ?_⟩
  show tA σ H fun c H1 => if c = true then Q true H1 else tZ σ H1 Q
  refine et_bindB ha.es o h fun k w1 F1 H1 g o1 h1 => ?_
  cases k with
  | true => exact h1 F1 H1 o1.here
  | false => exact hb.es f en w1 σ F1 H1 Q o1 h1
/-! .. as values: all but the last True or False -/
theorem es_bool {R : V → Hp → Prop} {f : Fx} {en : List Sl} {w : Wl} {σ : St} {Q : VK} {ka kb : Wl → Res} (ha : ES K W s1 ta ga) (o : Ok K f en w σ F H) (h : Wn s K f.aw F H Q (WE W σ) (bIf (ga en w) ka kb))
    (hk : ∀ b w1 F1 H1, Go f.aw F H F1 H1 w1 → Ok K f en w1 σ F1 H1 → Wn s K f.aw F1 H1 Q (WE W σ) (if b = true then ka w1 else kb w1) → R (.bl b) H1) : ta σ H R := by
  refine ha.toWk f en w σ F H R o ?_
  cases q : ga en w with
  | bad =>
    rw [q] at h
    exact h
  | ex c fn a w1 =>
    rw [q] at h
    exact h
  | ok d w1 =>
    rw [q] at h
    cases d <;> first
      | exact h.elim
      | skip
    rename_i b
    intro v F1 H1 g r
    have e := r.bl
    subst e
    refine hk b w1 F1 H1 g (o.step g) (Wn.any (s := s) ?_ g)
    cases b <;> exact h
theorem de_one {op} (h : DE K X W s1 a ta ga) : DE K X W s1 (.BoolOp op [a] pos) ta ga := by
  obtain ⟨K0, T0, L0⟩ := K
  cases h.hK
  exact ⟨rfl, pe_one h.pe, h.es⟩
theorem de_and (ha : DE K X W s1 a ta ga) (hb : DE K X W .st (.BoolOp .And (b :: rest) pos) tb gb) : DE K X W .st (.BoolOp .And (a :: b :: rest) pos) (tAndV ta tb) (eAnd ga gb) := by
  obtain ⟨K0, T0, L0⟩ := K
  cases ha.hK
  refine ⟨rfl, pe_and ha.pe hb.pe, fun f en w σ F H Q o h => ?_⟩
  show ta σ H fun x H1 => ∃ c, x = .bl c ∧ if c = true then tb σ H1 Q else Q (.bl false) H1
  refine es_bool ha.es o h fun k w1 F1 H1 g o1 h1 => ⟨k, rfl, ?_⟩
  cases k with
  | true => exact hb.es f en w1 σ F1 H1 Q o1 h1
  | false => exact Wn.val h1 o1.here (.bl _)
theorem de_not (ha : DE K X W s1 a ta ga) : DE K X W .st (.UnaryOp .Not a pos) (tNotV ta) (eNot ga) := by
  obtain ⟨K0, T0, L0⟩ := K
  cases ha.hK
  refine ⟨rfl, pe_not ha.pe, fun f en w σ F H Q o h => ?_⟩
  refine ha.es.toWk f en w σ F H _ o ?_
  unfold eNot bNot at h
  cases q : ga en w with
  | bad =>
    rw [q] at h
    exact h
  | ex c fn a w1 =>
    rw [q] at h
    exact h
  | ok d w1 =>
    rw [q] at h
    cases d <;> first
      | exact h.elim
      | skip
    exact fun v F' H' g r => ⟨_, r.bl, h _ F' H' g (.bl _)⟩
/-- a if c else b, the result as much known as both sides are -/
theorem de_if (hc : DT K X W c tA gc) (ha : DE K X W s a ta ga) (hb : DE K X W s b tb gb) : DE K X W s (.IfExp c a b pos) (tIf tA ta tb) (eIf gc ga gb) := by
  obtain ⟨K0, T0, L0⟩ := K
  cases ha.hK
  refine ⟨rfl, pe_ifExp hc.pt ha.pe hb.pe, fun f en w σ F H Q o h => ?_⟩
  show tA σ H fun c H1 => if c = true then ta σ H1 Q else tb σ H1 Q
  refine et_bindE hc.es o h fun k w1 F1 H1 g o1 h1 => ?_
  cases k with
  | true => exact ha.es f en w1 σ F1 H1 Q o1 h1
  | false => exact hb.es f en w1 σ F1 H1 Q o1 h1
end
end DL

/-! DL, part d: arguments, displays, subscripts, slices, calls of built-ins. -/
namespace DL
open PySem PySem.Spec L2
open PyProof.Rows hiding St

def EA (K : Kt) (W : WX) (b : Bool) (t : TA) (g : AG) : Prop :=
  ∀ (f : Fx) (en : List Sl) (w : Wl) (σ : St) (F H : Hp) (Q : List V → Hp → Prop), Ok K f en w σ F H → WnA b K f.aw F H Q (WE W σ) (g en w) → t σ H Q
structure DA (K : Kt) (X : Cx) (W : WX) (b : Bool) (es : List Expr) (t : TA) (g : AG) : Prop where
  hK : X.K = K.K
  pa : PA X es t
  es : EA K W b t g
section
variable {X : Cx} {W : WX} {K : Kt} {Kf : PySem.W.Frag} {s s1 s2 s3 : Sg} {pos : Pos} {a b c e : Expr} {es : List Expr} {ta tb tc te : TE} {ga gb gc ge : EG} {t : TA} {g : AG} {aw : Bs} {F H F1 H1 : Hp} {E : XK} {w1 : Wl} {bb : Bool} {QA : List V → Hp → Prop} {r : AR}
theorem da_nil (hK : X.K = K.K := by rfl) : DA K X W bb [] tNil aNil := by
  obtain ⟨K0, T0, L0⟩ := K
  cases hK
  exact ⟨rfl, pa_nil, fun f en w σ F H Q o h => by
  cases bb with
  | false => exact h [] F H o.here .nil
  | true => exact h [] F H o.here .nil⟩
/-- strong arguments: what is handed on for good -/
theorem da_cons (ha : DE K X W s e te ge) (hr : DA K X W false es t g) (hs : s ≠ .wk := by decide) (hst : starEach (e :: es) X.env = (false, eval e X.env) :: starEach es X.env := by rfl) : DA K X W false (e :: es) (tCons te t) (aCons ge g) := by
  obtain ⟨K0, T0, L0⟩ := K
  cases ha.hK
  refine ⟨rfl, pa_cons ha.pe hr.pa hst, fun f en w σ F H Q o h => ?_⟩
  refine ha.es.toSt hs f en w σ F H _ o ?_
  unfold aCons at h
  cases q : ge en w with
  | bad =>
    rw [q] at h
    exact h
  | ex c fn a w1 =>
    rw [q] at h
    exact h
  | ok d w1 =>
    rw [q] at h
    intro v F1 H1 g1 r1
    refine hr.es f en w1 σ F1 H1 _ (o.step g1) ?_
    unfold AR.cons at h
    dsimp only at h
    cases q2 : g en w1 with
    | bad =>
      rw [q2] at h
      exact h
    | ex c fn a w2 =>
      rw [q2] at h
      exact fun cls dx F' H' g' x => h cls dx F' H' (g1.trans g') x
    | ok ds w2 =>
      rw [q2] at h
      exact fun vs F' H' g' r' => h (v :: vs) F' H' (g1.trans g') (.cons (r1.mono g'.ff) r')
/-- weak arguments: what is read just now -/
theorem dq_cons (ha : DE K X W s e te ge) (hr : DA K X W true es t g) (hst : starEach (e :: es) X.env = (false, eval e X.env) :: starEach es X.env := by rfl) : DA K X W true (e :: es) (tCons te t) (aCons ge g) := by
  obtain ⟨K0, T0, L0⟩ := K
  cases ha.hK
  refine ⟨rfl, pa_cons ha.pe hr.pa hst, fun f en w σ F H Q o h => ?_⟩
  refine ha.es.toWk f en w σ F H _ o ?_
  unfold aCons at h
  cases q : ge en w with
  | bad =>
    rw [q] at h
    exact h
  | ex c fn a w1 =>
    rw [q] at h
    exact h
  | ok d w1 =>
    rw [q] at h
    intro v F1 H1 g1 r1
    refine hr.es f en w1 σ F1 H1 _ (o.step g1) ?_
    unfold AR.cons at h
    dsimp only at h
    cases q2 : g en w1 with
    | bad =>
      rw [q2] at h
      exact h
    | ex c fn a w2 =>
      rw [q2] at h
      exact fun cls dx F' H' g' x => h cls dx F' H' (g1.trans g') x
    | ok ds w2 =>
      rw [q2] at h
      exact fun vs F' H' g' r' => h (v :: vs) F' H' (g1.trans g') (.cons (r1.go g') r')
/-! displays -/
def eTup (g : AG) : EG := fun en w => match g en w with
  | .ok ds w1 => if ds.length ≤ sizeLine then .ok (.tup ds) w1 else .bad
  | .ex c fn a w1 => .ex c fn a w1
  | .bad => .bad
def eLst (g : AG) : EG := fun en w => match g en w with
  | .ok ds w1 => if ds.length ≤ sizeLine then .ok (.lst ds) w1 else .bad
  | .ex c fn a w1 => .ex c fn a w1
  | .bad => .bad
theorem de_tup {k} (h : DA K X W false es t g) : DE K X W .st (.Tuple es k pos) (tTup t) (eTup g) := by
  obtain ⟨K0, T0, L0⟩ := K
  cases h.hK
  refine ⟨rfl, pe_tup h.pa, fun f en w σ F H Q o hw => ?_⟩
  refine h.es f en w σ F H _ o ?_
  unfold eTup at hw
  cases q : g en w with
  | bad =>
    rw [q] at hw
    exact hw
  | ex c fn a w1 =>
    rw [q] at hw
    exact hw
  | ok ds w1 =>
    rw [q] at hw
    intro vs F' H' g' r'
    replace r' : DvAll _ f.aw F' vs ds := r'
    dsimp only at hw
    by_cases hc : ds.length ≤ sizeLine
    · rw [if_pos hc] at hw
      exact ⟨by rw [r'.length]; exact hc, Wn.tupNew (Wn.any hw g') g'.here r'⟩
    · rw [if_neg hc] at hw
      exact hw.elim
theorem de_lst (h : DA K X W false es t g) : DE K X W .fr (.List es pos) (tLst t) (eLst g) := by
  obtain ⟨K0, T0, L0⟩ := K
  cases h.hK
  refine ⟨rfl, pe_lst h.pa, fun f en w σ F H Q o hw => ?_⟩
  refine h.es f en w σ F H _ o ?_
  unfold eLst at hw
  cases q : g en w with
  | bad =>
    rw [q] at hw
    exact hw
  | ex c fn a w1 =>
    rw [q] at hw
    exact hw
  | ok ds w1 =>
    rw [q] at hw
    intro vs F' H' g' r'
    replace r' : DvAll _ f.aw F' vs ds := r'
    dsimp only at hw
    by_cases hc : ds.length ≤ sizeLine
    · rw [if_pos hc] at hw
      exact ⟨by rw [r'.length]; exact hc, Wn.lstNew (Wn.any hw g') g'.here r'⟩
    · rw [if_neg hc] at hw
      exact hw.elim
/-! subscripts -/
theorem atI_map {α β : Type} (f : α → β) (xs : List α) (i : Int) : atI (xs.map f) i = (atI xs i).map f := by
  unfold atI
  rw [List.length_map]
  cases ixN xs.length i with
  | none => rfl
  | some j => simp
theorem ops_ix : OpS Kf .st (rIx Kf) oIx := by
  intro aw F H Q E x y d e w go rx ry hw
  cases d <;> cases e <;> first
    | exact hw.elim
    | skip
  · rename_i ds i
    obtain ⟨p, vs, rfl, hv, dv⟩ := rx.seq go.sub
    have ey := ry.int
    subst ey
    simp only [oIx] at hw
    cases q : atI ds i with
    | none =>
      rw [q] at hw
      exact hw.elim
    | some z =>
      rw [q] at hw
      obtain ⟨v, e1, r1⟩ := dv.at q
      exact .inl ⟨p, vs, i, v, rfl, rfl, .inl (.inl hv), e1, Wn.val hw go r1⟩
  · rename_i ds i
    obtain ⟨p, vs, rfl, hv, dv⟩ := rx.tupl go.sub
    have ey := ry.int
    subst ey
    simp only [oIx] at hw
    cases q : atI ds i with
    | none =>
      rw [q] at hw
      exact hw.elim
    | some z =>
      rw [q] at hw
      obtain ⟨v, e1, r1⟩ := dv.at q
      exact .inr (.inl ⟨p, vs, i, v, rfl, rfl, hv, e1, Wn.val hw go r1⟩)
  · rename_i i
    obtain ⟨q0, ea, rfl⟩ := rx.well
    have ey := ry.int
    subst ey
    simp only [oIx] at hw
    cases q : atI w i with
    | none =>
      rw [q] at hw
      exact hw.elim
    | some n =>
      rw [q] at hw
      exact .inl ⟨_, w.map V.int, i, .int n, rfl, rfl, .inl (.inl (go.wl _ ea)), by rw [atI_map, q]; rfl, Wn.val hw go (.int _)⟩
  · rename_i ns i
    obtain ⟨p, rfl, hv⟩ := rx.scr go.sub
    have ey := ry.int
    subst ey
    simp only [oIx] at hw
    cases q : atI ns i with
    | none =>
      rw [q] at hw
      exact hw.elim
    | some n =>
      rw [q] at hw
      exact .inl ⟨_, ns.map V.int, i, .int n, rfl, rfl, hv, by rw [atI_map, q]; rfl, Wn.val hw go (.int _)⟩
  · rename_i ds i
    obtain ⟨p, vs, rfl, hv, dv⟩ := rx.conl go.sub
    have ey := ry.int
    subst ey
    simp only [oIx] at hw
    cases q : atI ds i with
    | none =>
      rw [q] at hw
      exact hw.elim
    | some z =>
      rw [q] at hw
      obtain ⟨v, e1, r1⟩ := dv.at q
      exact .inr (.inl ⟨p, vs, i, v, rfl, rfl, hv, e1, Wn.val hw go r1⟩)
theorem de_ix (ha : DE K X W s1 a ta ga) (hb : DE K X W s2 b tb gb) (hs : PlainIx b := by intro _ _; rfl) : DE K X W .st (.Subscript a b pos) (tOp (rIx K) ta tb) (eBin oIx ga gb) := by
  obtain ⟨K0, T0, L0⟩ := K
  cases ha.hK
  exact ⟨rfl, pe_ix ix_seq ha.pe hb.pe hs, es_bin ops_ix ha.es hb.es⟩
/-! slices -/
inductive PR where
  | ok (o : Option Int) (w : Wl)
  | ex (c fn : Str) (a : D) (w : Wl)
  | bad
def WnP (K : PySem.W.Frag) (aw : Bs) (F H : Hp) (Q : Option Int → Hp → Prop) (E : XK) : PR → Prop
  | .ok o w => ∀ F' H', Go aw F H F' H' w → Q o H'
  | .ex c fn a w => ∀ cls dx F' H', Go aw F H F' H' w → Xr K aw F' c fn a cls dx → E cls dx H'
  | .bad => False
structure DP (K : Kt) (X : Cx) (W : WX) (e : Option Expr) (t : TO) (g : List Sl → Wl → PR) : Prop where
  po : PO X e t
  es : ∀ (f : Fx) (en : List Sl) (w : Wl) (σ : St) (F H : Hp) (Q : Option Int → Hp → Prop), Ok K f en w σ F H → WnP K f.aw F H Q (WE W σ) (g en w) → t σ H Q
def pNone : List Sl → Wl → PR := fun _ w => .ok none w
def pSome (ga : EG) : List Sl → Wl → PR := fun en w => match ga en w with
  | .ok (.int i) w1 => .ok (some i) w1
  | .ok _ _ => .bad
  | .ex c fn a w1 => .ex c fn a w1
  | .bad => .bad
theorem dp_none : DP K X W none tNoPart pNone := ⟨po_none, fun f en w σ F H Q o h => h F H o.here⟩
theorem dp_some (ha : DE K X W s e te ge) : DP K X W (some e) (tPart te) (pSome ge) := by
  obtain ⟨K0, T0, L0⟩ := K
  cases ha.hK
  refine ⟨po_some ha.pe, fun f en w σ F H Q o h => ?_⟩
  refine ha.es.toWk f en w σ F H _ o ?_
  unfold pSome at h
  cases q : ge en w with
  | bad =>
    rw [q] at h
    exact h
  | ex c fn a w1 =>
    rw [q] at h
    exact h
  | ok d w1 =>
    rw [q] at h
    cases d <;> first
      | exact h.elim
      | skip
    exact fun v F' H' g r => ⟨_, r.int, h F' H' g⟩
def cutD (ds : List D) (lo hi : Option Int) : List D := (ds.drop (HT.sIx ds.length 0 lo)).take (HT.sIx ds.length ds.length hi - HT.sIx ds.length 0 lo)
def cutI (ns : List Int) (lo hi : Option Int) : List Int := (ns.drop (HT.sIx ns.length 0 lo)).take (HT.sIx ns.length ns.length hi - HT.sIx ns.length 0 lo)
theorem cutI_map (ns : List Int) (lo hi : Option Int) : cutV (ns.map V.int) lo hi = (cutI ns lo hi).map V.int := by
  unfold cutV cutI
  rw [List.length_map, List.map_take, List.map_drop]
theorem dv_ints {K : PySem.W.Frag} {aw : Bs} {F : Hp} : ∀ ns : List Int, DvAll K aw F (ns.map V.int) (ns.map D.int)
  | [] => .nil
  | n :: ns => .cons (.int n) (dv_ints ns)
def eSl (ge : EG) (gl gh : List Sl → Wl → PR) : EG := fun en w => (ge en w).bind fun d w1 => match gl en w1 with
  | .ok lo w2 => (match gh en w2 with
    | .ok hi w3 => (match d with
      | .lst ds => .ok (.lst (cutD ds lo hi)) w3
      | .tup ds => .ok (.tup (cutD ds lo hi)) w3
      | .scr ns => .ok (.lst ((cutI ns lo hi).map .int)) w3
      | _ => .bad)
    | .ex c fn a w3 => .ex c fn a w3
    | .bad => .bad)
  | .ex c fn a w2 => .ex c fn a w2
  | .bad => .bad
theorem DvAll.cut {vs : List V} {ds : List D} (h : DvAll Kf aw F vs ds) (lo hi : Option Int) : DvAll Kf aw F (cutV vs lo hi) (cutD ds lo hi) := by
  unfold cutV cutD
  rw [h.length]
  exact (h.drop _).take _
theorem cutD_all (ds : List D) (lo hi : Option Int) (h1 : HT.sIx ds.length 0 lo = 0) (h2 : HT.sIx ds.length ds.length hi = ds.length) : cutD ds lo hi = ds := by
  unfold cutD
  rw [h1, h2]
  simp
theorem de_slice {lo hi : Option Expr} {tl th : TO} {gl gh : List Sl → Wl → PR} {p2 : Pos} (he : DE K X W s e te ge) (hl : DP K X W lo tl gl) (hh : DP K X W hi th gh) :
    DE K X W .st (.Subscript e (.Slice lo hi none p2) pos) (tSl (fun x lo hi H Q => rSlL K x lo hi H Q ∨ rSlA K x lo hi H Q) te tl th) (eSl ge gl gh) := by
  obtain ⟨K0, T0, L0⟩ := K
  cases he.hK
  refine ⟨rfl, pe_slice (sl_list.or sl_tupA) he.pe hl.po hh.po, fun f en w σ F H Q o h => ?_⟩
  refine he.es.bindW o h fun d w1 v F1 H1 g1 o1 r1 h1 => ?_
  refine hl.es f en w1 σ F1 H1 _ o1 ?_
  cases q : gl en w1 with
  | bad =>
    rw [q] at h1
    exact h1
  | ex c fn a w2 =>
    rw [q] at h1
    exact h1
  | ok lo w2 =>
    rw [q] at h1
    intro F2 H2 g2
    refine hh.es f en w2 σ F2 H2 _ (o1.step g2) ?_
    dsimp only at h1
    cases q2 : gh en w2 with
    | bad =>
      rw [q2] at h1
      exact h1
    | ex c fn a w3 =>
      rw [q2] at h1
      exact Wn.any h1 g2
    | ok hi w3 =>
      rw [q2] at h1
      intro F3 H3 g3
      dsimp only at h1
      have g13 := g2.trans g3
      have r3 := r1.go g13
      cases d <;> first
        | exact h1.elim
        | skip
      · obtain ⟨p, vs, rfl, hv, dv⟩ := r3.seq g3.sub
        refine .inl ⟨p, vs, rfl, .inl (.inl hv), fun q hq => ?_⟩
        exact h1 _ _ _ (g13.trans (g3.here.new hq _)) (.lst upd_same ((dv.cut lo hi).mono (same_upd2 (g3.here.free hq))))
      · rename_i ds
        have h3 := Wn.any h1 g13
        dsimp only at h3
        rcases r3 with r3 | ⟨_, _, _, z, _⟩
        · cases r3 with
          | tup hv dv =>
            refine .inr ⟨_, _, rfl, SqT.of (g3.sub _ _ hv), fun z => ?_, fun _ => Wn.tupNew h3 g3.here (dv.cut lo hi)⟩
            rw [dv.length] at z
            rw [cutD_all ds lo hi z.1 z.2] at h3
            exact Wn.val h3 g3.here (.tup hv dv)
        · cases z
      · rename_i ns
        obtain ⟨p, rfl, hv⟩ := r3.scr g3.sub
        refine .inl ⟨p, _, rfl, hv, fun q hq => ?_⟩
        rw [cutI_map]
        exact h1 _ _ _ (g13.trans (g3.here.new hq _)) (.lst upd_same (dv_ints _))
/-! calls of built-ins by values -/
def CS (K : PySem.W.Frag) (s : Sg) (r : List V → Hp → VK → Prop) (o : List D → Wl → Res) : Prop :=
  ∀ (aw : Bs) (F H : Hp) (Q : VK) (E : XK) (vs : List V) (ds : List D) (w : Wl), Go aw F H F H w → DqAll K aw F H vs ds → Wn s K aw F H Q E (o ds w) → r vs H Q
variable {r' : List V → Hp → VK → Prop} {o' : List D → Wl → Res} {x : Str} {p : Pos} {id T : String}
theorem es_call (hs : CS K s r' o') (ha : EA K W true t g) : ES K W s (tCB r' t) (eCall o' g) := by
  intro f en w σ F H Q o h
  refine ha f en w σ F H _ o ?_
  unfold eCall at h
  cases q : g en w with
  | bad =>
    rw [q] at h
    exact h
  | ex c fn a w1 =>
    rw [q] at h
    exact h
  | ok ds w1 =>
    rw [q] at h
    exact fun vs F' H' g' r' => hs f.aw F' H' Q _ vs ds w1 g'.here r' (Wn.any h g')
theorem de_callB (hc : CallR X (.builtin id) r') (hs : CS K s r' o') (hg : Gl X x) (hm : X.mg x = none) (hv : bootBuiltins x = some (.builtin id)) (ha : DA K X W true (e :: es) t g) (hn : x ≠ "__name__" := by decide) (hdb : (x == ("__debug__" : Str)) = false := by decide)
    (he : starEach (e :: es) X.env = (false, eval e X.env) :: starEach es X.env := by rfl) (hpl : (backTo pos (starEach es X.env)).any (·.1) = false := by rfl) : DE K X W s (.Call (.Name x p) (e :: es) [] pos) (tCB r' t) (eCall o' g) := by
  obtain ⟨K0, T0, L0⟩ := K
  cases ha.hK
  exact ⟨rfl, pe_callB hc hg hm hv ha.pa hn hdb he hpl, es_call hs ha.es⟩
theorem de_callT (hc : CallR X (.type T) r') (hs : CS K s r' o') (hg : Gl X x) (hm : X.mg x = none) (hv : bootBuiltins x = some (.type T)) (ha : DA K X W true (e :: es) t g) (hn : x ≠ "__name__" := by decide) (hdb : (x == ("__debug__" : Str)) = false := by decide)
    (he : starEach (e :: es) X.env = (false, eval e X.env) :: starEach es X.env := by rfl) (hpl : (backTo pos (starEach es X.env)).any (·.1) = false := by rfl) : DE K X W s (.Call (.Name x p) (e :: es) [] pos) (tCB r' t) (eCall o' g) := by
  obtain ⟨K0, T0, L0⟩ := K
  cases ha.hK
  exact ⟨rfl, pe_callTy hc hg hm hv ha.pa hn hdb he hpl, es_call hs ha.es⟩
end
end DL

/-! DL, part e: statements, targets, loops, comprehensions. -/
namespace DL
open PySem PySem.Spec L2
open PyProof.Rows hiding St

def WnS (K : Kt) (f : Fx) (Dn : Ends) (W : WX) : Out → Prop
  | .nx en w => ∀ σ F H, Ok K f en w σ F H → Dn.nx σ H
  | .rt d w => ∀ v F H, Go f.aw f.F0 f.H0 F H w → Dv K f.aw F v d → Dn.rt v H
  | .rf ds w => ∀ a vs F H, Go f.aw f.F0 f.H0 F H w → f.H0 a = none → H a = some (.lst vs) → F a = none → DvAll K f.aw F vs ds → Dn.rt (.ref a) H
  | .bk en w => ∀ σ F H, Ok K f en w σ F H → Dn.bk σ H
  | .ct en w => ∀ σ F H, Ok K f en w σ F H → Dn.ct σ H
  | .ex c fn a en w => ∀ cls dx σ F H, Ok K f en w σ F H → Xr K f.aw F c fn a cls dx → W cls dx σ H
  | .bad => False
def ESs (K : Kt) (W : WX) (t : TS) (g : SG) : Prop :=
  ∀ (f : Fx) (en : List Sl) (w : Wl) (σ : St) (F H : Hp) (Dn : Ends), Ok K f en w σ F H → WnS K f Dn W (g en w) → t Dn σ H
structure DS (K : Kt) (X : Cx) (W : WX) (st : Stmt) (t : TS) (g : SG) : Prop where
  ps : PS X st t
  es : ESs K W t g
structure DSs (K : Kt) (X : Cx) (W : WX) (st : List Stmt) (t : TS) (g : SG) : Prop where
  ps : PSs X st t
  es : ESs K W t g
/-! ### slots that are stored -/
section
variable {K : Kt} {Kf : PySem.W.Frag} {f : Fx} {en : List Sl} {w : Wl} {σ : St} {F H : Hp} {i : Nat} {v : V} {d : D} {ds : List D} {vs : List V} {a : Addr}
theorem set_get {α : Type} {xs : List α} {i j : Nat} {x y : α} (h : (xs.set i x)[j]? = some y) : (j = i ∧ y = x ∧ i < xs.length) ∨ (j ≠ i ∧ xs[j]? = some y) := by
  rw [List.getElem?_set] at h
  split at h
  · split at h
    · exact .inl ⟨by omega, (Option.some.inj h).symm, by assumption⟩
    · cases h
  · exact .inr ⟨by omega, h⟩
theorem get_set {α : Type} {xs : List α} {i : Nat} {x : α} (h : i < xs.length) : (xs.set i x)[i]? = some x := by rw [List.getElem?_set_self h]
theorem get_set_ne {α : Type} {xs : List α} {i j : Nat} {x : α} (h : j ≠ i) : (xs.set i x)[j]? = xs[j]? := by rw [List.getElem?_set_ne (Ne.symm h)]
theorem Ok.setDat (o : Ok K f en w σ F H) (r : Dv K f.aw F v d) : Ok K f (en.set i (.dat d)) w (σ.set i (some v)) F H := by
  refine ⟨o.go, o.base, by rw [List.length_set, List.length_set]; exact o.len, fun j e hj => ?_, fun j es hj => ?_, o.tT, o.tabs, fun j hj => ?_, fun j k es us b hj hk h1 h2 => ?_, o.dic.keep (fun j kvs hj => ?_) (fun _ _ h1 _ h3 => ⟨h1, h3⟩) (Same.refl _)⟩
  · rcases set_get hj with ⟨rfl, e1, hl⟩ | ⟨ne, hj⟩
    · cases e1
      exact ⟨v, get_set (by rw [o.len]; exact hl), r⟩
    · rw [get_set_ne ne]
      exact o.dat j e hj
  · rcases set_get hj with ⟨rfl, e1, hl⟩ | ⟨ne, hj⟩
    · cases e1
    · rw [get_set_ne ne]
      exact o.own j es hj
  · rcases set_get hj with ⟨rfl, e1, hl⟩ | ⟨ne, hj⟩
    · cases e1
    · rw [get_set_ne ne]
      exact o.hol j hj
  · rcases set_get hj with ⟨rfl, e1, hl⟩ | ⟨ne, hj⟩
    · cases e1
    · rcases set_get hk with ⟨rfl, e1, hl⟩ | ⟨ne2, hk⟩
      · cases e1
      · rw [get_set_ne ne] at h1
        rw [get_set_ne ne2] at h2
        exact o.inj j k es us b hj hk h1 h2
  · rcases set_get hj with ⟨rfl, e1, hl⟩ | ⟨ne, hj⟩
    · cases e1
    · exact ⟨hj, get_set_ne ne⟩
theorem Ok.setOwn (o : Ok K f en w σ F H) (h1 : H a = some (.lst vs)) (h2 : f.H0 a = none) (h3 : F a = none) (r : DvAll K f.aw F vs ds)
    (hn : ∀ (j : Nat) (es : List D), j ≠ i → en[j]? = some (.own es) → σ[j]? ≠ some (some (.ref a))) : Ok K f (en.set i (.own ds)) w (σ.set i (some (.ref a))) F H := by
  refine ⟨o.go, o.base, by rw [List.length_set, List.length_set]; exact o.len, fun j e hj => ?_, fun j es hj => ?_, o.tT, o.tabs, fun j hj => ?_, fun j k es us b hj hk q1 q2 => ?_, o.dic.keep (fun j kvs hj => ?_) (fun _ _ h1 _ h3 => ⟨h1, h3⟩) (Same.refl _)⟩
  · rcases set_get hj with ⟨rfl, e1, hl⟩ | ⟨ne, hj⟩
    · cases e1
    · rw [get_set_ne ne]
      exact o.dat j e hj
  · rcases set_get hj with ⟨rfl, e1, hl⟩ | ⟨ne, hj⟩
    · cases e1
      exact ⟨a, vs, get_set (by rw [o.len]; exact hl), h1, h2, h3, r⟩
    · rw [get_set_ne ne]
      exact o.own j es hj
  · rcases set_get hj with ⟨rfl, e1, hl⟩ | ⟨ne, hj⟩
    · cases e1
    · rw [get_set_ne ne]
      exact o.hol j hj
  · rcases set_get hj with ⟨rfl, e1, hl⟩ | ⟨ne, hj⟩
    · rcases set_get hk with ⟨rfl, e2, hl2⟩ | ⟨ne2, hk⟩
      · rfl
      · rw [get_set (by rw [o.len]; exact hl)] at q1
        cases q1
        rw [get_set_ne ne2] at q2
        exact absurd q2 (hn k us ne2 hk)
    · rcases set_get hk with ⟨ek, e2, hl2⟩ | ⟨ne2, hk⟩
      · rw [ek, get_set (by rw [o.len]; exact hl2)] at q2
        cases q2
        rw [get_set_ne ne] at q1
        exact absurd q1 (hn j es ne hj)
      · rw [get_set_ne ne] at q1
        rw [get_set_ne ne2] at q2
        exact o.inj j k es us b hj hk q1 q2
  · rcases set_get hj with ⟨rfl, e1, hl⟩ | ⟨ne, hj⟩
    · cases e1
    · exact ⟨hj, get_set_ne ne⟩
/-- the body's own list is written -/
theorem Ok.write (o : Ok K f en w σ F H) (hi : en[i]? = some (.own ds)) (hs : σ[i]? = some (some (.ref a))) {us : List V} {es : List D} (r : DvAll K f.aw F us es) : Ok K f (en.set i (.own es)) w σ F (upd H a (.lst us)) := by
  obtain ⟨a', vs, e, h1, h2, h3, _⟩ := o.own i ds hi
  rw [hs] at e
  cases e
  have na : some a ≠ f.aw.a := fun z => (o.base a z.symm).1 h2
  have hl : i < en.length := (List.getElem?_eq_some_iff.mp hi).1
  refine ⟨o.go.wr h2 h3 na (.inr ⟨vs, h1⟩), o.base, by rw [List.length_set]; exact o.len, fun j e hj => ?_, fun j es' hj => ?_, o.tT, tabs_lst o.tabs h1, fun j hj => ?_, fun j k es' us' b hj hk q1 q2 => ?_, o.dic.keep (fun j kvs hj => ?_) (fun b us' q1 q2 q3 => ⟨by rw [upd_ne (fun z => by rw [z, h1] at q1; cases q1)]; exact q1, q3⟩) (Same.refl _)⟩
  · rcases set_get hj with ⟨rfl, e1, hl⟩ | ⟨ne, hj⟩
    · cases e1
    · exact o.dat j e hj
  · rcases set_get hj with ⟨rfl, e1, hl⟩ | ⟨ne, hj⟩
    · cases e1
      exact ⟨a, us, hs, upd_same, h2, h3, r⟩
    · obtain ⟨b, vs', e1, q1, q2, q3, r'⟩ := o.own j es' hj
      have nb : b ≠ a := fun z => ne (o.inj j i es' ds a hj hi (by rw [e1, z]) hs)
      exact ⟨b, vs', e1, by rw [upd_ne nb]; exact q1, q2, q3, r'⟩
  · rcases set_get hj with ⟨rfl, e1, hl⟩ | ⟨ne, hj⟩
    · cases e1
    · obtain ⟨l, e1, e2, e3, e4, gl⟩ := o.hol j hj
      exact ⟨l, e1, e2, e3, e4, gl.wr (e4 ▸ h2) h3 (e3 ▸ na) (.inr ⟨vs, h1⟩)⟩
  · have back : ∀ (m : Nat) (e : List D), (en.set i (.own es))[m]? = some (.own e) → ∃ e', en[m]? = some (.own e') := fun m e hm => by
      rcases set_get hm with ⟨rfl, _, _⟩ | ⟨_, hm⟩
      · exact ⟨_, hi⟩
      · exact ⟨_, hm⟩
    obtain ⟨e1, hj⟩ := back j es' hj
    obtain ⟨e2, hk⟩ := back k us' hk
    exact o.inj j k e1 e2 b hj hk q1 q2
  · rcases set_get hj with ⟨rfl, e1, hl⟩ | ⟨ne, hj⟩
    · cases e1
    · exact ⟨hj, rfl⟩
/-- the generator is written -/
theorem Ok.turn {q : Addr} (o : Ok K f en w σ F H) (ha : f.aw.a = some q) (w' : Wl) : Ok K f en w' σ F (upd H q (.lst (w'.map V.int))) := by
  have fa : F q = none := o.awF q ha
  refine ⟨o.go.tn ha fa w', o.base, o.len, o.dat, fun j es' hj => ?_, o.tT, tabs_lst o.tabs (o.go.wl q ha), fun j hj => ?_, o.inj, o.dic.keep (fun _ _ h => ⟨h, rfl⟩) (fun b us' q1 q2 q3 => ⟨by rw [upd_ne (fun z => (o.base q ha).1 (by rw [← z]; exact q2))]; exact q1, q3⟩) (Same.refl _)⟩
  · obtain ⟨b, vs', e1, q1, q2, q3, r'⟩ := o.own j es' hj
    have nb : b ≠ q := fun z => (o.base q ha).1 (by rw [← z]; exact q2)
    exact ⟨b, vs', e1, by rw [upd_ne nb]; exact q1, q2, q3, r'⟩
  · obtain ⟨l, e1, e2, e3, e4, gl⟩ := o.hol j hj
    exact ⟨l, e1, e2, e3, e4, gl.tn (by rw [← e3]; exact ha) fa w'⟩
theorem tabs_wr {T : List (Addr × Str)} {p : Addr} {us : List V} (t : LamX.Tabs T H) (hp : H p = none ∨ ∃ vs, H p = some (.lst vs)) : LamX.Tabs T (upd H p (.lst us)) := by
  rcases hp with hp | ⟨vs, hp⟩
  · exact t.ext fun b u e => same_upd2 hp b u e
  · exact tabs_lst t hp
/-- an untracked list beside the state is written -/
theorem Ok.poke {p : Addr} {us : List V} (o : Ok K f en w σ F H) (hp : H p = none ∨ ∃ vs, H p = some (.lst vs)) (h0 : f.H0 p = none) (fp : F p = none) (np : some p ≠ f.aw.a) (hn : ∀ (j : Nat) (es : List D), en[j]? = some (.own es) → σ[j]? ≠ some (some (.ref p))) : Ok K f en w σ F (upd H p (.lst us)) := by
  refine ⟨o.go.wr h0 fp np hp, o.base, o.len, o.dat, fun j es' hj => ?_, o.tT, tabs_wr o.tabs hp, fun j hj => ?_, o.inj, o.dic.keep (fun _ _ h => ⟨h, rfl⟩) (fun b us' q1 q2 q3 => ⟨by rw [upd_ne (fun z => by rw [z] at q1; rcases hp with hp | ⟨vs, hp⟩ <;> rw [hp] at q1 <;> cases q1)]; exact q1, q3⟩) (Same.refl _)⟩
  · obtain ⟨b, vs', e1, q1, q2, q3, r'⟩ := o.own j es' hj
    have nb : b ≠ p := fun z => hn j es' hj (by rw [e1, z])
    exact ⟨b, vs', e1, by rw [upd_ne nb]; exact q1, q2, q3, r'⟩
  · obtain ⟨l, e1, e2, e3, e4, gl⟩ := o.hol j hj
    exact ⟨l, e1, e2, e3, e4, gl.wr (e4 ▸ h0) fp (e3 ▸ np) hp⟩
end

/-! ### statements -/
def sOwn (i : Nat) (g : EG) : SG := fun en w => (g en w).thn en fun d w1 => match d with
  | .lst ds => .nx (en.set i (.own ds)) w1
  | _ => .bad
def sDrop (g : EG) : SG := fun en w => (g en w).thn en fun _ w1 => .nx en w1
def sApp (i : Nat) (g : EG) : SG := fun en w => match en[i]? with
  | some (.own ds) => (g en w).thn en fun d w1 => if ds.length < sizeLine then .nx (en.set i (.own (ds ++ [d]))) w1 else .bad
  | _ => .bad
section
variable {X : Cx} {W : WX} {K : Kt} {Kf : PySem.W.Frag} {s s1 s2 s3 : Sg} {pos pos' : Pos} {a b c e : Expr} {es : List Expr} {ta tb tc te ti : TE} {ga gb gc ge gi : EG} {t u : TS} {g h : SG} {tA : TT} {st : Stmt} {sts sts2 : List Stmt} {x y : Str}
/-- an expression within a statement -/
theorem es_thn {R : V → Hp → Prop} {f : Fx} {en : List Sl} {w : Wl} {σ : St} {F H : Hp} {Dn : Ends} {k : D → Wl → Out} (ha : ES K W s ta ga) (o : Ok K f en w σ F H) (h : WnS K f Dn W ((ga en w).thn en k))
    (hk : ∀ d w1 v F1 H1, Go f.aw F H F1 H1 w1 → Ok K f en w1 σ F1 H1 → Rl s K f.aw H F1 H1 v d → WnS K f Dn W (k d w1) → R v H1) : ta σ H R := by
  refine ha f en w σ F H R o ?_
  unfold Res.thn at h
  cases q : ga en w with
  | bad =>
    rw [q] at h
    exact h
  | ex c fn a w1 =>
    rw [q] at h
    exact fun cls dx F' H' g x => h cls dx σ F' H' (o.step g) x
  | ok d w1 =>
    rw [q] at h
    exact fun v F1 H1 g r => hk d w1 v F1 H1 g (o.step g) r h
theorem et_thn {R : Bool → Hp → Prop} {f : Fx} {en : List Sl} {w : Wl} {σ : St} {F H : Hp} {Dn : Ends} {k : D → Wl → Out} (ha : ET K W tA ga) (o : Ok K f en w σ F H) (hb : ∀ d w, (∀ b, d ≠ .bl b) → k d w = .bad) (h : WnS K f Dn W ((ga en w).thn en k))
    (hk : ∀ b w1 F1 H1, Go f.aw F H F1 H1 w1 → Ok K f en w1 σ F1 H1 → WnS K f Dn W (k (.bl b) w1) → R b H1) : tA σ H R := by
  refine ha f en w σ F H R o ?_
  unfold Res.thn at h
  cases q : ga en w with
  | bad =>
    rw [q] at h
    exact h
  | ex c fn a w1 =>
    rw [q] at h
    exact fun cls dx F' H' g x => h cls dx σ F' H' (o.step g) x
  | ok d w1 =>
    rw [q] at h
    dsimp only at h
    cases d <;> first
      | exact (by rw [hb _ _ (by intro b z; cases z)] at h; exact h)
      | exact fun F1 H1 g => hk _ w1 F1 H1 g (o.step g) h
theorem ea_thn {R : List V → Hp → Prop} {bb : Bool} {tA : TA} {gA : AG} {f : Fx} {en : List Sl} {w : Wl} {σ : St} {F H : Hp} {Dn : Ends} {k : List D → Wl → Out} (ha : EA K W bb tA gA) (o : Ok K f en w σ F H) (h : WnS K f Dn W ((gA en w).thn en k))
    (hk : ∀ ds w1 vs F1 H1, Go f.aw F H F1 H1 w1 → Ok K f en w1 σ F1 H1 → RlA bb K f.aw F1 H1 vs ds → WnS K f Dn W (k ds w1) → R vs H1) : tA σ H R := by
  refine ha f en w σ F H R o ?_
  unfold AR.thn at h
  cases q : gA en w with
  | bad =>
    rw [q] at h
    exact h
  | ex c fn a w1 =>
    rw [q] at h
    exact fun cls dx F' H' g x => h cls dx σ F' H' (o.step g) x
  | ok d w1 =>
    rw [q] at h
    exact fun v F1 H1 g r => hk d w1 v F1 H1 g (o.step g) r h
theorem dss_nil : DSs K X W [] tNext sPass := ⟨pss_nil, fun f en w σ F H Dn o h => h σ F H o⟩
theorem ess_seq (h1 : ESs K W t g) (h2 : ESs K W u h) : ESs K W (tSeq t u) (sSeq g h) := by
  intro f en w σ F H Dn o hw
  refine h1 f en w σ F H _ o ?_
  unfold sSeq Out.seq at hw
  cases q : g en w with
  | nx en1 w1 =>
    rw [q] at hw
    exact fun σ1 F1 H1 o1 => h2 f en1 w1 σ1 F1 H1 Dn o1 hw
  | rt d w1 => rw [q] at hw; exact hw
  | bk en1 w1 => rw [q] at hw; exact hw
  | rf d w => rw [q] at hw; exact hw
  | ct en1 w1 => rw [q] at hw; exact hw
  | ex c fn a en1 w1 => rw [q] at hw; exact hw
  | bad => rw [q] at hw; exact hw
theorem dss_cons (h1 : DS K X W st t g) (h2 : DSs K X W sts u h) : DSs K X W (st :: sts) (tSeq t u) (sSeq g h) := ⟨pss_cons h1.ps h2.ps, ess_seq h1.es h2.es⟩
theorem dss_one (h1 : DS K X W st t g) : DSs K X W [st] t g := ⟨pss_one h1.ps, h1.es⟩
/-- x = e -/
theorem ess_set {i : Nat} (he : ES K W s te ge) (hs : s ≠ .wk) : ESs K W (tAsg te (gName i)) (sSet i ge) := by
  intro f en w σ F H Dn o h
  show te σ H fun v H1 => Dn.nx (σ.set i (some v)) H1
  exact es_thn (he.toSt hs) o h fun d w1 v F1 H1 g1 o1 r1 h1 => h1 _ F1 H1 (o1.setDat r1)
theorem ds_set (i : Nat) (hN : X.N.Nodup) (he : DE K X W s e te ge) (hs : s ≠ .wk := by decide) (hi : X.N[i]? = some x := by rfl) (hx : Loc X.env.scope x := by first | exact Or.inl rfl | exact Or.inr rfl) (hsw : swapsWith e (some (.Name x pos')) pos.line X.env = pure false := by rfl)
    (hf : X.fn x = true ∨ X.env.scope.names.lookup x = some .local := by first | exact .inl rfl | exact .inr rfl) : DS K X W (.Assign [.Name x pos'] e pos) (tAsg te (gName i)) (sSet i ge) := by
  obtain ⟨K0, T0, L0⟩ := K
  cases he.hK
  exact ⟨ps_set hN hi hx he.pe hsw hf, ess_set he.es hs⟩
theorem fresh0 {f : Fx} {en : List Sl} {w : Wl} {σ : St} {F H : Hp} {p : Addr} (o : Ok K f en w σ F H) (hp : H p = none) : f.H0 p = none ∧ some p ≠ f.aw.a ∧ ∀ (j : Nat) (es : List D), en[j]? = some (.own es) → σ[j]? ≠ some (some (.ref p)) := by
  have np : some p ≠ f.aw.a := fun z => by
    rw [o.go.wl p z.symm] at hp
    cases hp
  refine ⟨?_, np, fun j es hj hs => ?_⟩
  · cases q : f.H0 p with
    | none => rfl
    | some u => exact absurd hp (o.go.ne p (by rw [q]; exact fun y => nomatch y))
  · obtain ⟨a, vs, e, h1, _⟩ := o.own j es hj
    rw [hs] at e
    cases e
    rw [hp] at h1
    cases h1
theorem ess_own {i : Nat} (he : ES K W .fr te ge) : ESs K W (tAsg te (gName i)) (sOwn i ge) := by
  intro f en w σ F H Dn o h
  show te σ H fun v H1 => Dn.nx (σ.set i (some v)) H1
  refine es_thn he o h fun d w1 v F1 H1 g1 o1 r1 h1 => ?_
  obtain ⟨ds, a, vs, rfl, rfl, n, q, hf, r⟩ := r1
  obtain ⟨z0, _, zn⟩ := fresh0 o n
  exact h1 _ F1 H1 (o1.setOwn q z0 hf r fun j es _ hj => zn j es hj)
theorem ds_own (i : Nat) (hN : X.N.Nodup) (he : DE K X W .fr e te ge) (hi : X.N[i]? = some x := by rfl) (hx : Loc X.env.scope x := by first | exact Or.inl rfl | exact Or.inr rfl) (hsw : swapsWith e (some (.Name x pos')) pos.line X.env = pure false := by rfl)
    (hf : X.fn x = true ∨ X.env.scope.names.lookup x = some .local := by first | exact .inl rfl | exact .inr rfl) : DS K X W (.Assign [.Name x pos'] e pos) (tAsg te (gName i)) (sOwn i ge) := by
  obtain ⟨K0, T0, L0⟩ := K
  cases he.hK
  exact ⟨ps_set hN hi hx he.pe hsw hf, ess_own he.es⟩
theorem ds_drop (he : DE K X W s e te ge) (hs : swapsWith e none pos.line X.env = pure false := by rfl) : DS K X W (.Expr e pos) (tDrop te) (sDrop ge) := by
  obtain ⟨K0, T0, L0⟩ := K
  cases he.hK
  exact ⟨ps_expr he.pe hs, fun f en w σ F H Dn o h => es_thn (R := fun _ H1 => Dn.nx σ H1) he.es o h fun d w1 v F1 H1 g1 o1 r1 h1 => h1 _ F1 H1 o1⟩
theorem ds_ret (he : DE K X W s e te ge) (hs : s ≠ .wk := by decide) : DS K X W (.Return (some e) pos) (tRet te) (sRet ge) := by
  obtain ⟨K0, T0, L0⟩ := K
  cases he.hK
  exact ⟨ps_ret he.pe, fun f en w σ F H Dn o h => es_thn (R := Dn.rt) (he.es.toSt hs) o h fun d w1 v F1 H1 g1 o1 r1 h1 => h1 v F1 H1 o1.go r1⟩
/-- return of a new list, as it is -/
def sRetF (g : EG) : SG := fun en w => (g en w).thn en fun d w1 => match d with
  | .lst ds => .rf ds w1
  | _ => .bad
theorem ds_retF (he : DE K X W .fr e te ge) : DS K X W (.Return (some e) pos) (tRet te) (sRetF ge) := by
  refine ⟨ps_ret he.pe, fun f en w σ F H Dn o h => es_thn (R := Dn.rt) he.es o h fun d w1 v F1 H1 g1 o1 r1 h1 => ?_⟩
  obtain ⟨ds, a, vs, rfl, rfl, n, q, hf, r⟩ := r1
  exact h1 a vs F1 H1 o1.go (fresh0 o n).1 q hf r
theorem ds_if (hc : DT K X W c tA gc) (ha : DSs K X W sts t g) (hb : DSs K X W sts2 u h) : DS K X W (.If c sts sts2 pos) (tIfS tA t u) (sIf gc g h) := by
  refine ⟨ps_if hc.pt ha.ps hb.ps, fun f en w σ F H Dn o hw => ?_⟩
  show tA σ H fun k H1 => if k = true then t Dn σ H1 else u Dn σ H1
  refine et_thn hc.es o (fun d w hd => ?_) hw fun k w1 F1 H1 g1 o1 h1 => ?_
  · cases d <;> first
      | rfl
      | exact absurd rfl (hd _)
  · cases k with
    | true => exact ha.es f en w1 σ F1 H1 Dn o1 h1
    | false => exact hb.es f en w1 σ F1 H1 Dn o1 h1
/-- xs.append(e), xs an own list -/
theorem ds_app (i : Nat) {ap cp : Pos} (he : DE K X W s e te ge) (hs : s ≠ .wk := by decide) (hN : X.N[i]? = some x := by rfl) (hv : Vis X.env.scope x := by first | exact Or.inl rfl | exact Or.inr (Or.inl rfl) | exact Or.inr (Or.inr rfl))
    (hd : (x == ("__debug__" : Str)) = false := by decide) (hcd : (x == ("__classdict__" : Str)) = false := by decide)
    (hst : starEach [e] X.env = (false, eval e X.env) :: starEach [] X.env := by rfl) (hsw : swapsWith (.Call (.Attribute (.Name x pos') "append" ap) [e] [] cp) none pos.line X.env = pure false := by rfl)
    (hbase : attributeBase (.Name x pos') "append" X.env (eval (.Name x pos') X.env) = eval (.Name x pos') X.env := by rfl) (hfew : ((backTo cp (starEach [e] X.env)).all (fun x => !x.1) && (backToKw cp (keywordEach [] X.env)).all (fun x => x.1.isSome)
      && decide ([e].length + ([] : List Keyword).length + (if ([] : List Keyword).isEmpty then 0 else 1) < 30)) = true := by rfl)
    (hline : (ap.endLine == cp.line) = true := by rfl) (hpl : (backTo cp (starEach [] X.env)).any (·.1) = false := by rfl) :
    DS K X W (.Expr (.Call (.Attribute (.Name x pos') "append" ap) [e] [] cp) pos) (tDrop (tBM K "list" rAppend (tVar i) (tCons te tNil))) (sApp i ge) := by
  obtain ⟨K0, T0, L0⟩ := K
  cases he.hK
  refine ⟨ps_expr (pe_bm PySem.F.plainAttrs_list PySem.F.slot_list_append PySem.F.type_list_append mt_append (pe_var hN hv hd hcd) (pa_cons he.pe pa_nil hst) hbase hfew hline hst hpl) hsw, fun f en w σ F H Dn o h => ?_⟩
  unfold sApp at h
  cases q : en[i]? with
  | none =>
    rw [q] at h
    exact h.elim
  | some sl =>
    cases sl with
    | non => rw [q] at h; exact h.elim
    | hol => rw [q] at h; exact h.elim
    | dic _ => rw [q] at h; exact h.elim
    | dat d => rw [q] at h; exact h.elim
    | own ds =>
      rw [q] at h
      obtain ⟨a, vs, e, h1, h2, h3, r⟩ := o.own i ds q
      refine ⟨_, e, .inl ⟨rfl, vs, .inl (.inl h1)⟩, ?_⟩
      refine es_thn (R := fun v H1 => rAppend (.ref a) [v] H1 fun _ H2 => Dn.nx σ H2) (he.es.toSt hs) o h fun d w1 v F1 H1 g1 o1 r1 h1' => ?_
      obtain ⟨a', us, e', k1, k2, k3, r'⟩ := o1.own i ds q
      rw [e] at e'
      cases e'
      by_cases hc : ds.length < sizeLine
      · rw [if_pos hc] at h1'
        refine ⟨a, us, v, rfl, rfl, k1, by rw [r'.length]; exact hc, ?_⟩
        have fin := h1' σ F1 _ (?_ : Ok _ f (en.set i (.own (ds ++ [d]))) w1 σ F1 (upd H1 a (.lst (us ++ [v]))))
        · exact fin
        · exact o1.write q e (r'.snoc r1)
      · rw [if_neg hc] at h1'
        exact h1'.elim
/-- xs[j] = e -/
theorem ds_put (i : Nat) {tp : Pos} (he : DE K X W s e te ge) (hb : DE K X W s2 b ti gi) (hs : s ≠ .wk := by decide) (hN : X.N[i]? = some x := by rfl) (hv : Vis X.env.scope x := by first | exact Or.inl rfl | exact Or.inr (Or.inl rfl) | exact Or.inr (Or.inr rfl))
    (hd : (x == ("__debug__" : Str)) = false := by decide) (hcd : (x == ("__classdict__" : Str)) = false := by decide)
    (ha : ∀ v, assign (.Subscript (.Name x pos') b tp) X.env v = (do
      let ov ← holding [v] (eval (.Name x pos') X.env)
      let iv ← holding [v, ov] (eval b X.env)
      standAt tp
      holding [v, ov, iv] (setItem ov iv v)
      release [v, ov, iv] []) := by intro _; rfl)
    (hsw : swapsWithSole [.Subscript (.Name x pos') b tp] e pos.line X.env = pure false := by rfl) (hw : swappedStores [.Subscript (.Name x pos') b tp] e X.env = pure none := by rfl)
    (h1 : (assignEach [.Subscript (.Name x pos') b tp] X.env).map (·.2) = [assign (.Subscript (.Name x pos') b tp) X.env] := by rfl) :
    DS K X W (.Assign [.Subscript (.Name x pos') b tp] e pos) (tAsg te (gSub (tVar i) ti rSetL)) (sPut i gi ge) := by
  obtain ⟨K0, T0, L0⟩ := K
  cases he.hK
  refine ⟨ps_asg he.pe (pg_sub (pe_var hN hv hd hcd) hb.pe set_list ha) hsw hw h1, fun f en w σ F H Dn o h => ?_⟩
  unfold sPut at h
  cases q : en[i]? with
  | none => rw [q] at h; exact h.elim
  | some sl =>
    cases sl with
    | non => rw [q] at h; exact h.elim
    | hol => rw [q] at h; exact h.elim
    | dic _ => rw [q] at h; exact h.elim
    | own ds =>
      rw [q] at h
      dsimp only at h
      refine es_thn (R := fun v H1 => gSub (tVar i) ti rSetL v σ H1 Dn.nx) (he.es.toSt hs) o h fun d w1 v F1 H1 g1 o1 r1 h1' => ?_
      obtain ⟨a, us, e, k1, k2, k3, r'⟩ := o1.own i ds q
      refine ⟨_, e, ?_⟩
      refine es_thn (s := .wk) (R := fun iv H2 => rSetL (.ref a) iv v H2 fun H3 => Dn.nx σ H3) hb.es.toWk o1 h1' fun k w2 iv F2 H2 g2 o2 r2 h2' => ?_
      cases k <;> first
        | exact h2'.elim
        | skip
      rename_i n
      have ei := (show Dq _ f.aw F2 H2 iv (.int n) from r2).int
      subst ei
      obtain ⟨a', us', e', k1', k2', k3', r''⟩ := o2.own i ds q
      rw [e] at e'
      cases e'
      dsimp only at h2'
      cases z : ixN ds.length n with
      | none =>
        rw [z] at h2'
        exact h2'.elim
      | some j =>
        rw [z] at h2'
        exact ⟨a, us', n, j, rfl, rfl, k1', by rw [r''.length]; exact z, h2' σ F2 _ (o2.write q e (r''.set (r1.mono g2.ff) j))⟩
    | dat dd =>
      cases dd <;> first
        | (rw [q] at h; exact h.elim)
        | skip
      rw [q] at h
      dsimp only at h
      refine es_thn (R := fun v H1 => gSub (tVar i) ti rSetL v σ H1 Dn.nx) (he.es.toSt hs) o h fun d w1 v F1 H1 g1 o1 r1 h1' => ?_
      obtain ⟨u, e, ru⟩ := o1.dat i _ q
      obtain ⟨qa, hqa, rfl⟩ := Dq.well (F := F1) (H := H1) (.inl ru)
      refine ⟨_, e, ?_⟩
      refine es_thn (s := .wk) (R := fun iv H2 => rSetL (.ref qa) iv v H2 fun H3 => Dn.nx σ H3) hb.es.toWk o1 h1' fun k w2 iv F2 H2 g2 o2 r2 h2' => ?_
      cases k <;> cases d <;> first
        | exact h2'.elim
        | skip
      rename_i n z
      have ei := (show Dq _ f.aw F2 H2 iv (.int n) from r2).int
      subst ei
      cases r1
      dsimp only at h2'
      cases zz : ixN w2.length n with
      | none =>
        rw [zz] at h2'
        exact h2'.elim
      | some j =>
        rw [zz] at h2'
        refine ⟨qa, w2.map V.int, n, j, rfl, rfl, o2.go.wl _ hqa, by rw [List.length_map]; exact zz, ?_⟩
        have fin := h2' σ F2 _ (o2.turn hqa (w2.set j z))
        rw [List.map_set] at fin
        exact fin
end
end DL

/-! DL, part f: targets, what is walked, for, while, comprehensions. -/
namespace DL
open PySem PySem.Spec L2
open PyProof.Rows hiding St

/-! ### targets: names, tuples of targets -/
def bName (i : Nat) : BG := fun d en => some (en.set i (.dat d))
def bNil : BGs := fun ds en => match ds with
  | [] => some en
  | _ => none
def bCons (b : BG) (bs : BGs) : BGs := fun ds en => match ds with
  | d :: r => (match b d en with
    | some en1 => bs r en1
    | none => none)
  | [] => none
def EGt (K : Kt) (t : TG) (b : BG) (vs : List Nat) : Prop :=
  ∀ (f : Fx) (en en' : List Sl) (w : Wl) (σ : St) (F H : Hp) (v : V) (d : D) (Q : St → Hp → Prop), b d en = some en' → Ok K f en w σ F H → Dq K f.aw F H v d → (∀ i, d = .lst i → Dv K f.aw F v d) →
    (∀ σ', Ok K f en' w σ' F H → Agree vs σ σ' → Q σ' H) → t v σ H Q
def EGs (K : Kt) (t : TGs) (b : BGs) (vs : List Nat) : Prop :=
  ∀ (f : Fx) (en en' : List Sl) (w : Wl) (σ : St) (F H : Hp) (us : List V) (ds : List D) (Q : St → Hp → Prop), b ds en = some en' → Ok K f en w σ F H → DvAll K f.aw F us ds →
    (∀ σ', Ok K f en' w σ' F H → Agree vs σ σ' → Q σ' H) → t us σ H Q
structure DG (K : Kt) (X : Cx) (e : Expr) (t : TG) (b : BG) (vs : List Nat) : Prop where
  hK : X.K = K.K
  pg : PG X e t
  es : EGt K t b vs
structure DGs (K : Kt) (X : Cx) (es : List Expr) (t : TGs) (b : BGs) (vs : List Nat) : Prop where
  hK : X.K = K.K
  pg : PGs X es t
  es : EGs K t b vs
section
variable {X : Cx} {K : Kt} {Kf : PySem.W.Frag} {pos : Pos} {e : Expr} {es : List Expr} {t t' : TG} {u : TGs} {b : BG} {bs : BGs} {vs vs' : List Nat} {x : Str} {k : Nat}
theorem dv_of {f : Fx} {F H : Hp} {v : V} {d : D} (q : Dq Kf f.aw F H v d) (h : ∀ i, d = .lst i → Dv Kf f.aw F v d) : Dv Kf f.aw F v d := by
  rcases q with q | ⟨ds, a, vs, e, _⟩
  · exact q
  · exact h ds e
theorem dg_name (i : Nat) (hN : X.N.Nodup) (hi : X.N[i]? = some x := by rfl) (hx : Loc X.env.scope x := by first | exact Or.inl rfl | exact Or.inr rfl)
    (hf : X.fn x = true ∨ X.env.scope.names.lookup x = some .local := by first | exact .inl rfl | exact .inr rfl) (hK : X.K = K.K := by rfl) : DG K X (.Name x pos) (gName i) (bName i) [i] := by
  obtain ⟨K0, T0, L0⟩ := K
  cases hK
  refine ⟨rfl, pg_name hN hi hx hf, fun f en en' w σ F H v d Q hb o q h1 h => ?_⟩
  cases hb
  exact h _ (o.setDat (dv_of q h1)) ⟨by rw [List.length_set], fun j hj => get_set_ne (by simpa using hj)⟩
theorem dgs_nil (hK : X.K = K.K := by rfl) : DGs K X [] gNil bNil [] := by
  obtain ⟨K0, T0, L0⟩ := K
  cases hK
  refine ⟨rfl, pgs_nil, fun f en en' w σ F H us ds Q hb o r h => ?_⟩
  cases r with
  | nil =>
    cases hb
    exact ⟨rfl, h σ o (.refl σ)⟩
  | cons a b => cases hb
theorem dgs_cons (h1 : DG K X e t b vs) (h2 : DGs K X es u bs vs') (hs : (assignEach (e :: es) X.env).map (·.2) = assign e X.env :: (assignEach es X.env).map (·.2) := by rfl) : DGs K X (e :: es) (gCons t u) (bCons b bs) (vs ++ vs') := by
  obtain ⟨K0, T0, L0⟩ := K
  cases h1.hK
  refine ⟨rfl, pgs_cons h1.pg h2.pg hs, fun f en en' w σ F H us ds Q hb o r h => ?_⟩
  cases r with
  | nil => cases hb
  | @cons v r d ds' rv rr =>
    simp only [bCons] at hb
    cases q : b d en with
    | none =>
      rw [q] at hb
      cases hb
    | some en1 =>
      rw [q] at hb
      refine ⟨v, r, rfl, h1.es f en en1 w σ F H v d _ q o (.inl rv) (fun _ _ => rv) fun σ1 o1 a1 => ?_⟩
      refine h2.es f en1 en' w σ1 F H r ds' Q hb o1 rr fun σ2 o2 a2 => h σ2 o2 ⟨a2.1.trans a1.1, fun i hi => ?_⟩
      rw [a2.2 i (fun z => hi (List.mem_append_right _ z)), a1.2 i (fun z => hi (List.mem_append_left _ z))]
theorem pg_or (h : PG X e t) (h' : PG X e t') : PG X e (fun v σ H Q => t v σ H Q ∨ t' v σ H Q) := ⟨fun pins s σ H v u Q I r hw => hw.elim (h.run pins s σ H v u Q I r) (h'.run pins s σ H v u Q I r)⟩
def gUn (K : PySem.W.Frag) (n : Nat) (u : TGs) : TG := fun v σ H Q => gTup K n u v σ H Q ∨ gUnl K n u v σ H Q
/-- as many as targets, or none -/
def bTupN (n : Nat) (bs : BGs) : BG := fun d en => match d with
  | .tup ds => if ds.length = n then bs ds en else none
  | .con ds => if ds.length = n then bs ds en else none
  | .lst ds => if ds.length = n then bs ds en else none
  | _ => none
theorem dg_tup (hc : X.calm = true) (h : DGs K X es u bs vs) (n : Nat) (hn : (assignEach es X.env).length = n := by rfl) (hst : (assignEach es X.env).findIdx? (·.1) = none := by rfl) : DG K X (.Tuple es k pos) (gUn K n u) (bTupN n bs) vs := by
  obtain ⟨K0, T0, L0⟩ := K
  cases h.hK
  refine ⟨rfl, pg_or (pg_tup hc h.pg hn hst) (pg_unl hc h.pg hn hst), fun f en en' w σ F H v d Q hb o q h1 hq => ?_⟩
  cases d <;> first
    | (simp only [bTupN] at hb; cases hb; done)
    | skip
  · rename_i ds
    simp only [bTupN] at hb
    split at hb
    · rename_i hl
      have r := h1 _ rfl
      cases r with
      | lst hv dv => exact .inr ⟨_, _, rfl, .inl (.inl (o.go.sub _ _ hv)), dv.length.trans hl, h.es f en en' w σ F H _ ds Q hb o dv hq⟩
    · cases hb
  · rename_i ds
    simp only [bTupN] at hb
    split at hb
    · rename_i hl
      obtain ⟨a, us, rfl, hv, dv⟩ := q.tupl o.go.sub
      exact .inl ⟨a, us, rfl, hv, dv.length.trans hl, h.es f en en' w σ F H us ds Q hb o dv hq⟩
    · cases hb
  · rename_i ds
    simp only [bTupN] at hb
    split at hb
    · rename_i hl
      obtain ⟨a, us, rfl, hv, dv⟩ := q.conl o.go.sub
      exact .inl ⟨a, us, rfl, hv, dv.length.trans hl, h.es f en en' w σ F H us ds Q hb o dv hq⟩
    · cases hb
end

/-! ### what is walked -/
/-- from F1, H1 on: the turns yield the data -/
def Walks (K : PySem.W.Frag) (aw : Bs) (J : It) (ds : List D) (P : Hp → Hp → Prop) : Prop :=
  ∀ (i : Nat) (w : Wl) (F H : Hp), P F H → Go aw F H F H w → (∀ d, ds[i]? = some d → J.go i H ∧ ∀ x H', J.yld i H x H' → ∃ F', Go aw F H F' H' w ∧ Dv K aw F' x d) ∧ (ds.length ≤ i → J.stop i H)
/-- what stays while it is walked: frozen things; and (b) the heap's other things -/
def Stay (b : Bool) (aw : Bs) (F1 H1 : Hp) (F H : Hp) : Prop := Same F1 F ∧ (b = true → ∀ (a : Addr) (vs : List V), some a ≠ aw.a → H1 a = some (.lst vs) → H a = some (.lst vs))
def WnI (K : PySem.W.Frag) (b : Bool) (aw : Bs) (F H : Hp) (R : It → Hp → Prop) (E : XK) : AR → Prop
  | .ok ds w => ∀ J F' H', Go aw F H F' H' w → Walks K aw J ds (Stay b aw F' H') → R J H'
  | .ex c fn a w => ∀ cls dx F' H', Go aw F H F' H' w → Xr K aw F' c fn a cls dx → E cls dx H'
  | .bad => False
def EI (K : Kt) (W : WX) (b : Bool) (t : TI) (g : AG) : Prop :=
  ∀ (f : Fx) (en : List Sl) (w : Wl) (σ : St) (F H : Hp) (R : It → Hp → Prop), Ok K f en w σ F H → WnI K b f.aw F H R (WE W σ) (g en w) → t σ H R
structure DI (K : Kt) (X : Cx) (W : WX) (b : Bool) (tg e : Expr) (t : TI) (g : AG) : Prop where
  hK : X.K = K.K
  pi : PI X tg e t
  es : EI K W b t g
/-- the items of a list or a tuple -/
def gSeq (ge : EG) : AG := fun en w => match ge en w with
  | .ok d w1 => (match d.items with
    | some ds => .ok ds w1
    | none => .bad)
  | .ex c fn a w1 => .ex c fn a w1
  | .bad => .bad
section
variable {X : Cx} {W : WX} {K : Kt} {Kf : PySem.W.Frag} {s : Sg} {bb : Bool} {pos p : Pos} {tg e a b c : Expr} {te : TE} {ge : EG} {t t' : TI} {tA : TA} {gA : AG}
theorem pi_or (h : PI X tg e t) (h' : PI X tg e t') : PI X tg e (fun σ H R => t σ H R ∨ t' σ H R) := ⟨fun pins s σ H R I hw => hw.elim (h.run pins s σ H R I) (h'.run pins s σ H R I)⟩
theorem walks_lst {aw : Bs} {q : Addr} {vs : List V} {ds : List D} {F1 H1 : Hp} (hv : ∀ F H, Stay bb aw F1 H1 F H → Same F H → H q = some (.lst vs)) (dv : DvAll Kf aw F1 vs ds) : Walks Kf aw (Itl Kf q) ds (Stay bb aw F1 H1) := by
  intro i w F H hp go
  have h1 := hv F H hp go.sub
  refine ⟨fun d hd => ?_, fun hi => ⟨vs, .inl (.inl h1), by rw [dv.length]; exact hi⟩⟩
  obtain ⟨v, e, r⟩ := dv.get hd
  refine ⟨⟨vs, v, .inl (.inl h1), e⟩, ?_⟩
  rintro x H' ⟨rfl, hx⟩
  have e2 := hx vs (.inl (.inl h1))
  rw [e] at e2
  cases e2
  exact ⟨F, go, r.mono hp.1⟩
theorem walks_tup {aw : Bs} {q : Addr} {vs : List V} {ds : List D} {F1 H1 : Hp} (hv : SqT Kf F1 q vs) (dv : DvAll Kf aw F1 vs ds) : Walks Kf aw (Itt Kf q) ds (Stay bb aw F1 H1) := by
  intro i w F H hp go
  have h1 := sqT_same (hp.1.trans go.sub) hv
  refine ⟨fun d hd => ?_, fun hi => ⟨vs, h1, by rw [dv.length]; exact hi⟩⟩
  obtain ⟨v, e, r⟩ := dv.get hd
  refine ⟨⟨vs, v, h1, e⟩, ?_⟩
  rintro x H' ⟨rfl, hx⟩
  have e2 := hx vs h1
  rw [e] at e2
  cases e2
  exact ⟨F, go, r.mono hp.1⟩
def iSeq (K : PySem.W.Frag) (te : TE) : TI := fun σ H R => iList K te σ H R ∨ iTup K te σ H R
theorem di_seq (ha : DE K X W s e te ge) (hb : bb = true ∨ s ≠ .wk := by first | exact .inl rfl | exact .inr (by decide)) : DI K X W bb tg e (iSeq K te) (gSeq ge) := by
  obtain ⟨K0, T0, L0⟩ := K
  cases ha.hK
  refine ⟨rfl, pi_or (pi_list ha.pe) (pi_tup ha.pe), fun f en w σ F H R o h => ?_⟩
  unfold gSeq at h
  cases q : ge en w with
  | bad => rw [q] at h; exact h.elim
  | ex c fn a w1 =>
    rw [q] at h
    exact .inl (ha.es f en w σ F H _ o (by rw [q]; exact h))
  | ok d w1 =>
    rw [q] at h
    cases d <;> first
      | exact h.elim
      | skip
    · rename_i ds
      refine .inl ?_
      by_cases hs : s = .wk
      · rcases hb with rfl | hb
        · refine ha.es.toWk f en w σ F H _ o ?_
          rw [q]
          intro v F1 H1 g r
          obtain ⟨a, vs, rfl, hv, dv⟩ := Dq.seq r g.sub
          refine ⟨a, rfl, ⟨vs, .inl (.inl hv)⟩, h _ F1 H1 g (walks_lst (fun F' H' st _ => st.2 rfl a _ (fun z => ?_) hv) dv)⟩
          rcases r with r | ⟨ds', a', vs', _, e2, n, _⟩
          · cases r with
            | lst q1 q2 =>
              have q3 := (o.step g).awF _ z.symm
              rw [q1] at q3
              cases q3
          · cases e2
            exact n z
        · exact absurd hs hb
      · refine ha.es.toSt hs f en w σ F H _ o ?_
        rw [q]
        intro v F1 H1 g r
        cases r with
        | lst hv dv => exact ⟨_, rfl, ⟨_, .inl (.inl (g.sub _ _ hv))⟩, h _ F1 H1 g (walks_lst (fun F' H' st s' => s' _ _ (st.1 _ _ hv)) dv)⟩
    · rename_i ds
      refine .inr ?_
      refine ha.es.toWk f en w σ F H _ o ?_
      rw [q]
      intro v F1 H1 g r
      rcases r with r | ⟨_, _, _, z, _⟩
      · cases r with
        | tup hv dv => exact ⟨_, rfl, ⟨_, SqT.of (g.sub _ _ hv)⟩, h _ F1 H1 g (walks_tup (SqT.of hv) dv)⟩
      · cases z
/-! ranges -/
def dInts (lo c : Int) (n : Nat) : List D := (List.range n).map fun i => .int (lo + (i : Nat) * c)
def small (i : Int) : Bool := decide (-(2 ^ 62) ≤ i ∧ i < 2 ^ 62)
def gRng1 (g : AG) : AG := fun en w => match g en w with
  | .ok [.int j] w1 => if small j then .ok (dInts 0 1 j.toNat) w1 else .bad
  | .ok _ _ => .bad
  | .ex c fn a w1 => .ex c fn a w1
  | .bad => .bad
theorem walks_rng {aw : Bs} {lo : Int} {n : Nat} {F1 H1 : Hp} : Walks Kf aw (Itr lo n) (dInts lo 1 n) (Stay bb aw F1 H1) := by
  intro i w F H hp go
  refine ⟨fun d hd => ?_, fun hi => (show n ≤ i by simpa [dInts] using hi)⟩
  unfold dInts at hd
  rw [List.getElem?_map] at hd
  have hi : i < n := by
    cases q : (List.range n)[i]? with
    | none =>
      rw [q] at hd
      cases hd
    | some j =>
      have := (List.getElem?_eq_some_iff.mp q).1
      simpa using this
  rw [List.getElem?_range hi] at hd
  cases hd
  refine ⟨hi, ?_⟩
  rintro x H' ⟨rfl, rfl⟩
  refine ⟨F, go, ?_⟩
  show Dv Kf aw F (V.int (lo + (i : Nat))) (.int (lo + (i : Nat) * 1))
  rw [Int.mul_one]
  exact .int _
theorem di_range1 (hg : Gl X "range") (hm : X.mg "range" = none) (ha : DA K X W true [a] tA gA) (hs : starEach [a] X.env = [(false, eval a X.env)] := by rfl) : DI K X W bb tg (.Call (.Name "range" p) [a] [] pos) (iRng1 tA) (gRng1 gA) := by
  obtain ⟨K0, T0, L0⟩ := K
  cases ha.hK
  refine ⟨rfl, pi_range1 hg hm ha.pa hs, fun f en w σ F H R o h => ?_⟩
  refine ha.es f en w σ F H _ o ?_
  unfold gRng1 at h
  cases q : gA en w with
  | bad => rw [q] at h; exact h
  | ex c fn a w1 => rw [q] at h; exact h
  | ok ds w1 =>
    rw [q] at h
    intro vs F' H' g r
    split at h
    · rename_i j w2 e
      cases e
      split at h
      · rename_i hc
        have hj := of_decide_eq_true hc
        cases r with
        | cons r1 r2 =>
          cases r2
          have e1 := r1.int
          subst e1
          exact ⟨j, rfl, hj.1, hj.2, h _ F' H' g walks_rng⟩
      · exact h.elim
    · exact h.elim
    · rename_i e
      cases e
    · exact h.elim
end

/-! ### for -/
def forG (b : BG) (body : SG) : List D → SG
  | [], en, w => .nx en w
  | d :: ds, en, w => match b d en with
    | none => .bad
    | some en1 => match body en1 w with
      | .nx en2 w2 => forG b body ds en2 w2
      | .ct en2 w2 => forG b body ds en2 w2
      | .bk en2 w2 => .nx en2 w2
      | z => z
def sFor (gi : AG) (b : BG) (body : SG) : SG := fun en w => (gi en w).thn en fun ds w1 => forG b body ds en w1
/-! ### while, by so many turns at most -/
def whileG (gc : EG) (body : SG) : Nat → SG
  | 0, _, _ => .bad
  | n + 1, en, w => (gc en w).thn en fun d w1 => match d with
    | .bl true => (match body en w1 with
      | .nx en2 w2 => whileG gc body n en2 w2
      | .ct en2 w2 => whileG gc body n en2 w2
      | .bk en2 w2 => .nx en2 w2
      | z => z)
    | .bl false => .nx en w1
    | _ => .bad
def sWhile (fu : List Sl → Nat) (gc : EG) (body : SG) : SG := fun en w => whileG gc body (fu en) en w
section
variable {X : Cx} {W : WX} {K : Kt} {Kf : PySem.W.Frag} {pos : Pos} {tg e c : Expr} {ti : TI} {gi : AG} {g : TG} {b : BG} {vs : List Nat} {sts : List Stmt} {tb : TS} {gb : SG} {tA : TT} {gc : EG}
theorem Ok.rebase {f : Fx} {en : List Sl} {w : Wl} {σ : St} {F H : Hp} (o : Ok K f en w σ F H) : Ok K ⟨f.aw, F, f.H0⟩ en w σ F H :=
  ⟨⟨Same.refl _, o.go.hh, o.go.ne, o.go.tb, o.go.sub, o.go.nt, fun _ _ h => h, o.go.wl⟩, fun a e => ⟨(o.base a e).1, o.awF a e⟩, o.len, o.dat, o.own, o.tT, o.tabs, o.hol, o.inj, o.dic⟩
theorem Go.unbase {f : Fx} {en : List Sl} {w w' : Wl} {σ : St} {F H F' H' : Hp} (o : Ok K f en w σ F H) (g : Go f.aw F f.H0 F' H' w') : Go f.aw f.F0 f.H0 F' H' w' :=
  ⟨o.go.ff.trans g.ff, g.hh, g.ne, g.tb, g.sub, g.nt, fun b n h => g.fr b n (o.go.fr b n h), g.wl⟩
theorem Ok.unbase {f : Fx} {en en' : List Sl} {w w' : Wl} {σ σ' : St} {F H F' H' : Hp} (o : Ok K f en w σ F H) (o' : Ok K ⟨f.aw, F, f.H0⟩ en' w' σ' F' H') : Ok K f en' w' σ' F' H' :=
  ⟨Go.unbase o o'.go, o.base, o'.len, o'.dat, o'.own, o'.tT, o'.tabs, o'.hol, o'.inj, o'.dic⟩
theorem ess_for (hi : EI K W false ti gi) (hg : EGt K g b vs) (hb : ESs K W tb gb) : ESs K W (tFor ti g tb) (sFor gi b gb) := by
  intro f en w σ F H Dn o h
  refine hi f en w σ F H _ o ?_
  unfold sFor AR.thn at h
  cases q : gi en w with
  | bad => rw [q] at h; exact h
  | ex c fn a w1 =>
    rw [q] at h
    exact fun cls dx F' H' g x => h cls dx σ F' H' (o.step g) x
  | ok ds w1 =>
    rw [q] at h
    dsimp only at h
    intro J F1 H1 g1 wk
    refine ⟨fun i m σ' H' => m = ds.length - i ∧ ∃ en' w' F', Ok K f en' w' σ' F' H' ∧ Same F1 F' ∧ WnS K f Dn W (forG b gb (ds.drop i) en' w'), ⟨_, rfl, en, w1, F1, o.step g1, Same.refl _, by rw [List.drop_zero]; exact h⟩, ?_⟩
    rintro i m σ' H' ⟨rfl, en', w', F', o', sm, hw⟩
    by_cases hi2 : i < ds.length
    · obtain ⟨jg, jy⟩ := (wk i w' F' H' ⟨sm, fun z => nomatch z⟩ o'.here).1 _ (List.getElem?_eq_getElem hi2)
      rw [List.drop_eq_getElem_cons hi2] at hw
      simp only [forG] at hw
      refine .inr ⟨jg, fun σ2 H2 => ∃ en2 w2 F2, Ok K f en2 w2 σ2 F2 H2 ∧ Same F1 F2 ∧ WnS K f Dn W (forG b gb (ds.drop (i + 1)) en2 w2), fun σ2 H2 ⟨en2, w2, F2, o2, s2, h2⟩ => ⟨ds.length - (i + 1), by omega, rfl, en2, w2, F2, o2, s2, h2⟩, fun x H2 hy => ?_⟩
      obtain ⟨F2, g2, r2⟩ := jy x H2 hy
      cases q2 : b ds[i] en' with
      | none =>
        rw [q2] at hw
        exact hw.elim
      | some en1 =>
        rw [q2] at hw
        dsimp only at hw
        refine hg f en' en1 w' σ' F2 H2 x _ _ q2 (o'.step g2) (.inl r2) (fun _ _ => r2) fun σ3 o3 _ => ?_
        have s3 : Same F1 F2 := sm.trans g2.ff
        refine hb ⟨f.aw, F2, f.H0⟩ en1 w' σ3 F2 H2 _ o3.rebase ?_
        cases q3 : gb en1 w' with
        | nx en2 w2 =>
          rw [q3] at hw
          exact fun σ4 F4 H4 o4 => ⟨en2, w2, F4, o3.unbase o4, s3.trans o4.go.ff, hw⟩
        | ct en2 w2 =>
          rw [q3] at hw
          exact fun σ4 F4 H4 o4 => ⟨en2, w2, F4, o3.unbase o4, s3.trans o4.go.ff, hw⟩
        | bk en2 w2 =>
          rw [q3] at hw
          exact fun σ4 F4 H4 o4 => hw σ4 F4 H4 (o3.unbase o4)
        | rt d w2 =>
          rw [q3] at hw
          exact fun v F4 H4 g4 r4 => hw v F4 H4 (Go.unbase o3 g4) r4
        | rf d w2 =>
          rw [q3] at hw
          exact fun a vs F4 H4 g4 n r1 r2 r4 => hw a vs F4 H4 (Go.unbase o3 g4) n r1 r2 r4
        | ex c fn a en2 w2 =>
          rw [q3] at hw
          exact fun cls dx σ4 F4 H4 o4 x => hw cls dx σ4 F4 H4 (o3.unbase o4) x
        | bad =>
          rw [q3] at hw
          exact hw.elim
    · refine .inl ⟨(wk i w' F' H' ⟨sm, fun z => nomatch z⟩ o'.here).2 (by omega), ?_⟩
      rw [List.drop_eq_nil_of_le (by omega)] at hw
      exact hw σ' F' H' o'
theorem ds_for (hp : PassesOwn (model X.prog X.w) X.A X.env X.xe) (hc : X.calm = true) (hi : DI K X W false tg e ti gi) (hg : DG K X tg g b vs) (hb : DSs K X W sts tb gb)
    (hs : ∀ x, foldedSetIterable e X.env x = pure x := by intro _; rfl) : DS K X W (.For tg e sts [] pos) (tFor ti g tb) (sFor gi b gb) := by
  obtain ⟨K0, T0, L0⟩ := K
  cases hi.hK
  exact ⟨ps_for hp hc hi.pi hg.pg hb.ps hs, ess_for hi.es hg.es hb.es⟩
theorem ds_while (fu : List Sl → Nat) (hp : PassesOwn (model X.prog X.w) X.A X.env X.xe) (hc : DT K X W c tA gc) (hb : DSs K X W sts tb gb) : DS K X W (.While c sts [] pos) (tWhile tA tb) (sWhile fu gc gb) := by
  refine ⟨ps_while hp hc.pt hb.ps, fun f en w σ F H Dn o h => ?_⟩
  refine ⟨fun m σ' H' => ∃ en' w' F', Ok K f en' w' σ' F' H' ∧ WnS K f Dn W (whileG gc gb m en' w'), ⟨fu en, en, w, F, o, h⟩, ?_⟩
  rintro m σ' H' ⟨en', w', F', o', hw⟩
  cases m with
  | zero => exact hw.elim
  | succ m =>
    refine et_thn hc.es o' (fun d w hd => ?_) hw fun k w1 F1 H1 g1 o1 h1 => ?_
    · cases d <;> first
        | rfl
        | exact absurd rfl (hd _)
    · cases k with
      | false => exact h1 σ' F1 H1 o1
      | true =>
        refine ⟨fun σ2 H2 => ∃ en2 w2 F2, Ok K f en2 w2 σ2 F2 H2 ∧ WnS K f Dn W (whileG gc gb m en2 w2), fun σ2 H2 z => ⟨m, Nat.lt_succ_self m, z⟩, ?_⟩
        refine hb.es f en' w1 σ' F1 H1 _ o1 ?_
        dsimp only at h1
        cases q3 : gb en' w1 with
        | nx en2 w2 =>
          rw [q3] at h1
          exact fun σ4 F4 H4 o4 => ⟨en2, w2, F4, o4, h1⟩
        | ct en2 w2 =>
          rw [q3] at h1
          exact fun σ4 F4 H4 o4 => ⟨en2, w2, F4, o4, h1⟩
        | bk en2 w2 =>
          rw [q3] at h1
          exact h1
        | rt d w2 =>
          rw [q3] at h1
          exact h1
        | rf d w2 =>
          rw [q3] at h1
          exact h1
        | ex c fn a en2 w2 =>
          rw [q3] at h1
          exact h1
        | bad =>
          rw [q3] at h1
          exact h1
end

/-! ### comprehensions -/
def wipeE (en : List Sl) : List Nat → List Sl
  | [] => en
  | v :: vs => (wipeE en vs).set v .non
def lcG (b : BG) (gt ge : EG) (en : List Sl) : List D → Wl → AR
  | [], w => .ok [] w
  | d :: ds, w => match b d en with
    | none => .bad
    | some en1 => match gt en1 w with
      | .ok (.bl true) w1 => (match ge en1 w1 with
        | .ok z w2 => (lcG b gt ge en ds w2).cons z
        | _ => .bad)
      | .ok (.bl false) w1 => lcG b gt ge en ds w1
      | _ => .bad
def eLc (gi : AG) (b : BG) (gt ge : EG) (vs : List Nat) : EG := fun en w => match gi en w with
  | .ok ds w1 => if ds.length ≤ sizeLine then (match lcG b gt ge (wipeE en vs) ds w1 with
      | .ok zs w2 => .ok (.lst zs) w2
      | _ => .bad) else .bad
  | .ex c fn a w1 => .ex c fn a w1
  | .bad => .bad
def eYes : EG := fun _ w => .ok (.bl true) w
/-- nothing is let out -/
def W0 : WX := fun _ _ _ _ => False
section
variable {X : Cx} {W : WX} {K : Kt} {Kf : PySem.W.Frag} {s : Sg} {pos : Pos} {tg e elt : Expr} {ti : TI} {gi : AG} {g : TG} {b : BG} {vs vs' : List Nat} {tt : TT} {gt ge : EG} {te : TE} {f : Fx} {en : List Sl} {w : Wl} {σ : St} {F H : Hp}
theorem Ok.wipe (o : Ok K f en w σ F H) : ∀ vs : List Nat, Ok K f (wipeE en vs) w (wipe σ vs) F H
  | [] => o
  | v :: vs => by
    have o1 := Ok.wipe o vs
    have back : ∀ (m : Nat) (z : Sl), ((wipeE en vs).set v .non)[m]? = some z → z ≠ .non → m ≠ v ∧ (wipeE en vs)[m]? = some z := fun m z hm hz => by
      rcases set_get hm with ⟨_, e, _⟩ | h
      · exact absurd e hz
      · exact h
    refine ⟨o1.go, o1.base, ?_, fun i d h => ?_, fun i ds h => ?_, o1.tT, o1.tabs, fun i h => ?_, fun i j ds es a h1 h2 q1 q2 => ?_, o1.dic.keep (fun i kvs h => ?_) (fun _ _ h1 _ h3 => ⟨h1, h3⟩) (Same.refl _)⟩
    · show ((L2.wipe σ vs).set v none).length = ((wipeE en vs).set v .non).length
      rw [List.length_set, List.length_set]
      exact o1.len
    · obtain ⟨n, h⟩ := back i _ h (fun z => nomatch z)
      show ∃ u, ((L2.wipe σ vs).set v none)[i]? = some (some u) ∧ _
      rw [get_set_ne n]
      exact o1.dat i d h
    · obtain ⟨n, h⟩ := back i _ h (fun z => nomatch z)
      show ∃ a us, ((L2.wipe σ vs).set v none)[i]? = some (some (.ref a)) ∧ _
      rw [get_set_ne n]
      exact o1.own i ds h
    · obtain ⟨n, h⟩ := back i _ h (fun z => nomatch z)
      obtain ⟨l, e1, e2, r⟩ := o1.hol i h
      refine ⟨l, e1, ?_, r⟩
      show ((L2.wipe σ vs).set v none)[i]? = _
      rw [get_set_ne n]
      exact e2
    · obtain ⟨n1, h1⟩ := back i _ h1 (fun z => nomatch z)
      obtain ⟨n2, h2⟩ := back j _ h2 (fun z => nomatch z)
      have q1' : (L2.wipe σ vs)[i]? = some (some (.ref a)) := by
        rw [← get_set_ne (x := none) n1]
        exact q1
      have q2' : (L2.wipe σ vs)[j]? = some (some (.ref a)) := by
        rw [← get_set_ne (x := none) n2]
        exact q2
      exact o1.inj i j ds es a h1 h2 q1' q2'
    · obtain ⟨n, h⟩ := back i _ h (fun z => nomatch z)
      refine ⟨h, ?_⟩
      show ((L2.wipe σ vs).set v none)[i]? = _
      rw [get_set_ne n]
theorem wipe_get {σ : St} : ∀ {vs : List Nat} {i : Nat}, (wipe σ vs)[i]? = if i ∈ vs then (σ[i]?).map (fun _ => none) else σ[i]?
  | [], i => by simp [L2.wipe]
  | v :: vs, i => by
    show ((L2.wipe σ vs).set v none)[i]? = _
    by_cases e : i = v
    · subst e
      rw [if_pos List.mem_cons_self, List.getElem?_set]
      rw [if_pos rfl]
      have hl := L2.wipe_length σ vs
      by_cases hi : i < σ.length
      · rw [if_pos (by rw [hl]; exact hi), List.getElem?_eq_getElem hi]
        rfl
      · rw [if_neg (by rw [hl]; exact hi), List.getElem?_eq_none (by omega)]
        rfl
    · rw [get_set_ne e, wipe_get (vs := vs)]
      by_cases h : i ∈ vs
      · rw [if_pos h, if_pos (List.mem_cons_of_mem _ h)]
      · rw [if_neg h, if_neg (fun z => by rcases List.mem_cons.mp z with z | z; exact e z; exact h z)]
/-- the slots outside of vs say all -/
theorem wipe_agree {σ σ' : St} (a : Agree vs' (wipe σ vs) σ') (h : ∀ i ∈ vs', i ∈ vs) : wipe σ' vs = wipe σ vs := by
  apply List.ext_getElem?
  intro i
  rw [wipe_get, wipe_get]
  by_cases hi : i ∈ vs
  · rw [if_pos hi, if_pos hi]
    have l1 := a.1
    rw [L2.wipe_length] at l1
    by_cases hl : i < σ.length
    · rw [List.getElem?_eq_getElem hl, List.getElem?_eq_getElem (by omega)]
      rfl
    · rw [List.getElem?_eq_none (by omega), List.getElem?_eq_none (by omega)]
  · rw [if_neg hi, if_neg hi, a.2 i (fun z => hi (h i z)), wipe_get, if_neg hi]
theorem es_lc (hi : EI K W true ti gi) (hg : EGt K g b vs') (hv : ∀ i ∈ vs', i ∈ vs) (ht : ET K W0 tt gt) (he : ES K W0 s te ge) (hs : s ≠ .wk) : ES K W .fr (tLc ti g tt te vs) (eLc gi b gt ge vs) := by
  intro f en w σ F H Q o h
  refine hi f en w σ F H _ o ?_
  unfold eLc at h
  cases q : gi en w with
  | bad => rw [q] at h; exact h
  | ex c fn a w1 => rw [q] at h; exact h
  | ok ds w1 =>
    rw [q] at h
    dsimp only at h
    split at h
    · rename_i hz
      intro J F1 H1 g1 wk p hp
      cases q2 : lcG b gt ge (wipeE en vs) ds w1 with
      | bad => rw [q2] at h; exact h.elim
      | ex c fn a w2 => rw [q2] at h; exact h.elim
      | ok zs w2 =>
        rw [q2] at h
        have o1 := o.step g1
        obtain ⟨z0, np, zn⟩ := fresh0 o1 hp
        have hp0 : H p = none := by
          cases z : H p with
          | none => rfl
          | some u => exact absurd hp (g1.ne p (by rw [z]; exact fun y => nomatch y))
        -- the turns: what is left to be made, what is made
        refine ⟨fun i m H' => m = ds.length - i ∧ ∃ w' F' acc us, Ok K f en w' σ F' H' ∧ Go f.aw F1 H1 F' H' w' ∧ F' p = none ∧ H' p = some (.lst us) ∧ DvAll K f.aw F' us acc ∧ acc.length ≤ i ∧
          ∃ zr, lcG b gt ge (wipeE en vs) (ds.drop i) w' = .ok zr w2 ∧ zs = acc ++ zr, ⟨_, rfl, w1, F1, [], [], ?_, g1.here.laid hp _, o1.here.free hp, upd_same, .nil, Nat.zero_le _, zs, by rw [List.drop_zero]; exact q2, rfl⟩, ?_⟩
        · exact o1.poke (.inl hp) z0 (o1.here.free hp) np zn
        rintro i m H' ⟨rfl, w', F', acc, us, o', g', fp, hq, dv, hl, zr, hw, ez⟩
        have st : Stay true f.aw F1 H1 F' H' := ⟨g'.ff, fun _ a u n z => g'.hh a _ n (fun _ y => nomatch y) z⟩
        by_cases hi2 : i < ds.length
        · obtain ⟨jg, jy⟩ := (wk i w' F' H' st o'.here).1 _ (List.getElem?_eq_getElem hi2)
          rw [List.drop_eq_getElem_cons hi2] at hw
          simp only [lcG] at hw
          refine .inr ⟨jg, fun H2 => ∃ w3 F3 acc us, Ok K f en w3 σ F3 H2 ∧ Go f.aw F1 H1 F3 H2 w3 ∧ F3 p = none ∧ H2 p = some (.lst us) ∧ DvAll K f.aw F3 us acc ∧ acc.length ≤ i + 1 ∧
            ∃ zr, lcG b gt ge (wipeE en vs) (ds.drop (i + 1)) w3 = .ok zr w2 ∧ zs = acc ++ zr, fun H2 z => ⟨ds.length - (i + 1), by omega, rfl, z⟩, fun x H2 hy => ?_⟩
          obtain ⟨F2, g2, r2⟩ := jy x H2 hy
          cases qb : b ds[i] (wipeE en vs) with
          | none =>
            rw [qb] at hw
            cases hw
          | some en1 =>
            rw [qb] at hw
            dsimp only at hw
            have fp2 : F2 p = none := g2.fr p (by rw [hq]; exact fun z => nomatch z) fp
            have hq2 : H2 p = some (.lst us) := g2.hh p _ np (fun _ y => nomatch y) hq
            refine hg f (wipeE en vs) en1 w' (L2.wipe σ vs) F2 H2 x _ _ qb ((o'.step g2).wipe vs) (.inl r2) (fun _ _ => r2) fun σ3 o3 a3 => ⟨wipe_agree a3 hv, ?_⟩
            refine ht f en1 w' σ3 F2 H2 _ o3 ?_
            cases qt : gt en1 w' with
            | bad => rw [qt] at hw; cases hw
            | ex c fn a w3 => rw [qt] at hw; cases hw
            | ok dt w3 =>
              rw [qt] at hw
              cases dt <;> first
                | (cases hw; done)
                | skip
              rename_i kb
              intro F3 H3 g3
              have fp3 : F3 p = none := g3.fr p (by rw [hq2]; exact fun z => nomatch z) fp2
              have hq3 : H3 p = some (.lst us) := g3.hh p _ np (fun _ y => nomatch y) hq2
              have dv3 := (dv.mono g2.ff).mono g3.ff
              cases kb with
              | false => exact ⟨w3, F3, acc, us, (o'.step g2).step g3, (g'.trans g2).trans g3, fp3, hq3, dv3, Nat.le_succ_of_le hl, zr, hw, ez⟩
              | true =>
                show te σ3 H3 _
                refine (he.toSt hs) f en1 w3 σ3 F3 H3 _ (o3.step g3) ?_
                dsimp only at hw
                cases qe : ge en1 w3 with
                | bad => rw [qe] at hw; cases hw
                | ex c fn a w4 => rw [qe] at hw; cases hw
                | ok z w4 =>
                  rw [qe] at hw
                  dsimp only at hw
                  intro v F4 H4 g4 r4
                  have fp4 : F4 p = none := g4.fr p (by rw [hq3]; exact fun z => nomatch z) fp3
                  have hq4 : H4 p = some (.lst us) := g4.hh p _ np (fun _ y => nomatch y) hq3
                  have o4 : Ok K f en w4 σ F4 H4 := ((o'.step g2).step g3).step g4
                  have g14 : Go f.aw F1 H1 F4 H4 w4 := ((g'.trans g2).trans g3).trans g4
                  have hlen : us.length < sizeLine := by
                    rw [dv.length]
                    omega
                  refine ⟨us, hq4, hlen, w4, F4, acc ++ [z], us ++ [v], ?_, ?_, fp4, upd_same, (dv3.mono g4.ff).snoc r4, by rw [List.length_append]; simpa using hl, ?_⟩
                  · exact o4.poke (.inr ⟨_, hq4⟩) z0 fp4 np zn
                  · exact g14.wr hp fp4 np (.inr ⟨_, hq4⟩)
                  · cases ql : lcG b gt ge (wipeE en vs) (ds.drop (i + 1)) w4 with
                    | bad => rw [ql] at hw; cases hw
                    | ex c fn a w5 => rw [ql] at hw; cases hw
                    | ok zr2 w5 =>
                      rw [ql] at hw
                      simp only [AR.cons, AR.ok.injEq] at hw
                      obtain ⟨h1, h2⟩ := hw
                      subst h2
                      exact ⟨zr2, rfl, by rw [ez, ← h1, List.append_assoc]; rfl⟩
        · refine .inl ⟨(wk i w' F' H' st o'.here).2 (by omega), ?_⟩
          rw [List.drop_eq_nil_of_le (by omega)] at hw
          simp only [lcG, AR.ok.injEq] at hw
          obtain ⟨h1, h2⟩ := hw
          subst h1 h2
          rw [List.append_nil] at ez
          subst ez
          exact h _ F' H' (g1.trans g') ⟨_, p, us, rfl, rfl, hp0, hq, fp, dv⟩
    · exact h.elim
abbrev Bk (X : Cx) (scope : Scope) (s : Shared) (H : Hp) (C : Addr) (cl : List (Str × Addr)) (fp : List Addr) : Cx := X.blk s H scope (compEnvC scope cl C X.env) fp
theorem de_lc {own : List (Str × Nat)} {scope : Scope} (hc : X.calm = true) (hN : X.N.Nodup) (hi : DI K X W true tg e ti gi) (ok : BlkOk X.N X.env.scope scope own)
    (hg : ∀ (s : Shared) (H : Hp) (C : Addr) (cl : List (Str × Addr)) (fp : List Addr), DG K (Bk X scope s H C cl fp) tg g b vs')
    (he : ∀ (s' : Shared) (H : Hp) (C : Addr) (cl : List (Str × Addr)) (fp : List Addr), DE K (Bk X scope s' H C cl fp) W0 s elt te ge) (hs : s ≠ .wk := by decide) (hv : ∀ i ∈ vs', i ∈ own.map (·.2) := by decide) (hf : ∀ x, foldedSetIterable e X.env x = pure x := by intro _; rfl) : DE K X W .fr (.ListComp elt [⟨tg, e, [], 0⟩] scope pos) (tLc ti g tYes te (own.map (·.2))) (eLc gi b eYes ge (own.map (·.2))) := by
  obtain ⟨K0, T0, L0⟩ := K
  cases hi.hK
  exact ⟨rfl, pe_lc hc hN hi.pi ok (fun s H C cl fp => (hg s H C cl fp).pg) (fun s H C cl fp => pts_nil) (fun s H C cl fp => (he s H C cl fp).pe) hf,
    es_lc hi.es (hg {} (fun _ => none) 0 [] []).es hv (fun f en w σ F H Q o h => h F H o.here) (he {} (fun _ => none) 0 [] []).es hs⟩
theorem de_lcIf {own : List (Str × Nat)} {scope : Scope} {c : Expr} {tc : TT} {gc : EG} (hc : X.calm = true) (hN : X.N.Nodup) (hi : DI K X W true tg e ti gi) (ok : BlkOk X.N X.env.scope scope own)
    (hg : ∀ (s : Shared) (H : Hp) (C : Addr) (cl : List (Str × Addr)) (fp : List Addr), DG K (Bk X scope s H C cl fp) tg g b vs')
    (ht : ∀ (s : Shared) (H : Hp) (C : Addr) (cl : List (Str × Addr)) (fp : List Addr), DT K (Bk X scope s H C cl fp) W0 c tc gc)
    (he : ∀ (s' : Shared) (H : Hp) (C : Addr) (cl : List (Str × Addr)) (fp : List Addr), DE K (Bk X scope s' H C cl fp) W0 s elt te ge) (hs : s ≠ .wk := by decide) (hv : ∀ i ∈ vs', i ∈ own.map (·.2) := by decide) (hf : ∀ x, foldedSetIterable e X.env x = pure x := by intro _; rfl) :
    DE K X W .fr (.ListComp elt [⟨tg, e, [c], 0⟩] scope pos) (tLc ti g tc te (own.map (·.2))) (eLc gi b gc ge (own.map (·.2))) := by
  obtain ⟨K0, T0, L0⟩ := K
  cases hi.hK
  exact ⟨rfl, pe_lc hc hN hi.pi ok (fun s H C cl fp => (hg s H C cl fp).pg) (fun s H C cl fp => pts_one (ht s H C cl fp).pt) (fun s H C cl fp => (he s H C cl fp).pe) hf,
    es_lc hi.es (hg {} (fun _ => none) 0 [] []).es hv (ht {} (fun _ => none) 0 [] []).es (he {} (fun _ => none) 0 [] []).es hs⟩
/-! name = [..] -/
theorem ds_setLc (i : Nat) {x : Str} {py spos : Pos} {own : List (Str × Nat)} {scope : Scope} (hc : X.calm = true) (hN : X.N.Nodup) (hi : DI K X W true tg e ti gi) (ok : BlkOk X.N X.env.scope scope own)
    (hg : ∀ (s : Shared) (H : Hp) (C : Addr) (cl : List (Str × Addr)) (fp : List Addr), DG K (Bk X scope s H C cl fp) tg g b vs')
    (he : ∀ (s' : Shared) (H : Hp) (C : Addr) (cl : List (Str × Addr)) (fp : List Addr), DE K (Bk X scope s' H C cl fp) W0 s elt te ge)
    (hsw : swapsWith (.ListComp elt [⟨tg, e, [], 0⟩] scope pos) (some (.Name x py)) spos.line X.env = pure true)
    (hs : s ≠ .wk := by decide) (hv : ∀ i ∈ vs', i ∈ own.map (·.2) := by decide) (hf : ∀ x, foldedSetIterable e X.env x = pure x := by intro _; rfl)
    (hy : X.N[i]? = some x := by rfl) (hyl : X.env.scope.names.lookup x = some .local := by rfl) :
    DS K X W (.Assign [.Name x py] (.ListComp elt [⟨tg, e, [], 0⟩] scope pos) spos) (tAsg (tLc ti g tYes te (own.map (·.2))) (gName i)) (sSet i (eLc gi b eYes ge (own.map (·.2)))) := by
  obtain ⟨K0, T0, L0⟩ := K
  cases hi.hK
  exact ⟨ps_setLc hc hN hy hyl hsw hi.pi ok (fun s H C cl fp => (hg s H C cl fp).pg) (fun s H C cl fp => pts_nil) (fun s H C cl fp => (he s H C cl fp).pe) hf,
    ess_set (es_lc hi.es (hg {} (fun _ => none) 0 [] []).es hv (fun f en w σ F H Q o h => h F H o.here) (he {} (fun _ => none) 0 [] []).es hs) (fun z => nomatch z)⟩
/-! targets of an assignment -/
def sAsg (g : EG) (b : BG) : SG := fun en w => (g en w).thn en fun d w1 => match b d en with
  | some en1 => .nx en1 w1
  | none => .bad
theorem ds_asg (he : DE K X W s elt te ge) (hg : DG K X tg g b vs) (hs : s ≠ .wk := by decide) (hsw : swapsWithSole [tg] elt pos.line X.env = pure false := by rfl) (hw : swappedStores [tg] elt X.env = pure none := by rfl)
    (h1 : (assignEach [tg] X.env).map (·.2) = [assign tg X.env] := by rfl) : DS K X W (.Assign [tg] elt pos) (tAsg te g) (sAsg ge b) := by
  obtain ⟨K0, T0, L0⟩ := K
  cases he.hK
  refine ⟨ps_asg he.pe hg.pg hsw hw h1, fun f en w σ F H Dn o h => ?_⟩
  refine es_thn (R := fun v H1 => g v σ H1 Dn.nx) (he.es.toSt hs) o h fun d w1 v F1 H1 g1 o1 r1 h1 => ?_
  cases q : b d en with
  | none =>
    rw [q] at h1
    exact h1.elim
  | some en1 =>
    rw [q] at h1
    exact hg.es f en en1 w1 σ F1 H1 v d _ q o1 (.inl r1) (fun _ _ => r1) fun σ' o' _ => h1 σ' F1 H1 o'
/-- a, b = x, y of plain local names -/
def sPar (i j : Nat) (g : AG) : SG := fun en w => (g en w).thn en fun ds w1 => match ds with
  | [d, e] => .nx ((en.set i (.dat d)).set j (.dat e)) w1
  | _ => .bad
theorem ds_par (i j : Nat) {x y : Str} {a b' : Expr} {tA : TA} {gA : AG} {px py pt : Pos} {kt k2 pt2} (hc : X.calm = true) (hN : X.N.Nodup) (ha : DA K X W false [a, b'] tA gA) (hi : X.N[i]? = some x := by rfl) (hj : X.N[j]? = some y := by rfl) (hij : i ≠ j := by decide)
    (hx : X.env.scope.names.lookup x = some .local := by rfl) (hy : X.env.scope.names.lookup y = some .local := by rfl)
    (hw : swappedStores [.Tuple [.Name x px, .Name y py] kt pt] (.Tuple [a, b'] k2 pt2) X.env = pure (some [x, y]) := by rfl)
    (hs : swapsWithSole [.Tuple [.Name x px, .Name y py] kt pt] (.Tuple [a, b'] k2 pt2) pos.line X.env = pure false := by rfl) :
    DS K X W (.Assign [.Tuple [.Name x px, .Name y py] kt pt] (.Tuple [a, b'] k2 pt2) pos) (tPar i j tA) (sPar i j gA) := by
  obtain ⟨K0, T0, L0⟩ := K
  cases ha.hK
  refine ⟨ps_par hc hN hi hj hij hx hy ha.pa hw hs, fun f en w σ F H Dn o h => ?_⟩
  refine ea_thn (R := fun vs H1 => ∃ v w, vs = [v, w] ∧ Dn.nx ((σ.set i (some v)).set j (some w)) H1) ha.es o h fun ds w1 us F1 H1 g1 o1 r1 h1 => ?_
  have r1' : DvAll _ f.aw F1 us ds := r1
  cases r1' with
  | nil => exact h1.elim
  | cons ra rb =>
    cases rb with
    | nil => exact h1.elim
    | cons rb rc =>
      cases rc with
      | cons _ _ => exact h1.elim
      | nil => exact ⟨_, _, rfl, h1 _ F1 H1 ((o1.setDat ra).setDat rb)⟩
end
end DL

/-! DL, part g: defs and their calls. -/
namespace DL
open PySem PySem.Spec L2
open PyProof.Rows hiding St

theorem Rg.deeper {k : Nat} {A : Around} (r : Rg (k + 1) A) (env : Env) : Rg k (A.deeper env) := ⟨r.room.deeper env, r.gd⟩
/-- what a def of data answers: n arguments, the answer G -/
def spD (K : Kt) (n : Nat) (G : List D → Wl → Res) : Sp := fun vs H Q E => ∃ (f : Fx) (ds : List D) (w : Wl), f.H0 = H ∧ Go f.aw f.F0 H f.F0 H w ∧ (∀ a, f.aw.a = some a → f.F0 a = none) ∧ f.aw.T = K.T ∧ LamX.Tabs f.aw.T H ∧ DvAll K f.aw f.F0 vs ds ∧ ds.length = n ∧ Wn .st K f.aw f.F0 H Q E (G ds w)
section
variable {P : Program} {w : World} {K : Kt} {Kf : PySem.W.Frag} {mg : Str → Option Value} {base : Heap} {k : Nat} {f : Addr} {fd : FuncData} {ps N : List Str} {x qual : Str} {params : Arguments} {body : List Stmt} {scope : Scope} {dvs : List V} {kws : List (Str × V)}
/-- from a body to its promise -/
theorem fg_sp {sp : Sp} (F : FunD Kf x qual params body scope dvs kws f fd) (S : FnScope N ps scope) (len : ∀ vs H Q E, sp vs H Q E → vs.length = ps.length)
    (hb : ∀ (cdv : Value), fd.code = cdv → ∀ (A : Around) (outer : List Env) (s : Shared) (H : Hp) (vs : List V) (Q : VK) (E : XK), Rg k (A.deeper (envOfC qual scope s.heap.objs.size f cdv)) → sp vs H Q E →
      ∃ t, PSs (cxOf (L2.CX P w) P w Kf mg base N qual scope f cdv A outer s H E) body t ∧ t { nx := fun _ H' => Q .non H', rt := Q } (start N vs) H) : FG P w Kf mg base (k + 1) f fd ps sp := by
  obtain ⟨oc, od, dV, kV, doc, pm, an, cdv, ct, osl, rfl, lk, hcd, _, _⟩ := F.ex
  refine ⟨len, fun A outer s H args us vs Q E hr e0 hbn rv hsp => ?_⟩
  have hlen := len vs H Q E hsp
  have kin : Kf.In s.heap := e0.mod.kin.keeps fun b o z => (e0.bs b o z).1
  have nolim : s.heap.NoLimit := e0.mod.nolimit.keeps fun b o z => (e0.bs b o z).1
  have kinds : ∀ y ∈ ps.zip us, scope.names.lookup y.1 = some .local ∨ (scope.names.lookup y.1 = some .cell ∧ ((cellsFrom (s.heap.objs.size + 1) scope.names []).lookup y.1).isSome = true) := by
    rintro ⟨n, v⟩ hy
    exact (S.par n (List.of_mem_zip hy).1).elim (fun z => .inl z) fun z => .inr ⟨z, PySem.W.cellsFrom_some _ _ _ (.inl z)⟩
  refine codeAny_call_function hr.room.depth (kin _ _ lk) rfl S.co S.gen rfl (PySem.W.codeRec_of kin hcd) (hbn _ _ _ _ ?_)
  refine wpAny_newFunctionEnv_cells S.kind kinds fun env he s1 z => ?_
  subst he
  refine ⟨nolim.keeps z.toInCall.keep, codeAny_func ?_⟩
  obtain ⟨t, pt, ht⟩ := hb cdv rfl A outer s H vs Q E (hr.deeper _) hsp
  have J0 : Inv (cxOf (L2.CX P w) P w Kf mg base N qual scope f cdv A outer s H E) [] (start N vs) H s1 := inv_start S hr.room.hd e0 hlen rv z
  refine wpAny_mono (pt.run [] s1 (start N vs) H _ J0 ht) (fun fl s' hs => ?_) (fun e s' hs => hs)
  cases fl with
  | ret u =>
    obtain ⟨v, σ', H', J, r, q⟩ := hs
    exact ⟨v, H', J.os, J.bare, J.base, J.hok, r, q⟩
  | next =>
    obtain ⟨σ', H', J, q⟩ := hs
    exact ⟨V.non, H', J.os, J.bare, J.base, J.hok, rfl, q⟩
  | brk =>
    obtain ⟨_, _, _, q⟩ := hs
    exact q.elim
  | cont =>
    obtain ⟨_, _, _, q⟩ := hs
    exact q.elim
/-- a call's wish at its frame -/
abbrev We (E : XK) : WX := fun c d _ H => E c d H
theorem start_ok {aw : Bs} {F0 H : Hp} {wl : Wl} {vs : List V} {ds : List D} (g : Go aw F0 H F0 H wl) (hf : ∀ a, aw.a = some a → F0 a = none) (hT : aw.T = K.T) (ht : LamX.Tabs aw.T H) (r : DvAll K aw F0 vs ds) (hn : ds.length ≤ N.length) :
    Ok K ⟨aw, F0, H⟩ (ds.map .dat ++ List.replicate (N.length - ds.length) .non) wl (start N vs) F0 H := by
  have hl := r.length
  have key : ∀ (i : Nat) (z : Sl), (ds.map Sl.dat ++ List.replicate (N.length - ds.length) Sl.non)[i]? = some z → (∃ d, z = .dat d ∧ ds[i]? = some d) ∨ z = .non := fun i z h => by
    by_cases hi : i < ds.length
    · rw [List.getElem?_append_left (by simpa using hi), List.getElem?_map, List.getElem?_eq_getElem hi] at h
      exact .inl ⟨ds[i], (Option.some.inj h).symm, List.getElem?_eq_getElem hi⟩
    · rw [List.getElem?_append_right (by simpa using hi)] at h
      exact .inr (List.eq_of_mem_replicate (List.mem_of_getElem? h))
  refine ⟨g, fun a ea => ⟨fun z => (by have e := g.wl a ea; rw [show H a = none from z] at e; cases e), hf a ea⟩, ?_, fun i d h => ?_, fun i es h => ?_, hT, ht, fun i h => ?_, fun i j es us a h _ _ _ => ?_, fun i kvs h => ?_⟩
  · simp [L2.start, hl]
  · rcases key i _ h with ⟨d', e, hd⟩ | e
    · cases e
      obtain ⟨v, e1, rv⟩ := r.get hd
      refine ⟨v, ?_, rv⟩
      have hi := (List.getElem?_eq_some_iff.mp e1).1
      unfold L2.start
      rw [List.getElem?_append_left (by simpa using hi), List.getElem?_map, e1]
      rfl
    · cases e
  · rcases key i _ h with ⟨d', e, hd⟩ | e <;> cases e
  · rcases key i _ h with ⟨d', e, hd⟩ | e <;> cases e
  · rcases key i _ h with ⟨d', e, hd⟩ | e <;> cases e
  · rcases key i _ h with ⟨d', e, hd⟩ | e <;> cases e
/-- THE RULE for a def of data -/
theorem fg_of {gs : SG} {G : List D → Wl → Res} (F : FunD K x qual params body scope dvs kws f fd) (S : FnScope N ps scope) (hG : ∀ ds w, ds.length = ps.length → G ds w = runG N.length gs ds w)
    (hb : ∀ (cdv : Value), fd.code = cdv → ∀ (A : Around) (outer : List Env) (s : Shared) (H : Hp) (E : XK), Rg k (A.deeper (envOfC qual scope s.heap.objs.size f cdv)) →
      ∃ t, DSs K (cxOf (L2.CX P w) P w K mg base N qual scope f cdv A outer s H E) (We E) body t gs) : FG P w K mg base (k + 1) f fd ps (spD K ps.length G) := by
  refine fg_sp F S (fun vs H Q E ⟨f, ds, w, _, _, _, _, _, r, hl, _⟩ => r.length.trans hl) fun cdv hcv A outer s H vs Q E hr hsp => ?_
  obtain ⟨fx, ds, wl, rfl, g, hf, tT, tb, r, hl, hw⟩ := hsp
  obtain ⟨t, ht⟩ := hb cdv hcv A outer s fx.H0 E hr
  refine ⟨t, ht.ps, ht.es fx _ wl _ _ _ _ (start_ok g hf tT tb r ?_) ?_⟩
  · have h1 := congrArg List.length S.pre
    rw [List.length_take] at h1
    omega
  · rw [hG ds wl hl] at hw
    unfold runG at hw
    cases q : gs (ds.map .dat ++ List.replicate (N.length - ds.length) .non) wl with
    | nx en w1 =>
      rw [q] at hw
      exact fun σ F' H' o => hw .non F' H' o.go .non
    | rt d w1 =>
      rw [q] at hw
      exact fun v F' H' g' r' => hw v F' H' g' r'
    | bk en w1 => rw [q] at hw; exact hw.elim
    | rf d w1 => rw [q] at hw; exact hw.elim
    | ct en w1 => rw [q] at hw; exact hw.elim
    | bad => rw [q] at hw; exact hw.elim
    | ex c fn a en w1 =>
      rw [q] at hw
      exact fun cls dx σ F' H' o x => hw cls dx F' H' o.go x
end

/-- what a def answers that makes a new list -/
def spN (K : Kt) (n : Nat) (G : List D → Wl → Res) : Sp := fun vs H Q E => ∃ (f : Fx) (ds : List D) (w : Wl), f.H0 = H ∧ Go f.aw f.F0 H f.F0 H w ∧ (∀ a, f.aw.a = some a → f.F0 a = none) ∧ f.aw.T = K.T ∧ LamX.Tabs f.aw.T H ∧ DvAll K f.aw f.F0 vs ds ∧ ds.length = n ∧ Wn .fr K f.aw f.F0 H Q E (G ds w)
def runN (m : Nat) (gs : SG) (ds : List D) (w : Wl) : Res := match gs (ds.map .dat ++ List.replicate (m - ds.length) .non) w with
  | .rf ds w1 => .ok (.lst ds) w1
  | _ => .bad
section
variable {P : Program} {w : World} {K : Kt} {mg : Str → Option Value} {base : Heap} {k : Nat} {f : Addr} {fd : FuncData} {ps N : List Str} {x qual : Str} {params : Arguments} {body : List Stmt} {scope : Scope} {dvs : List V} {kws : List (Str × V)}
theorem fg_ofN {gs : SG} {G : List D → Wl → Res} (F : FunD K x qual params body scope dvs kws f fd) (S : FnScope N ps scope) (hG : ∀ ds w, ds.length = ps.length → G ds w = runN N.length gs ds w)
    (hb : ∀ (cdv : Value), fd.code = cdv → ∀ (A : Around) (outer : List Env) (s : Shared) (H : Hp) (E : XK), Rg k (A.deeper (envOfC qual scope s.heap.objs.size f cdv)) →
      ∃ t, DSs K (cxOf (L2.CX P w) P w K mg base N qual scope f cdv A outer s H E) (We E) body t gs) : FG P w K mg base (k + 1) f fd ps (spN K ps.length G) := by
  refine fg_sp F S (fun vs H Q E ⟨f, ds, w, _, _, _, _, _, r, hl, _⟩ => r.length.trans hl) fun cdv hcv A outer s H vs Q E hr hsp => ?_
  obtain ⟨fx, ds, wl, rfl, g, hf, tT, tb, r, hl, hw⟩ := hsp
  obtain ⟨t, ht⟩ := hb cdv hcv A outer s fx.H0 E hr
  refine ⟨t, ht.ps, ht.es fx _ wl _ _ _ _ (start_ok g hf tT tb r ?_) ?_⟩
  · have h1 := congrArg List.length S.pre
    rw [List.length_take] at h1
    omega
  · rw [hG ds wl hl] at hw
    unfold runN at hw
    cases q : gs (ds.map .dat ++ List.replicate (N.length - ds.length) .non) wl with
    | rf es w1 =>
      rw [q] at hw
      exact fun a vs F' H' g' n r1 r2 r' => hw (.ref a) F' H' g' ⟨es, a, vs, rfl, rfl, n, r1, r2, r'⟩
    | nx en w1 => rw [q] at hw; exact hw.elim
    | rt d w1 => rw [q] at hw; exact hw.elim
    | bk en w1 => rw [q] at hw; exact hw.elim
    | ct en w1 => rw [q] at hw; exact hw.elim
    | bad => rw [q] at hw; exact hw.elim
    | ex c fn a en w1 => rw [q] at hw; exact hw.elim
end
/-! ### calls -/
/-- the answer of a called def -/
def eFn (n : Nat) (G : List D → Wl → Res) (g : AG) : EG := fun en w => match g en w with
  | .ok ds w1 => if ds.length = n then G ds w1 else .bad
  | .ex c fn a w1 => .ex c fn a w1
  | .bad => .bad
def eFnK (n m : Nat) (pm : List Nat) (G : List D → Wl → Res) (g gk : AG) : EG := fun en w => match g en w with
  | .ok ds w1 => (match gk en w1 with
    | .ok es w2 => if ds.length = n ∧ es.length = m ∧ (permL (ds ++ es) pm).length = n + m then G (permL (ds ++ es) pm) w2 else .bad
    | .ex c fn a w2 => .ex c fn a w2
    | .bad => .bad)
  | .ex c fn a w1 => .ex c fn a w1
  | .bad => .bad
structure DK (K : Kt) (X : Cx) (W : WX) (kws : List Keyword) (t : TA) (g : AG) : Prop where
  pk : PK X kws t
  es : EA K W false t g
section
variable {X : Cx} {W : WX} {K : Kt} {Kf : PySem.W.Frag} {k n : Nat} {f : Addr} {fd : FuncData} {ps ks : List Str} {G : List D → Wl → Res} {x : Str} {p pos kpos : Pos} {e : Expr} {es : List Expr} {kws : List Keyword} {t tk : TA} {g gk : AG} {s : Sg} {te : TE} {ge : EG} {nm : Option Str} {pm : List Nat}
theorem ea_cons (ha : ES K W s te ge) (hr : EA K W false t g) (hs : s ≠ .wk) : EA K W false (tCons te t) (aCons ge g) := by
  intro f en w σ F H Q o h
  refine ha.toSt hs f en w σ F H _ o ?_
  unfold aCons at h
  cases q : ge en w with
  | bad => rw [q] at h; exact h
  | ex c fn a w1 => rw [q] at h; exact h
  | ok d w1 =>
    rw [q] at h
    intro v F1 H1 g1 r1
    refine hr f en w1 σ F1 H1 _ (o.step g1) ?_
    unfold AR.cons at h
    dsimp only at h
    cases q2 : g en w1 with
    | bad => rw [q2] at h; exact h
    | ex c fn a w2 =>
      rw [q2] at h
      exact fun cls dx F' H' g' x => h cls dx F' H' (g1.trans g') x
    | ok ds w2 =>
      rw [q2] at h
      exact fun vs F' H' g' r' => h (v :: vs) F' H' (g1.trans g') (.cons (r1.mono g'.ff) r')
theorem dk_nil : DK K X W [] tNil aNil := ⟨pk_nil, fun f en w σ F H Q o h => h [] F H o.here .nil⟩
theorem dk_cons (ha : DE K X W s e te ge) (hr : DK K X W kws t g) (hs : s ≠ .wk := by decide) : DK K X W (⟨nm, e, kpos⟩ :: kws) (tCons te t) (aCons ge g) := by
  obtain ⟨K0, T0, L0⟩ := K
  cases ha.hK
  exact ⟨pk_cons ha.pe hr.pk, ea_cons ha.es hr.es hs⟩
/-- the callee runs -/
theorem run_fg {pins : List (Addr × Obj)} {σ : St} {H : Hp} {s : Shared} {Q : VK} {args : Args} {us : List Value} {vs : List V} {sp : Sp} (F : FG X.prog X.w X.K X.mg X.base k f fd ps sp) (hr : Rg k X.A) (tk : Takes X W)
    (hb : BindsTo s fd args (ps.zip us)) (I : Inv X pins σ H s) (r : Vals vs us) (h : sp vs H Q (WE W σ)) : wpAny (model X.prog X.w) X.A (call (.ref f) args.pos args.kw) (EP X pins σ Q) X.xe s := by
  refine wpAny_call (codeAny_mono (F.run X.A X.stack s H args us vs Q (WE W σ) hr I.env0 hb r h) fun z s' hz => ?_)
  match z, hz with
  | .error e, hz => exact passAt tk σ pins H s e s' I hz
  | .ok (.ret u), hz => exact I.after hz
theorem sp_of {fx : Fx} {en : List Sl} {w : Wl} {σ : St} {F H : Hp} {Q : VK} {E : XK} {vs : List V} {ds : List D} (o : Ok K fx en w σ F H) (r : DvAll K fx.aw F vs ds) (hl : ds.length = n) (h : Wn .st K fx.aw F H Q E (G ds w)) : spD K n G vs H Q E :=
  ⟨⟨fx.aw, F, H⟩, ds, w, rfl, o.here, o.awF, o.tT, o.tabs, r, hl, h⟩
def tCallG (sp : Sp) (W : WX) (t : TA) : TE := fun σ H Q => t σ H fun vs H1 => sp vs H1 Q (WE W σ)
theorem de_call (F : FG X.prog X.w K X.mg X.base k f fd ps (spD K n G)) (hr : Rg k X.A) (tk : Takes X W) (hg : Gl X x) (hm : X.mg x = some (.ref f)) (hk : PySem.W.keepIn K (.ref f) = true) (hb : Binds K fd ps [])
    (ha : DA K X W false (e :: es) t g) (hdb : (x == ("__debug__" : Str)) = false := by decide) (he : starEach (e :: es) X.env = (false, eval e X.env) :: starEach es X.env := by rfl) (hpl : (backTo pos (starEach es X.env)).any (·.1) = false := by rfl) :
    DE K X W .st (.Call (.Name x p) (e :: es) [] pos) (tCallG (spD K n G) W t) (eFn n G g) := by
  obtain ⟨K0, T0, L0⟩ := K
  cases ha.hK
  refine ⟨rfl, ⟨fun pins s σ H Q I h => ?_⟩, fun fx en w σ F0 H Q o h => ?_⟩
  · refine wpAny_Call_Name_kw (ld_glob I hg hm (PySem.W.callWith_K (h₀ := X.base) I.ok.mod.kin hk (thn (ha.pa.run pos pins s σ H _ I h) fun us s1 ⟨vs, H1, I1, r, q⟩ => ⟨I1.kIn, ?_⟩) he hpl) hdb)
    have hl : us.length = ps.length := r.length.symm.trans (F.len _ _ _ _ q)
    have bb := hb s1 us I1.kIn (by rw [List.append_nil]; exact hl)
    rw [List.append_nil] at bb
    exact run_fg (args := ⟨us, []⟩) F hr tk bb I1 r q
  · refine ha.es fx en w σ F0 H _ o ?_
    unfold eFn at h
    cases q : g en w with
    | bad => rw [q] at h; exact h
    | ex c fn a w1 => rw [q] at h; exact h
    | ok ds w1 =>
      rw [q] at h
      intro vs F1 H1 g1 r1
      dsimp only at h
      by_cases hl : ds.length = n
      · rw [if_pos hl] at h
        exact sp_of (o.step g1) r1 hl (Wn.any h g1)
      · rw [if_neg hl] at h
        exact h.elim
theorem permL_vals {vs : List V} {us : List Value} (r : Vals vs us) (pm : List Nat) : Vals (permL vs pm) (permL us pm) := by
  unfold permL
  induction pm with
  | nil => exact .nil
  | cons i pm ih =>
    rw [List.filterMap_cons, List.filterMap_cons]
    cases q : vs[i]? with
    | none =>
      rw [r.none_of q]
      exact ih
    | some v =>
      obtain ⟨u, e, ru⟩ := r.get q
      rw [e]
      exact .cons ru ih
theorem permL_dv {aw : Bs} {F : Hp} {vs : List V} {ds : List D} (r : DvAll Kf aw F vs ds) (pm : List Nat) : DvAll Kf aw F (permL vs pm) (permL ds pm) := by
  unfold permL
  induction pm with
  | nil => exact .nil
  | cons i pm ih =>
    rw [List.filterMap_cons, List.filterMap_cons]
    cases q : ds[i]? with
    | none =>
      have : vs[i]? = none := by
        rw [List.getElem?_eq_none_iff] at q ⊢
        rw [r.length]
        exact q
      rw [this]
      exact ih
    | some d =>
      obtain ⟨v, e, rv⟩ := r.get q
      rw [e]
      exact .cons rv ih
def tCallGK (sp : Sp) (n m : Nat) (pm : List Nat) (W : WX) (t tk : TA) : TE := fun σ H Q => t σ H fun vs H1 => tk σ H1 fun zs H2 => vs.length = n ∧ zs.length = m ∧ sp (permL (vs ++ zs) pm) H2 Q (WE W σ)
theorem es_callK {m : Nat} (hat : EA K W false t g) (hkt : EA K W false tk gk) {N : Nat} (hN : N = n + m) : ES K W .st (tCallGK (spD K N G) n m pm W t tk) (eFnK n m pm G g gk) := by
  intro fx en w σ F0 H Q o h
  refine hat fx en w σ F0 H _ o ?_
  unfold eFnK at h
  cases q : g en w with
  | bad => rw [q] at h; exact h
  | ex c fn a w1 => rw [q] at h; exact h
  | ok ds w1 =>
    rw [q] at h
    intro vs F1 H1 g1 r1
    dsimp only at h
    refine hkt fx en w1 σ F1 H1 _ (o.step g1) ?_
    cases q2 : gk en w1 with
    | bad => rw [q2] at h; exact h
    | ex c fn a w2 =>
      rw [q2] at h
      exact fun cls dx F' H' g' x => h cls dx F' H' (g1.trans g') x
    | ok es w2 =>
      rw [q2] at h
      dsimp only at h
      intro zs F2 H2 g2 r2
      split at h
      · rename_i hc
        have rr : DvAll K fx.aw F2 (vs ++ zs) (ds ++ es) := (DvAll.mono g2.ff r1).app r2
        exact ⟨(DvAll.length r1).trans hc.1, (DvAll.length r2).trans hc.2.1, sp_of ((o.step g1).step g2) (permL_dv rr pm) (by rw [hN]; exact hc.2.2) (Wn.any h (g1.trans g2))⟩
      · exact h.elim
theorem de_callK0 {N : Nat} (F : FG X.prog X.w K X.mg X.base k f fd ps (spD K N G)) (hr : Rg k X.A) (tk' : Takes X W) (hg : Gl X x) (hm : X.mg x = some (.ref f)) (hk : PySem.W.keepIn K (.ref f) = true) (hb : KBp K fd ps 0 ks pm)
    (hkw : DK K X W kws tk gk) (hN : N = 0 + ks.length) (hall : (backToKw pos (keywordEach kws X.env)).all (·.1.isSome) = true := by rfl) (hks : (backToKw pos (keywordEach kws X.env)).filterMap (·.1) = ks := by rfl)
    (hdb : (x == ("__debug__" : Str)) = false := by decide) (hpl : ((backTo pos (starEach [] X.env)).any (·.1) || (backToKw pos (keywordEach kws X.env)).any (·.1.isNone)) = false := by rfl) (hK : X.K = K.K := by rfl) : DE K X W .st (.Call (.Name x p) [] kws pos) (tCallGK (spD K N G) 0 ks.length pm W tNil tk) (eFnK 0 ks.length pm G aNil gk) := by
  obtain ⟨K0, T0, L0⟩ := K
  cases hK
  refine ⟨rfl, ⟨fun pins s σ H Q I h => ?_⟩, es_callK (da_nil (X := X) (W := W) (bb := false) (hK := rfl)).es hkw.es hN⟩
  refine wpAny_Call_Name_kw (ld_glob I hg hm (PySem.W.callWith_KW0 (h₀ := X.base) I.ok.mod.kin hk hall ?_ hpl) hdb)
  refine thn (hkw.pk.run pos pins s σ H _ I h) fun ws s2 ⟨zs, H2, I2, rz, l1, l2, q2⟩ => ⟨I2.kIn, ?_⟩
  rw [hks]
  exact run_fg (args := ⟨[], ks.zip ws⟩) F hr tk' (hb s2 [] ws I2.kIn rfl (rz.length.symm.trans l2)) I2 (permL_vals (vs := [] ++ zs) rz pm) q2
end
end DL

/-! DL, part h: built-ins. -/
namespace DL
open PySem PySem.Spec L2
open PyProof.Rows hiding St

section
variable {X : Cx} {W : WX} {K : Kt} {Kf : PySem.W.Frag} {s : Sg} {pos p : Pos} {a b c e : Expr} {es : List Expr} {t : TA} {g : AG}
/-- one argument -/
theorem cs_one {r : List V → Hp → VK → Prop} {o : D → Wl → Res} (h : ∀ (aw : Bs) (F H : Hp) (Q : VK) (E : XK) (v : V) (d : D) (w : Wl), Go aw F H F H w → Dq Kf aw F H v d → Wn s Kf aw F H Q E (o d w) → r [v] H Q) :
    CS Kf s r (fun ds w => match ds with | [d] => o d w | _ => .bad) := by
  intro aw F H Q E vs ds w go r hw
  cases ds with
  | nil => exact hw.elim
  | cons d ds =>
    cases ds with
    | nil =>
      obtain ⟨v, rfl, q⟩ := r.one
      exact h aw F H Q E v d w go q hw
    | cons _ _ => exact hw.elim
/-! len -/
def oLen1 : D → Wl → Res := fun d w => match d with
  | .lst ds => .ok (.int ds.length) w
  | .tup ds => .ok (.int ds.length) w
  | .con ds => .ok (.int ds.length) w
  | .str x => if x.length ≤ sizeLine then .ok (.int x.length) w else .bad
  | .scr ns => .ok (.int ns.length) w
  | _ => .bad
def oLen : List D → Wl → Res := fun ds w => match ds with
  | [d] => oLen1 d w
  | _ => .bad
def rLen1 (K : PySem.W.Frag) : List V → Hp → VK → Prop := fun xs H Q => ∃ x n, xs = [x] ∧ LenV K x H n ∧ Q (.int n) H
theorem cs_len : CS Kf .st (rLen1 Kf) oLen := cs_one fun aw F H Q E v d w go q hw => by
  cases d <;> first
    | exact hw.elim
    | skip
  · rename_i x
    have e := q.str
    subst e
    simp only [oLen1] at hw
    split at hw
    · exact ⟨_, x.length, rfl, ⟨by assumption, rfl⟩, Wn.val hw go (.int _)⟩
    · exact hw.elim
  · rename_i ds
    obtain ⟨a, vs, rfl, hv, dv⟩ := q.seq go.sub
    exact ⟨_, ds.length, rfl, .inl ⟨vs, .inl (.inl hv), dv.length.symm⟩, Wn.val (show Wn .st Kf aw F H Q E (.ok (.int ds.length) w) from hw) go (.int _)⟩
  · rename_i ds
    obtain ⟨a, vs, rfl, hv, dv⟩ := q.tupl go.sub
    exact ⟨_, ds.length, rfl, .inr ⟨vs, hv, dv.length.symm⟩, Wn.val (show Wn .st Kf aw F H Q E (.ok (.int ds.length) w) from hw) go (.int _)⟩
  · rename_i ns
    obtain ⟨a, rfl, hv⟩ := q.scr go.sub
    exact ⟨_, ns.length, rfl, .inl ⟨_, hv, by rw [List.length_map]⟩, Wn.val (show Wn .st Kf aw F H Q E (.ok (.int ns.length) w) from hw) go (.int _)⟩
  · rename_i ds
    obtain ⟨a, vs, rfl, hv, dv⟩ := q.conl go.sub
    exact ⟨_, ds.length, rfl, .inr ⟨vs, hv, dv.length.symm⟩, Wn.val (show Wn .st Kf aw F H Q E (.ok (.int ds.length) w) from hw) go (.int _)⟩
theorem de_len (hg : Gl X "len") (hm : X.mg "len" = none) (ha : DA K X W true [a] t g) (he : starEach [a] X.env = (false, eval a X.env) :: starEach [] X.env := by rfl) (hpl : (backTo pos (starEach [] X.env)).any (·.1) = false := by rfl) :
    DE K X W .st (.Call (.Name "len" p) [a] [] pos) (tCB (rLen1 K) t) (eCall oLen g) := by
  obtain ⟨K0, T0, L0⟩ := K
  cases ha.hK
  exact de_callB call_len cs_len hg hm boot_len ha (by decide) (by decide) he hpl
/-! tuple(x), list(x) -/
def oTup1 : D → Wl → Res := fun d w => match d with
  | .lst ds => .ok (.tup ds) w
  | .tup ds => .ok (.tup ds) w
  | _ => .bad
def oTup : List D → Wl → Res := fun ds w => match ds with
  | [d] => oTup1 d w
  | _ => .bad
def rTupOf (K : PySem.W.Frag) : List V → Hp → VK → Prop := fun xs H Q => ∃ p ys, xs = [.ref p] ∧ ((SqL K H p ys ∧ ∀ l, H l = none → Q (.ref l) (upd H l (.tup ys))) ∨ (SqT K H p ys ∧ Q (.ref p) H))
theorem cs_tup : CS Kf .st (rTupOf Kf) oTup := cs_one fun aw F H Q E v d w go q hw => by
  cases d <;> first
    | exact hw.elim
    | skip
  · rename_i ds
    obtain ⟨a, vs, rfl, hv, dv⟩ := q.seq go.sub
    exact ⟨a, vs, rfl, .inl ⟨.inl (.inl hv), Wn.tupNew (show Wn .st Kf aw F H Q E (.ok (.tup ds) w) from hw) go dv⟩⟩
  · rename_i ds
    have hw' : Wn .st Kf aw F H Q E (.ok (.tup ds) w) := hw
    rcases q with q | ⟨_, _, _, z, _⟩
    · cases q with
      | tup hv dv => exact ⟨_, _, rfl, .inr ⟨SqT.of (go.sub _ _ hv), Wn.val hw' go (.tup hv dv)⟩⟩
    · cases z
theorem de_tuple (hg : Gl X "tuple") (hm : X.mg "tuple" = none) (ha : DA K X W true [a] t g) (he : starEach [a] X.env = (false, eval a X.env) :: starEach [] X.env := by rfl) (hpl : (backTo pos (starEach [] X.env)).any (·.1) = false := by rfl) :
    DE K X W .st (.Call (.Name "tuple" p) [a] [] pos) (tCB (rTupOf K) t) (eCall oTup g) := by
  obtain ⟨K0, T0, L0⟩ := K
  cases ha.hK
  exact de_callT call_tuple_of cs_tup hg hm (by decide +kernel) ha (by decide) (by decide) he hpl
def oLst1 : D → Wl → Res := fun d w => match d with
  | .lst ds => .ok (.lst ds) w
  | .tup ds => .ok (.lst ds) w
  | _ => .bad
def oLst : List D → Wl → Res := fun ds w => match ds with
  | [d] => oLst1 d w
  | _ => .bad
def rLstOf (K : PySem.W.Frag) : List V → Hp → VK → Prop := fun xs H Q => ∃ p ys, xs = [.ref p] ∧ (SqL K H p ys ∨ SqT K H p ys) ∧ ∀ l, H l = none → Q (.ref l) (upd H l (.lst ys))
theorem cs_lst : CS Kf .fr (rLstOf Kf) oLst := cs_one fun aw F H Q E v d w go q hw => by
  cases d <;> first
    | exact hw.elim
    | skip
  · rename_i ds
    obtain ⟨a, vs, rfl, hv, dv⟩ := q.seq go.sub
    exact ⟨a, vs, rfl, .inl (.inl (.inl hv)), Wn.lstNew (show Wn .fr Kf aw F H Q E (.ok (.lst ds) w) from hw) go dv⟩
  · rename_i ds
    obtain ⟨a, vs, rfl, hv, dv⟩ := q.tupl go.sub
    exact ⟨a, vs, rfl, .inr hv, Wn.lstNew (show Wn .fr Kf aw F H Q E (.ok (.lst ds) w) from hw) go dv⟩
theorem de_list (hg : Gl X "list") (hm : X.mg "list" = none) (ha : DA K X W true [a] t g) (he : starEach [a] X.env = (false, eval a X.env) :: starEach [] X.env := by rfl) (hpl : (backTo pos (starEach [] X.env)).any (·.1) = false := by rfl) :
    DE K X W .fr (.Call (.Name "list" p) [a] [] pos) (tCB (rLstOf K) t) (eCall oLst g) := by
  obtain ⟨K0, T0, L0⟩ := K
  cases ha.hK
  exact de_callT call_list_of cs_lst hg hm (by decide +kernel) ha (by decide) (by decide) he hpl
/-! sum, all, any, max, min -/
def oSum1 : D → Wl → Res := fun d w => match d with
  | .lst ds => (match allInts ds with
    | some ns => .ok (.int ns.sum) w
    | none => .bad)
  | _ => .bad
def oSum : List D → Wl → Res := fun ds w => match ds with
  | [d] => oSum1 d w
  | _ => .bad
theorem cs_sum : CS Kf .st (rSum Kf) oSum := cs_one fun aw F H Q E v d w go q hw => by
  cases d <;> first
    | exact hw.elim
    | skip
  rename_i ds
  obtain ⟨a, vs, rfl, hv, dv⟩ := q.seq go.sub
  simp only [oSum1] at hw
  cases z : allInts ds with
  | none => rw [z] at hw; exact hw.elim
  | some ns =>
    rw [z] at hw
    rw [vals_ints dv z] at hv
    exact ⟨a, ns, rfl, .inl (.inl hv), Wn.val hw go (.int _)⟩
theorem de_sum (hc : X.calm = true) (hg : Gl X "sum") (hm : X.mg "sum" = none) (ha : DA K X W true [a] t g) (he : starEach [a] X.env = (false, eval a X.env) :: starEach [] X.env := by rfl) (hpl : (backTo pos (starEach [] X.env)).any (·.1) = false := by rfl) :
    DE K X W .st (.Call (.Name "sum" p) [a] [] pos) (tCB (rSum K) t) (eCall oSum g) := by
  obtain ⟨K0, T0, L0⟩ := K
  cases ha.hK
  exact de_callB (cr_sum hc) cs_sum hg hm (by decide +kernel) ha (by decide) (by decide) he hpl
def allBls : List D → Option (List Bool)
  | [] => some []
  | .bl b :: r => (allBls r).map (b :: ·)
  | _ :: _ => none
theorem vals_bls {aw : Bs} {F : Hp} : ∀ {vs : List V} {ds : List D} {ns : List Bool}, DvAll Kf aw F vs ds → allBls ds = some ns → vs = ns.map V.bl
  | _, _, _, .nil, h => by
    cases h
    rfl
  | _, _, ns, .cons (d := .bl i) (ds := ds) x y, h => by
    cases x
    cases q : allBls ds with
    | none =>
      simp only [allBls, q, Option.map_none] at h
      cases h
    | some ms =>
      simp only [allBls, q, Option.map_some, Option.some.injEq] at h
      subst h
      rw [vals_bls y q]
      rfl
  | _, _, ns, .cons (d := .non) x y, h => nomatch h
  | _, _, ns, .cons (d := .int _) x y, h => nomatch h
  | _, _, ns, .cons (d := .str _) x y, h => nomatch h
  | _, _, ns, .cons (d := .lst _) x y, h => nomatch h
  | _, _, ns, .cons (d := .tup _) x y, h => nomatch h
  | _, _, ns, .cons (d := .well) x y, h => nomatch h
  | _, _, ns, .cons (d := .ty _) x y, h => nomatch h
  | _, _, ns, .cons (d := .fn _) x y, h => nomatch h
  | _, _, ns, .cons (d := .rng _ _) x y, h => nomatch h
  | _, _, ns, .cons (d := .hol _) x y, h => nomatch h
  | _, _, ns, .cons (d := .scr _) x y, h => nomatch h
def oAll1 : D → Wl → Res := fun d w => match d with
  | .lst ds => (match allBls ds with
    | some ns => .ok (.bl (ns.all id)) w
    | none => .bad)
  | _ => .bad
def oAll : List D → Wl → Res := fun ds w => match ds with
  | [d] => oAll1 d w
  | _ => .bad
theorem cs_all : CS Kf .st (rAll Kf) oAll := cs_one fun aw F H Q E v d w go q hw => by
  cases d <;> first
    | exact hw.elim
    | skip
  rename_i ds
  obtain ⟨a, vs, rfl, hv, dv⟩ := q.seq go.sub
  simp only [oAll1] at hw
  cases z : allBls ds with
  | none => rw [z] at hw; exact hw.elim
  | some ns =>
    rw [z] at hw
    rw [vals_bls dv z] at hv
    exact ⟨a, ns, rfl, .inl (.inl hv), Wn.val hw go (.bl _)⟩
theorem de_all (hc : X.calm = true) (hg : Gl X "all") (hm : X.mg "all" = none) (ha : DA K X W true [a] t g) (he : starEach [a] X.env = (false, eval a X.env) :: starEach [] X.env := by rfl) (hpl : (backTo pos (starEach [] X.env)).any (·.1) = false := by rfl) :
    DE K X W .st (.Call (.Name "all" p) [a] [] pos) (tCB (rAll K) t) (eCall oAll g) := by
  obtain ⟨K0, T0, L0⟩ := K
  cases ha.hK
  exact de_callB (cr_all hc) cs_all hg hm (by decide +kernel) ha (by decide) (by decide) he hpl
/-- the greatest, the least -/
def maxL : List Int → Int
  | [] => 0
  | [x] => x
  | x :: r => if maxL r < x then x else maxL r
def minL : List Int → Int
  | [] => 0
  | [x] => x
  | x :: r => if x < minL r then x else minL r
theorem maxL_spec : ∀ ns : List Int, ns ≠ [] → maxL ns ∈ ns ∧ ∀ y ∈ ns, y ≤ maxL ns
  | [], h => absurd rfl h
  | [x], _ => ⟨by simp [maxL], by simp [maxL]⟩
  | x :: z :: r, _ => by
    obtain ⟨h1, h2⟩ := maxL_spec (z :: r) (by simp)
    show (if maxL (z :: r) < x then x else maxL (z :: r)) ∈ x :: z :: r ∧ ∀ y ∈ x :: z :: r, y ≤ (if maxL (z :: r) < x then x else maxL (z :: r))
    split
    · refine ⟨by simp, fun y hy => ?_⟩
      rcases List.mem_cons.mp hy with rfl | hy
      · omega
      · have := h2 y hy
        omega
    · refine ⟨List.mem_cons_of_mem _ h1, fun y hy => ?_⟩
      rcases List.mem_cons.mp hy with rfl | hy
      · omega
      · exact h2 y hy
theorem minL_spec : ∀ ns : List Int, ns ≠ [] → minL ns ∈ ns ∧ ∀ y ∈ ns, minL ns ≤ y
  | [], h => absurd rfl h
  | [x], _ => ⟨by simp [minL], by simp [minL]⟩
  | x :: z :: r, _ => by
    obtain ⟨h1, h2⟩ := minL_spec (z :: r) (by simp)
    show (if x < minL (z :: r) then x else minL (z :: r)) ∈ x :: z :: r ∧ ∀ y ∈ x :: z :: r, (if x < minL (z :: r) then x else minL (z :: r)) ≤ y
    split
    · refine ⟨by simp, fun y hy => ?_⟩
      rcases List.mem_cons.mp hy with rfl | hy
      · omega
      · have := h2 y hy
        omega
    · refine ⟨List.mem_cons_of_mem _ h1, fun y hy => ?_⟩
      rcases List.mem_cons.mp hy with rfl | hy
      · omega
      · exact h2 y hy
/-! abs, int, str, divmod, type -/
def oAbs : List D → Wl → Res := fun ds w => match ds with
  | [.int i] => .ok (.int (if i < 0 then -i else i)) w
  | _ => .bad
def rAbs : List V → Hp → VK → Prop := fun xs H Q => ∃ i, xs = [.int i] ∧ Q (.int (if i < 0 then -i else i)) H
theorem cs_abs : CS Kf .st rAbs oAbs := by
  intro aw F H Q E vs ds w go r hw
  unfold oAbs at hw
  split at hw
  · obtain ⟨v, rfl, q⟩ := r.one
    have e := q.int
    subst e
    exact ⟨_, rfl, Wn.val hw go (.int _)⟩
  · exact hw.elim
theorem de_abs (hg : Gl X "abs") (hm : X.mg "abs" = none) (ha : DA K X W true [a] t g) (he : starEach [a] X.env = (false, eval a X.env) :: starEach [] X.env := by rfl) (hpl : (backTo pos (starEach [] X.env)).any (·.1) = false := by rfl) :
    DE K X W .st (.Call (.Name "abs" p) [a] [] pos) (tCB rAbs t) (eCall oAbs g) := by
  obtain ⟨K0, T0, L0⟩ := K
  cases ha.hK
  exact de_callB call_abs cs_abs hg hm (by decide +kernel) ha (by decide) (by decide) he hpl
def rInt1 : List V → Hp → VK → Prop := fun xs H Q => (∃ i, xs = [.int i] ∧ Q (.int i) H) ∨ ∃ k, xs = [.bl k] ∧ Q (.int (if k then 1 else 0)) H
theorem cs_int : CS Kf .st rInt1 oInt := by
  intro aw F H Q E vs ds w go r hw
  unfold oInt at hw
  split at hw
  · obtain ⟨v, rfl, q⟩ := r.one
    have e := q.int
    subst e
    exact .inl ⟨_, rfl, Wn.val hw go (.int _)⟩
  · obtain ⟨v, rfl, q⟩ := r.one
    have e := q.bl
    subst e
    exact .inr ⟨_, rfl, Wn.val hw go (.int _)⟩
  · exact hw.elim
theorem de_intOf (hg : Gl X "int") (hm : X.mg "int" = none) (ha : DA K X W true [a] t g) (he : starEach [a] X.env = (false, eval a X.env) :: starEach [] X.env := by rfl) (hpl : (backTo pos (starEach [] X.env)).any (·.1) = false := by rfl) :
    DE K X W .st (.Call (.Name "int" p) [a] [] pos) (tCB rInt1 t) (eCall oInt g) := by
  obtain ⟨K0, T0, L0⟩ := K
  cases ha.hK
  exact de_callT call_int1 cs_int hg hm (by decide +kernel) ha (by decide) (by decide) he hpl
def D.tyName : D → Option String
  | .non => some "NoneType"
  | .bl _ => some "bool"
  | .int _ => some "int"
  | .str _ => some "str"
  | .lst _ => some "list"
  | .tup _ => some "tuple"
  | .con _ => some "tuple"
  | _ => none
def oType1 : D → Wl → Res := fun d w => match d.tyName with
  | some n => .ok (.ty n) w
  | none => .bad
def oType : List D → Wl → Res := fun ds w => match ds with
  | [d] => oType1 d w
  | _ => .bad
theorem cs_type : CS Kf .st (rTyp Kf) oType := cs_one fun aw F H Q E v d w go q hw => by
  cases d <;> first
    | exact hw.elim
    | skip
  · exact ⟨_, _, rfl, by rw [q.non]; exact .non, Wn.val (show Wn .st Kf aw F H Q E (.ok (.ty "NoneType") w) from hw) go (.ty _)⟩
  · exact ⟨_, _, rfl, by rw [q.bl]; exact .bl _, Wn.val (show Wn .st Kf aw F H Q E (.ok (.ty "bool") w) from hw) go (.ty _)⟩
  · exact ⟨_, _, rfl, by rw [q.int]; exact .int _, Wn.val (show Wn .st Kf aw F H Q E (.ok (.ty "int") w) from hw) go (.ty _)⟩
  · exact ⟨_, _, rfl, by rw [q.str]; exact .str _, Wn.val (show Wn .st Kf aw F H Q E (.ok (.ty "str") w) from hw) go (.ty _)⟩
  · obtain ⟨a, vs, rfl, hv, dv⟩ := q.seq go.sub
    exact ⟨_, _, rfl, .lst (.inl (.inl hv)), Wn.val (show Wn .st Kf aw F H Q E (.ok (.ty "list") w) from hw) go (.ty _)⟩
  · obtain ⟨a, vs, rfl, hv, dv⟩ := q.tupl go.sub
    exact ⟨_, _, rfl, .tup hv, Wn.val (show Wn .st Kf aw F H Q E (.ok (.ty "tuple") w) from hw) go (.ty _)⟩
  · obtain ⟨a, vs, rfl, hv, dv⟩ := q.conl go.sub
    exact ⟨_, _, rfl, .tup hv, Wn.val (show Wn .st Kf aw F H Q E (.ok (.ty "tuple") w) from hw) go (.ty _)⟩
theorem de_type (hg : Gl X "type") (hm : X.mg "type" = none) (ha : DA K X W true [a] t g) (he : starEach [a] X.env = (false, eval a X.env) :: starEach [] X.env := by rfl) (hpl : (backTo pos (starEach [] X.env)).any (·.1) = false := by rfl) :
    DE K X W .st (.Call (.Name "type" p) [a] [] pos) (tCB (rTyp K) t) (eCall oType g) := by
  obtain ⟨K0, T0, L0⟩ := K
  cases ha.hK
  exact de_callT call_type1 cs_type hg hm (by decide +kernel) ha (by decide) (by decide) he hpl
/-! repr -/
def oRepr1 : D → Wl → Res := fun d w => if d.isP && d.toP.showable && decide (d.toP.shown.length ≤ sizeLine) && decide (d.toP.depth ≤ 60) then .ok (.str d.toP.shown) w else .bad
def oRepr : List D → Wl → Res := fun ds w => match ds with
  | [d] => oRepr1 d w
  | _ => .bad
end
end DL

/-! DL, part i: a def of data by its name; repr. -/
namespace DL
open PySem PySem.Spec L2
open PyProof.Rows hiding St

/-- the def of the module's name x answers G of n data, by k calls within one another at most -/
def Cl (P : Program) (w : World) (K : Kt) (mg : Str → Option Value) (base : Heap) (k : Nat) (x : Str) (n : Nat) (G : List D → Wl → Res) : Prop :=
  ∃ (fd : FuncData) (ps : List Str), FG P w K mg base k (He.ga K x) fd ps (spD K n G) ∧ mg x = some (.ref (He.ga K x)) ∧ PySem.W.keepIn K (.ref (He.ga K x)) = true ∧ Binds K fd ps []
/-- .. and by keywords ks behind m positional ones -/
def ClK (P : Program) (w : World) (K : Kt) (mg : Str → Option Value) (base : Heap) (k : Nat) (x : Str) (n : Nat) (G : List D → Wl → Res) (m : Nat) (ks : List Str) (pm : List Nat) : Prop :=
  ∃ (fd : FuncData) (ps : List Str), FG P w K mg base k (He.ga K x) fd ps (spD K n G) ∧ mg x = some (.ref (He.ga K x)) ∧ PySem.W.keepIn K (.ref (He.ga K x)) = true ∧ KBp K fd ps m ks pm
section
variable {P : Program} {w : World} {K : Kt} {Kf : PySem.W.Frag} {mg : Str → Option Value} {base : Heap} {k j m n : Nat} {x y : Str} {G : List D → Wl → Res} {params : Arguments} {body : List Stmt} {scope : Scope} {N ps ks : List Str} {pm : List Nat} {fd : FuncData} {f : Addr}
variable {X : Cx} {W : WX} {p pos : Pos} {e : Expr} {es : List Expr} {kws : List Keyword} {t tk' : TA} {g gk : AG}
theorem de_c (C : Cl X.prog X.w K X.mg X.base j x n G) (hr : Rg k X.A) (tk : Takes X W) (hk : j ≤ k) (hg : Gl X x) (ha : DA K X W false (e :: es) t g)
    (hdb : (x == ("__debug__" : Str)) = false := by decide) (he : starEach (e :: es) X.env = (false, eval e X.env) :: starEach es X.env := by rfl) (hpl : (backTo pos (starEach es X.env)).any (·.1) = false := by rfl) :
    DE K X W .st (.Call (.Name x p) (e :: es) [] pos) (tCallG (spD K n G) W t) (eFn n G g) := by
  obtain ⟨K0, T0, L0⟩ := K
  cases ha.hK
  obtain ⟨fd, ps, F, hm, kp, hb⟩ := C
  exact de_call F (hr.mono hk) tk hg hm kp hb ha hdb he hpl
theorem de_cK0 (C : ClK X.prog X.w K X.mg X.base j x n G 0 ks pm) (hr : Rg k X.A) (tk : Takes X W) (hk : j ≤ k) (hg : Gl X x) (hkw : DK K X W kws tk' gk) (hN : n = 0 + ks.length := by rfl)
    (hall : (backToKw pos (keywordEach kws X.env)).all (·.1.isSome) = true := by rfl) (hks : (backToKw pos (keywordEach kws X.env)).filterMap (·.1) = ks := by rfl)
    (hdb : (x == ("__debug__" : Str)) = false := by decide) (hpl : ((backTo pos (starEach [] X.env)).any (·.1) || (backToKw pos (keywordEach kws X.env)).any (·.1.isNone)) = false := by rfl) (hK : X.K = K.K := by rfl) : DE K X W .st (.Call (.Name x p) [] kws pos) (tCallGK (spD K n G) 0 ks.length pm W tNil tk') (eFnK 0 ks.length pm G aNil gk) := by
  obtain ⟨K0, T0, L0⟩ := K
  cases hK
  obtain ⟨fd, ps, F, hm, kp, hb⟩ := C
  exact de_callK0 F (hr.mono hk) tk hg hm kp hb hkw hN hall hks hdb hpl
end

/-! ### repr -/
mutual
theorem toP_noDict : ∀ d : D, d.toP.hasDict = false
  | .non => rfl
  | .bl _ => rfl
  | .int _ => rfl
  | .str _ => rfl
  | .lst xs => by simp only [D.toP, PyData.hasDict]; exact toPs_noDict xs
  | .tup xs => by simp only [D.toP, PyData.hasDict]; exact toPs_noDict xs
  | .well => rfl
  | .ty _ => rfl
  | .fn _ => rfl
  | .rng _ _ => rfl
  | .hol _ => rfl
  | .scr _ => rfl
  | .con xs => by simp only [D.toP, PyData.hasDict]; exact toPs_noDict xs
theorem toPs_noDict : ∀ ds : List D, PyData.hasDictAll (toPs ds) = false
  | [] => rfl
  | d :: ds => by simp only [toPs, PyData.hasDictAll, toP_noDict d, toPs_noDict ds, Bool.or_false]
end
section
variable {X : Cx} {W : WX} {K : Kt} {Kf : PySem.W.Frag} {s : Sg} {pos p : Pos} {a : Expr} {t : TA} {g : AG}
def rRepr (K : PySem.W.Frag) : List V → Hp → VK → Prop := fun xs H Q => ∃ v d, xs = [v] ∧ Dp K H v d ∧ d.showable = true ∧ d.hasDict = false ∧ d.shown.length ≤ sizeLine ∧ d.depth ≤ 60 ∧ Q (.str d.shown) H
theorem call_repr (hg : X.A.guards = some []) (hu : X.A.units + 65 < cLine) : CallR X (.builtin "repr") (rRepr X.K) := by
  intro pins s σ H xs us Q I r h
  obtain ⟨v, d, rfl, hd, hs, hn, hz, hdp, q⟩ := h
  obtain ⟨u, rfl, ru⟩ := vals1 r
  obtain ⟨as, rd⟩ := hd.reads I d v u ru
  have fin : ∀ tk u', EP X pins σ Q (.str d.shown u') { s with toks := tk } := fun tk u' => ⟨.str _, H, I.tok _, ⟨_, rfl⟩, q⟩
  cases hd with
  | non =>
    cases ru
    exact PySem.P.repr_of_none (fin _ _)
  | bl b =>
    cases ru
    exact PySem.P.repr_of_bool (fin _ _)
  | int i =>
    obtain ⟨tk, rfl⟩ := ru
    exact PySem.P.repr_of_int (of_decide_eq_true hs) (fin _ _)
  | str x =>
    obtain ⟨tk, rfl⟩ := ru
    exact PySem.P.repr_of_str (fin _ _) hz
  | @lst b xs ds h1 h2 =>
    cases ru
    exact repr_of_reads' rd hs (fun z => absurd (hn.symm.trans z) (by decide)) hg (by omega) (fun _ _ z => z) (fun h' u' tk hk => ⟨.str _, H, I.kept hk, ⟨_, rfl⟩, q⟩) hz
  | @tup b xs ds h1 h2 =>
    cases ru
    exact repr_of_reads' rd hs (fun z => absurd (hn.symm.trans z) (by decide)) hg (by omega) (fun _ _ z => z) (fun h' u' tk hk => ⟨.str _, H, I.kept hk, ⟨_, rfl⟩, q⟩) hz
theorem cs_repr : CS Kf .st (rRepr Kf) oRepr := cs_one fun aw F H Q E v d w go q hw => by
  simp only [oRepr1] at hw
  split at hw
  · rename_i hc
    simp only [Bool.and_eq_true, decide_eq_true_eq] at hc
    obtain ⟨⟨⟨h1, h2⟩, h3⟩, h4⟩ := hc
    exact ⟨v, d.toP, rfl, q.dp go.sub h1, h2, toP_noDict d, h3, h4, Wn.val hw go (.str _)⟩
  · exact hw.elim
theorem de_repr {k : Nat} (hr : Rg k X.A) (hg : Gl X "repr") (hm : X.mg "repr" = none) (ha : DA K X W true [a] t g) (he : starEach [a] X.env = (false, eval a X.env) :: starEach [] X.env := by rfl) (hpl : (backTo pos (starEach [] X.env)).any (·.1) = false := by rfl) :
    DE K X W .st (.Call (.Name "repr" p) [a] [] pos) (tCB (rRepr K) t) (eCall oRepr g) := by
  obtain ⟨K0, T0, L0⟩ := K
  cases ha.hK
  exact de_callB (call_repr hr.gd hr.u) cs_repr hg hm (by decide +kernel) ha (by decide) (by decide) he hpl
end
end DL

/-! DL, part k: the generator's own statement, code that is never reached, chains as tests, own comprehensions. -/
namespace DL
open PySem PySem.Spec L2
open PyProof.Rows hiding St

def sNever : SG := fun _ _ => .bad
/-- so many turns as the int at slot i, and one -/
def fuInt (i : Nat) : List Sl → Nat := fun en => match en[i]? with
  | some (.dat (.int n)) => n.toNat + 1
  | _ => 0
def rDivmod : List V → Hp → VK → Prop := fun xs H Q => ∃ i j, xs = [.int i, .int j] ∧ CDiv i j ∧ ∀ p, H p = none → Q (.ref p) (upd H p (.tup [.int (i / j), .int (i % j)]))
section
variable {X : Cx} {W : WX} {K : Kt} {Kf : PySem.W.Frag} {s s1 s2 s3 : Sg} {pos p : Pos} {a b c e : Expr} {es : List Expr} {t : TA} {g : AG} {ta tb tc : TE} {ga gb gc : EG} {st : Stmt} {sts : List Stmt} {x y : Str}
theorem ds_never : DS K X W st tNever sNever := ⟨ps_never, fun f en w σ F H Dn o h => h.elim⟩
theorem dt_lele (ha : DE K X W s1 a ta ga) (hb : DE K X W s2 b tb gb) (hc : DE K X W s3 c tc gc) : DT K X W (.Compare a [.LtE, .LtE] [b, c] pos) (tTest (tChain rLeI rLeI ta tb tc)) (eChain oLe oLe ga gb gc) := by
  obtain ⟨K0, T0, L0⟩ := K
  cases ha.hK
  exact ⟨pt_chain op_le op_le ha.pe hb.pe hc.pe (nomark _), es_test (de_lele (pos := pos) ha hb hc).es⟩
/-- x[k], y = divmod(a, b) -/
theorem ds_take (i j : Nat) {kx : Expr} {tk : TE} {gk : EG} {px p2 py pt pd pc : Pos} {kt} (hN : X.N.Nodup) (hc : X.calm = true) (hg : Gl X "divmod") (hm : X.mg "divmod" = none) (hk : DE K X W s3 kx tk gk) (ha : DE K X W s1 a ta ga) (hb : DE K X W s2 b tb gb)
    (hi : X.N[i]? = some x := by rfl) (hv : Vis X.env.scope x := by first | exact Or.inl rfl | exact Or.inr (Or.inl rfl) | exact Or.inr (Or.inr rfl)) (hd : (x == ("__debug__" : Str)) = false := by decide) (hcd : (x == ("__classdict__" : Str)) = false := by decide)
    (hj : X.N[j]? = some y := by rfl) (hy : Loc X.env.scope y := by first | exact Or.inl rfl | exact Or.inr rfl) (hf : X.fn y = true ∨ X.env.scope.names.lookup y = some .local := by first | exact .inl rfl | exact .inr rfl)
    (he : starEach [a, b] X.env = (false, eval a X.env) :: starEach [b] X.env := by rfl) (he2 : starEach [b] X.env = (false, eval b X.env) :: starEach [] X.env := by rfl) (hpl : (backTo pc (starEach [b] X.env)).any (·.1) = false := by rfl)
    (has : ∀ v, assign (.Subscript (.Name x px) kx p2) X.env v = (do
      let ov ← holding [v] (eval (.Name x px) X.env)
      let iv ← holding [v, ov] (eval kx X.env)
      standAt p2
      holding [v, ov, iv] (setItem ov iv v)
      release [v, ov, iv] []) := by intro _; rfl)
    (hs1 : (assignEach [.Subscript (.Name x px) kx p2, .Name y py] X.env).map (·.2) = assign (.Subscript (.Name x px) kx p2) X.env :: (assignEach [.Name y py] X.env).map (·.2) := by rfl)
    (hs2 : (assignEach [.Name y py] X.env).map (·.2) = assign (.Name y py) X.env :: (assignEach [] X.env).map (·.2) := by rfl)
    (hn : (assignEach [.Subscript (.Name x px) kx p2, .Name y py] X.env).length = 2 := by rfl) (hst : (assignEach [.Subscript (.Name x px) kx p2, .Name y py] X.env).findIdx? (·.1) = none := by rfl)
    (hsw : swapsWithSole [.Tuple [.Subscript (.Name x px) kx p2, .Name y py] kt pt] (.Call (.Name "divmod" pd) [a, b] [] pc) pos.line X.env = pure false := by rfl)
    (hw : swappedStores [.Tuple [.Subscript (.Name x px) kx p2, .Name y py] kt pt] (.Call (.Name "divmod" pd) [a, b] [] pc) X.env = pure none := by rfl)
    (h1 : (assignEach [.Tuple [.Subscript (.Name x px) kx p2, .Name y py] kt pt] X.env).map (·.2) = [assign (.Tuple [.Subscript (.Name x px) kx p2, .Name y py] kt pt) X.env] := by rfl) :
    DS K X W (.Assign [.Tuple [.Subscript (.Name x px) kx p2, .Name y py] kt pt] (.Call (.Name "divmod" pd) [a, b] [] pc) pos)
      (tAsg (tCB rDivmod (tCons ta (tCons tb tNil))) (gTup K 2 (gCons (gSub (tVar i) tk rSetL) (gCons (gName j) gNil)))) (sTake i j gk ga gb) := by
  obtain ⟨K0, T0, L0⟩ := K
  cases hk.hK
  refine ⟨ps_asg (pe_callB call_divmod hg hm (by decide +kernel) (pa_cons ha.pe (pa_cons hb.pe pa_nil he2) he) (by decide) (by decide) he hpl)
    (pg_tup hc (pgs_cons (pg_sub (pe_var hi hv hd hcd) hk.pe set_list has) (pgs_cons (pg_name hN hj hy hf) pgs_nil hs2) hs1) hn hst) hsw hw h1, fun f en w σ F H Dn o h => ?_⟩
  unfold sTake at h
  cases q : en[i]? with
  | none => rw [q] at h; exact h.elim
  | some sl =>
    cases sl with
    | non => rw [q] at h; exact h.elim
    | hol => rw [q] at h; exact h.elim
    | dic _ => rw [q] at h; exact h.elim
    | own ds => rw [q] at h; exact h.elim
    | dat dd =>
      cases dd <;> first
        | (rw [q] at h; exact h.elim)
        | skip
      rw [q] at h
      dsimp only at h
      refine es_thn (s := .wk) (R := fun v H1 => tb σ H1 fun u H2 => rDivmod [v, u] H2 fun z H3 => gTup X.K 2 (gCons (gSub (tVar i) tk rSetL) (gCons (gName j) gNil)) z σ H3 Dn.nx) ha.es.toWk o h fun d w1 v F1 H1 g1 o1 r1 h1' => ?_
      refine es_thn (s := .wk) (R := fun u H2 => rDivmod [v, u] H2 fun z H3 => gTup X.K 2 (gCons (gSub (tVar i) tk rSetL) (gCons (gName j) gNil)) z σ H3 Dn.nx) hb.es.toWk o1 h1' fun e' w2 u F2 H2 g2 o2 r2 h2' => ?_
      cases d <;> cases e' <;> first
        | exact h2'.elim
        | skip
      rename_i m n
      have e1 := (Dq.go (show Dq _ f.aw F1 H1 v (.int m) from r1) g2).int
      have e2 := (show Dq _ f.aw F2 H2 u (.int n) from r2).int
      subst e1 e2
      dsimp only at h2'
      split at h2'
      · rename_i hcd'
        refine ⟨m, n, rfl, hcd', fun pp hpp => ?_⟩
        have o3 : Ok _ f en w2 σ (upd F2 pp (.tup [.int (m / n), .int (m % n)])) (upd H2 pp (.tup [.int (m / n), .int (m % n)])) := o2.step (o2.here.new hpp _)
        refine ⟨pp, _, rfl, .inl (.inl upd_same), rfl, _, _, rfl, ?_⟩
        obtain ⟨uu, eu, ru⟩ := o3.dat i _ q
        obtain ⟨qa, hqa, rfl⟩ := Dq.well (F := upd F2 pp (.tup [.int (m / n), .int (m % n)])) (H := upd H2 pp (.tup [.int (m / n), .int (m % n)])) (.inl ru)
        refine ⟨_, eu, ?_⟩
        refine es_thn (s := .wk) (R := fun iv H4 => rSetL (.ref qa) iv (.int (m / n)) H4 fun H5 => gCons (gName j) gNil [.int (m % n)] σ H5 Dn.nx) hk.es.toWk o3 h2' fun kd w3 iv F4 H4 g4 o4 r4 h4 => ?_
        cases kd <;> first
          | exact h4.elim
          | skip
        rename_i ki
        have e4 := (show Dq _ f.aw F4 H4 iv (.int ki) from r4).int
        subst e4
        dsimp only at h4
        cases z : ixN w3.length ki with
        | none => rw [z] at h4; exact h4.elim
        | some jx =>
          rw [z] at h4
          refine ⟨qa, w3.map V.int, ki, jx, rfl, rfl, o4.go.wl _ hqa, by rw [List.length_map]; exact z, ?_⟩
          refine ⟨_, _, rfl, rfl, ?_⟩
          have o5 := (o4.turn hqa (w3.set jx (m / n))).setDat (i := j) (v := .int (m % n)) (d := .int (m % n)) (.int _)
          have fin := h4 _ _ _ o5
          rw [List.map_set] at fin
          exact fin
      · exact h2'.elim
end
end DL

/-! DL, part m: enumerate of tuples, zip. -/
namespace DL
open PySem PySem.Spec L2
open PyProof.Rows hiding St
open PySem.AutoSeq1 (wpAny_loadPart')
/-! ### enumerate(tuple) -/
theorem mk_enumT (tp : Addr) (zs : Array Value) (m : Nat) (dc : Option Addr) (sl : Array (Option Value)) :
    Meets (Builtin.«enumerate.__new__» ⟨[.type "enumerate", .ref tp], []⟩) (fun _ R s =>
      s.heap.get? tp = some { cls := .type "tuple", dict := dc, data := .seq zs m, slots := sl } ∧ R (.ok (.ret (.ref (s.heap.push { cls := .type "tuple_iterator", data := .fields #[.ref tp, .int 0 0] }).objs.size)))
        { s with heap := (s.heap.push { cls := .type "tuple_iterator", data := .fields #[.ref tp, .int 0 0] }).push { cls := .type "enumerate", data := .fields #[.none, .bool false, .ref s.heap.objs.size, rawInt 0, .none, .none] } }) :=
  .of_wp fun prog w A R s h => by
    obtain ⟨hp, g, d, tk, os⟩ := s
    obtain ⟨ht, h⟩ := h
    have hs := sub_enumerate
    have hT : Heap.IsTuple (Shared.heap ⟨hp, g, d, tk, os⟩) tp zs := ⟨_, ht, rfl, m, rfl⟩
    wp_walk using wpAny_loadPart' ht
    refine wpAny_stack_any fun st => wpAny_pure ?_
    split
    · rename_i c _ _ _ _ _
      cases c == Value.type "enumerate" <;>
        (wp_walk using wpAny_loadPart' ht, wpAny_pyIter_tuple hT
         exact ⟨_, rfl, h⟩)
    · wp_walk using wpAny_loadPart' ht, wpAny_pyIter_tuple hT
      exact ⟨_, rfl, h⟩
theorem call_enumT {prog : Program} {w : World} {A : Around} {E : Value → Shared → Prop} {s : Shared} {tp : Addr} {zs : Array Value} {Q : Value → Shared → Prop} (hT : s.heap.IsTuple tp zs)
    (h : ∀ h2, IsEnum h2 (s.heap.objs.size + 1) s.heap.objs.size 0 .none → h2.IsTupleIter s.heap.objs.size tp 0 →
      (∀ b o, s.heap.get? b = some o → h2.get? b = some o) → Q (.ref (s.heap.objs.size + 1)) { s with heap := h2 }) : wpAny (model prog w) A (call (.type "enumerate") [.ref tp]) Q E s := by
  obtain ⟨⟨cl, dc, dt, sl⟩, ht, hc, m, hd⟩ := hT
  cases (show cl = .type "tuple" from hc)
  cases (show dt = .seq zs m from hd)
  refine callType_new F.called_enumerate (by decide) (F.typeCall_enumerate_1 _) (F.newCall_enumerate_1 _) (fun ob => F.args_object_init_2 ob _) F.entry_enumerate_new (mk_enumT tp zs m dc sl) ⟨ht, ?_⟩
  generalize hg : s.heap.push { cls := .type "tuple_iterator", data := .fields #[.ref tp, .int 0 0] } = g1
  have hz : g1.objs.size = s.heap.objs.size + 1 := by rw [← hg]; exact Heap.size_push ..
  show _ ∧ _
  rw [hz]
  have he := Heap.get?_push_size g1 (o := { cls := .type "enumerate", data := .fields #[.none, .bool false, .ref s.heap.objs.size, rawInt 0, .none, .none] }) rfl
  rw [hz] at he
  have hi : g1.get? s.heap.objs.size = some { cls := .type "tuple_iterator", data := .fields #[.ref tp, .int 0 0] } := by
    rw [← hg]
    exact Heap.get?_push_size s.heap rfl
  exact ⟨⟨_, he, rfl⟩, h _ he ⟨_, Heap.get?_push_of_some _ hi, rfl, rfl⟩ fun b o x => Heap.get?_push_of_some _ (by rw [← hg]; exact Heap.get?_push_of_some _ x)⟩
/-- the tuple at a, each item in a new pair with its place -/
def IteT (K : PySem.W.Frag) (a : Addr) : It where
  go i H := ∃ (zs : List V) (z : V), SqT K H a zs ∧ zs[i]? = some z
  yld i H v H' := ∃ q z, v = .ref q ∧ H q = none ∧ H' = upd H q (.tup [.int (i : Nat), z]) ∧ ∀ zs, SqT K H a zs → zs[i]? = some z
  stop i H := ∃ zs : List V, SqT K H a zs ∧ zs.length ≤ i
theorem turn_enumT {P : Program} {w : World} {K : PySem.W.Frag} {elts : List Expr} {kk : Nat} {tpos : Pos} (a e it : Addr) :
    Turn P w K (.Tuple elts kk tpos) (IteT K a) [e, it] e (fun i h => (∃ old, IsEnum h e it (i : Nat) old) ∧ h.IsTupleIter it a i ∧ e ≠ it) := by
  constructor
  case mem => exact List.mem_cons_self
  case obj =>
    intro i h st b hb
    obtain ⟨⟨old, he⟩, ⟨o, ho, _, hd⟩, _⟩ := st
    rcases List.mem_cons.mp hb with rfl | hb
    · exact ⟨_, he, fun v q => nomatch q⟩
    · cases List.mem_singleton.mp hb
      exact ⟨o, ho, fun v q => by rw [hd] at q; cases q⟩
  case keep =>
    intro i h h' st k
    obtain ⟨⟨old, he⟩, hi, ne⟩ := st
    exact ⟨⟨old, k e List.mem_cons_self _ he⟩, hi.at fun o q => k it (List.mem_cons_of_mem _ List.mem_cons_self) o q, ne⟩
  case item =>
    intro X hP hw hK hc i pins s σ H E I hf st hg
    subst hP hw hK
    obtain ⟨⟨old, he⟩, hit, ne⟩ := st
    obtain ⟨zs, z, hq, hz⟩ := hg
    obtain ⟨its, rv, p, _⟩ := I.tuple hq
    obtain ⟨u, hu, ru⟩ := rv.get hz
    have hi : i < its.toArray.size := by
      have := (List.getElem?_eq_some_iff.mp hu).1
      simpa using this
    have le : e < s.heap.objs.size := Heap.lt_size he
    have li : it < s.heap.objs.size := by
      obtain ⟨_, q, _⟩ := hit
      exact Heap.lt_size q
    have ea : e ≠ a := fun y => by
      obtain ⟨o, ho, hcl, _⟩ := p
      rw [← y, he] at ho
      cases ho
      injection hcl with hcl
      exact absurd hcl (by decide)
    have ai : a ≠ it := fun y => by
      obtain ⟨o, ho, hcl, _⟩ := p
      obtain ⟨o2, ho2, hcl2, _⟩ := hit
      rw [y, ho2] at ho
      cases ho
      rw [hcl] at hcl2
      injection hcl2 with hcl2
      exact absurd hcl2 (by decide)
    refine wpAny_pyNext_enum_itemD (Draws.tuple (show X.A.in1.handled = none from I.ok.hd hc) it a ai its.toArray) he ⟨hit, p⟩ hi ne (by simp [ne, ea]) fun x h2 tk hx ho st2 hT hsz hk => ?_
    have ex : x = u := by
      have hx' : its[i]? = some x := by simpa using hx
      rw [hu] at hx'
      exact (Option.some.inj hx').symm
    subst ex
    refine ⟨_, rfl, wpAny_letOwnedTupleGo_enum (s := { s with heap := h2, toks := tk + 1 }) ho fun h3 he3 sb => ?_⟩
    have hT3 : h3.get? s.heap.objs.size = some { cls := .type "tuple", data := .seq #[.int i tk, x] } := (sb.2 _ (Nat.ne_of_gt le)).trans hT
    have nw : ObjOk X.prog X.w (upd H s.heap.objs.size (.tup [.int (i : Nat), z])) h3 s.heap.objs.size (.tup [.int (i : Nat), z]) :=
      ⟨show 2 ≤ sizeLine by decide, [.int i tk, x], .cons ⟨_, rfl⟩ (.cons ru .nil), ⟨_, hT3, rfl, _, rfl⟩⟩
    have I1 := I.turnedNew (t' := tk + 1) (ch := [e, it]) (h' := h3) (fun b ob hb q => (sb.2 b fun y => hb (by simp [y])).trans (hk b ob (fun y => hb (by simp [y])) (fun y => hb (by simp [y])) q)) hf (Nat.le_refl _) nw
    refine ⟨.ref s.heap.objs.size, _, I1, rfl, ⟨_, z, rfl, I.hok.fresh (Nat.le_refl _), rfl, fun ys hy => by rw [I.tuple_inj hy hq]; exact hz⟩, ⟨⟨x, ?_⟩, st2.1.at fun o q => (sb.2 it ne.symm).trans q, ne⟩, fun b hb => ?_⟩
    · rw [show ((i + 1 : Nat) : Int) = (i : Int) + 1 by omega]
      exact he3
    · have lb : b < s.heap.objs.size := by
        rcases List.mem_cons.mp hb with y | hb
        · rw [y]; exact le
        · rw [List.mem_singleton.mp hb]; exact li
      rw [upd_ne (Nat.ne_of_lt lb)]
      exact (hf b hb).1
  case done =>
    intro X hP hw hK hc i pins s σ H E I hf st hg
    subst hP hw hK
    obtain ⟨⟨old, he⟩, hit, ne⟩ := st
    obtain ⟨zs, hq, hz⟩ := hg
    obtain ⟨its, rv, p, _⟩ := I.tuple hq
    obtain ⟨f0, f1, f2, f3, f4, f5⟩ := hf it (by simp)
    have hl := rv.length
    have hT : s.TypeIs (.ref e) "enumerate" := ⟨_, he, rfl⟩
    unfold pyNext
    refine wpAny_bind (wpAny_attempt (wpAny_callSpecial?_slot (name := Str.ofString "__next__") hT F.slot_enumerate_next (wpAny_call_entry F.slot_enumerate_next hT F.entry_enumerate_next ?_ (F.args_enumerate_next_1 _))))
    show wpAny _ _ (field (.ref e) 2 >>= _) _ _ _
    refine wpAny_bind (wpAny_field he rfl (x := .ref it) rfl ?_)
    refine wpAny_bind (wpAny_nextOf_tuple_end (show X.A.in1.handled = none from I.ok.hd hc) hit (show s.heap.IsTuple a its.toArray from p) (by simp; omega) fun h2 x eb ⟨o, ho, hcl⟩ => ?_)
    exact wpAny_bind (wpAny_isInstance (T := "StopIteration") (b := true) ⟨o, ho, hcl⟩ isSubtype_stop (wpAny_pure ⟨rfl, I.turned (t' := s.toks) (fun b o hb q => eb b o hb q) f0 f1 f3 f4 f5⟩))
  case self => exact fun A i s Q E st h => let ⟨⟨_, he⟩, _⟩ := st; wpAny_pyIter_enum he h
def iEnumT (K : PySem.W.Frag) (ta : TA) : TI := fun σ H R => ta σ H fun vs H1 => ∃ a zs, vs = [.ref a] ∧ SqT K H1 a zs ∧ R (IteT K a) H1
theorem pi_enumT {X : Cx} {e : Expr} {ta : TA} {p pos tpos : Pos} {elts : List Expr} {kk : Nat} (hg : Gl X "enumerate") (hm : X.mg "enumerate" = none) (ha : PA X [e] ta) (hs : starEach [e] X.env = [(false, eval e X.env)] := by rfl) :
    PI X (.Tuple elts kk tpos) (.Call (.Name "enumerate" p) [e] [] pos) (iEnumT X.K ta) := by
  refine ⟨fun pins s σ H R I h => Call_ (ld_blt I hg hm boot_enumerate (PyProof.Rows.callWith_type1 (thn (ha.run pos pins s σ H _ I h) fun us s1 ⟨vs, H1, I1, r1, a, zs, ez, hq, q⟩ => ?_) hs rfl))⟩
  subst ez
  cases r1 with
  | cons r rr =>
    cases rr
    cases r
    obtain ⟨its, rv, p', _⟩ := I1.tuple hq
    refine call_enumT (show s1.heap.IsTuple a its.toArray from p') fun h2 he hit hk => wpAny_pyIter_enum he ?_
    refine ⟨s1.heap.objs.size + 1, [s1.heap.objs.size + 1, s1.heap.objs.size], _, _, H1, rfl, I1.kept (t' := s1.toks) hk, turn_enumT a (s1.heap.objs.size + 1) s1.heap.objs.size, ⟨⟨.none, he⟩, hit, Nat.succ_ne_self _⟩, fun b hb => ?_, q⟩
    have hle : s1.heap.objs.size ≤ b := by
      rcases List.mem_cons.mp hb with y | hb
      · rw [y]; exact Nat.le_succ _
      · rw [List.mem_singleton.mp hb]; exact Nat.le_refl _
    exact I1.fpOk hle (I1.hok.fresh hle)
end DL

/-! DL, part n: enumerate and zip, over data. -/
namespace DL
open PySem PySem.Spec L2
open PyProof.Rows hiding St
/-- the pairs of place and item -/
def pairsI (ds : List D) : List D := ds.mapIdx fun i d => .tup [.int i, d]
def pairsZ (ds es : List D) : List D := List.zipWith (fun d e => .tup [d, e]) ds es
def gEnum (g : AG) : AG := fun en w => match g en w with
  | .ok [.lst ds] w1 => .ok (pairsI ds) w1
  | .ok [.tup ds] w1 => .ok (pairsI ds) w1
  | .ok _ _ => .bad
  | .ex c fn a w1 => .ex c fn a w1
  | .bad => .bad
def gZip (g : AG) : AG := fun en w => match g en w with
  | .ok [.lst ds, .lst es] w1 => .ok (pairsZ ds es) w1
  | .ok [.tup ds, .tup es] w1 => .ok (pairsZ ds es) w1
  | .ok _ _ => .bad
  | .ex c fn a w1 => .ex c fn a w1
  | .bad => .bad
section
variable {X : Cx} {W : WX} {K : Kt} {Kf : PySem.W.Frag} {b bb : Bool} {pos p tpos : Pos} {a e : Expr} {elts : List Expr} {kk : Nat} {tA : TA} {gA : AG} {aw : Bs} {q r : Addr} {F1 H1 F H : Hp} {vs us : List V} {ds es : List D} {w : Wl} {v : V} {d : D}
/-- a list that stays while it is walked -/
def StayL (K : PySem.W.Frag) (bb : Bool) (aw : Bs) (q : Addr) (F1 H1 : Hp) (vs : List V) : Prop := ∀ F H, Stay bb aw F1 H1 F H → Same F H → H q = some (.lst vs)
theorem pairsI_get {i : Nat} (h : (pairsI ds)[i]? = some d) : ∃ d0, ds[i]? = some d0 ∧ d = .tup [.int i, d0] := by
  unfold pairsI at h
  rw [List.getElem?_mapIdx] at h
  cases z : ds[i]? with
  | none => rw [z] at h; cases h
  | some d0 =>
    rw [z] at h
    cases h
    exact ⟨d0, rfl, rfl⟩
theorem pairsZ_get {i : Nat} (h : (pairsZ ds es)[i]? = some d) : ∃ d0 e0, ds[i]? = some d0 ∧ es[i]? = some e0 ∧ d = .tup [d0, e0] := by
  unfold pairsZ at h
  rw [List.getElem?_zipWith] at h
  split at h
  · rename_i a b h1 h2
    cases h
    exact ⟨a, b, h1, h2, rfl⟩
  · cases h
theorem pairI_go {i : Nat} {x : V} {H2 : Hp} {z : V} {d0 : D} (go : Go aw F H F H w) (hT : H q = none) (r : Dv Kf aw F z d0) : Go aw F H (upd F q (.tup [.int (i : Nat), z])) (upd H q (.tup [.int (i : Nat), z])) w ∧ Dv Kf aw (upd F q (.tup [.int (i : Nat), z])) (.ref q) (.tup [.int i, d0]) :=
  ⟨go.new hT _, .tup upd_same (.cons (.int _) (.cons (r.mono (same_upd2 (go.free hT))) .nil))⟩
theorem pairZ_go {y z : V} {d0 e0 : D} (go : Go aw F H F H w) (hT : H q = none) (r0 : Dv Kf aw F y d0) (r : Dv Kf aw F z e0) : Go aw F H (upd F q (.tup [y, z])) (upd H q (.tup [y, z])) w ∧ Dv Kf aw (upd F q (.tup [y, z])) (.ref q) (.tup [d0, e0]) :=
  ⟨go.new hT _, .tup upd_same (.cons (r0.mono (same_upd2 (go.free hT))) (.cons (r.mono (same_upd2 (go.free hT))) .nil))⟩
theorem walks_enumL (hv : StayL Kf bb aw q F1 H1 vs) (dv : DvAll Kf aw F1 vs ds) : Walks Kf aw (Ite Kf q) (pairsI ds) (Stay bb aw F1 H1) := by
  intro i w F H hp go
  have h1 := hv F H hp go.sub
  have hl : (pairsI ds).length = ds.length := by simp [pairsI]
  refine ⟨fun d hd => ?_, fun hi => ⟨vs, .inl (.inl h1), by rw [dv.length, ← hl]; exact hi⟩⟩
  obtain ⟨d0, hd0, rfl⟩ := pairsI_get hd
  obtain ⟨v, e, r⟩ := dv.get hd0
  refine ⟨⟨vs, v, .inl (.inl h1), e⟩, ?_⟩
  rintro x H' ⟨T, z, rfl, hT, rfl, hx⟩
  have e2 := hx vs (.inl (.inl h1))
  rw [e] at e2
  cases e2
  exact ⟨_, pairI_go (x := .non) (H2 := H) go hT (r.mono hp.1)⟩
theorem walks_enumT (hv : SqT Kf F1 q vs) (dv : DvAll Kf aw F1 vs ds) : Walks Kf aw (IteT Kf q) (pairsI ds) (Stay bb aw F1 H1) := by
  intro i w F H hp go
  have h1 := sqT_same (hp.1.trans go.sub) hv
  have hl : (pairsI ds).length = ds.length := by simp [pairsI]
  refine ⟨fun d hd => ?_, fun hi => ⟨vs, h1, by rw [dv.length, ← hl]; exact hi⟩⟩
  obtain ⟨d0, hd0, rfl⟩ := pairsI_get hd
  obtain ⟨v, e, r⟩ := dv.get hd0
  refine ⟨⟨vs, v, h1, e⟩, ?_⟩
  rintro x H' ⟨T, z, rfl, hT, rfl, hx⟩
  have e2 := hx vs h1
  rw [e] at e2
  cases e2
  exact ⟨_, pairI_go (x := .non) (H2 := H) go hT (r.mono hp.1)⟩
theorem pairsZ_length : (pairsZ ds es).length = min ds.length es.length := by simp [pairsZ]
theorem walks_zipL (hv : StayL Kf bb aw q F1 H1 vs) (hu : StayL Kf bb aw r F1 H1 us) (dv : DvAll Kf aw F1 vs ds) (du : DvAll Kf aw F1 us es) : Walks Kf aw (Itz Kf q r) (pairsZ ds es) (Stay bb aw F1 H1) := by
  intro i w F H hp go
  have h1 := hv F H hp go.sub
  have h2 := hu F H hp go.sub
  have hl := pairsZ_length (ds := ds) (es := es)
  have l1 := dv.length
  have l2 := du.length
  refine ⟨fun d hd => ?_, fun hi => ⟨vs, us, .inl (.inl h1), .inl (.inl h2), by omega⟩⟩
  obtain ⟨d0, e0, hd0, he0, rfl⟩ := pairsZ_get hd
  obtain ⟨v, e, rv⟩ := dv.get hd0
  obtain ⟨u, e', ru⟩ := du.get he0
  refine ⟨⟨vs, us, v, u, .inl (.inl h1), .inl (.inl h2), e, e'⟩, ?_⟩
  rintro x H' ⟨T, y, z, rfl, hT, rfl, hx, hy⟩
  have e2 := hx vs (.inl (.inl h1))
  have e3 := hy us (.inl (.inl h2))
  rw [e] at e2
  rw [e'] at e3
  cases e2
  cases e3
  exact ⟨_, pairZ_go go hT (rv.mono hp.1) (ru.mono hp.1)⟩
theorem walks_zipT (hv : SqT Kf F1 q vs) (hu : SqT Kf F1 r us) (dv : DvAll Kf aw F1 vs ds) (du : DvAll Kf aw F1 us es) : Walks Kf aw (RZ.ItzT Kf q r) (pairsZ ds es) (Stay bb aw F1 H1) := by
  intro i w F H hp go
  have h1 := sqT_same (hp.1.trans go.sub) hv
  have h2 := sqT_same (hp.1.trans go.sub) hu
  have hl := pairsZ_length (ds := ds) (es := es)
  have l1 := dv.length
  have l2 := du.length
  refine ⟨fun d hd => ?_, fun hi => ⟨vs, us, h1, h2, by omega⟩⟩
  obtain ⟨d0, e0, hd0, he0, rfl⟩ := pairsZ_get hd
  obtain ⟨v, e, rv⟩ := dv.get hd0
  obtain ⟨u, e', ru⟩ := du.get he0
  refine ⟨⟨vs, us, v, u, h1, h2, e, e'⟩, ?_⟩
  rintro x H' ⟨T, y, z, rfl, hT, rfl, hx, hy⟩
  have e2 := hx vs h1
  have e3 := hy us h2
  rw [e] at e2
  rw [e'] at e3
  cases e2
  cases e3
  exact ⟨_, pairZ_go go hT (rv.mono hp.1) (ru.mono hp.1)⟩
/-- an argument that is a list and stays -/
theorem stayL_of (hb : b = false ∨ bb = true) (go : Go aw F1 H1 F1 H1 w) (h : RlA b Kf aw F1 H1 [v] [.lst ds]) : ∃ q vs, v = .ref q ∧ H1 q = some (.lst vs) ∧ StayL Kf bb aw q F1 H1 vs ∧ DvAll Kf aw F1 vs ds := by
  have dvc : Dv Kf aw F1 v (.lst ds) → ∃ q vs, v = .ref q ∧ H1 q = some (.lst vs) ∧ StayL Kf bb aw q F1 H1 vs ∧ DvAll Kf aw F1 vs ds := fun z => by
    cases z with
    | lst h1 h2 => exact ⟨_, _, rfl, go.sub _ _ h1, fun F' H' st s' => s' _ _ (st.1 _ _ h1), h2⟩
  cases b with
  | false =>
    have h' : DvAll Kf aw F1 [v] [.lst ds] := h
    cases h' with
    | cons z _ => exact dvc z
  | true =>
    have hb' : bb = true := hb.resolve_left (fun z => nomatch z)
    have h' : DqAll Kf aw F1 H1 [v] [.lst ds] := h
    cases h' with
    | cons z _ =>
      rcases z with z | ⟨ds', q, vs, e1, e2, n, h1, r⟩
      · exact dvc z
      · cases e1
        exact ⟨q, vs, e2, h1, fun F' H' st s' => st.2 hb' q _ n h1, r⟩
theorem rla_head {x : V} {xs : List V} {y : D} {ys : List D} (h : RlA b Kf aw F1 H1 (x :: xs) (y :: ys)) : RlA b Kf aw F1 H1 [x] [y] ∧ RlA b Kf aw F1 H1 xs ys := by
  cases b with
  | false =>
    have h' : DvAll Kf aw F1 (x :: xs) (y :: ys) := h
    cases h' with
    | cons z r => exact ⟨DvAll.one z, r⟩
  | true =>
    have h' : DqAll Kf aw F1 H1 (x :: xs) (y :: ys) := h
    cases h' with
    | cons z r => exact ⟨DqAll.cons z .nil, r⟩
theorem rla_one {xs : List V} {y : D} (h : RlA b Kf aw F1 H1 xs [y]) : ∃ x, xs = [x] := by
  cases b with
  | false =>
    have h' : DvAll Kf aw F1 xs [y] := h
    cases h' with
    | cons z r => cases r; exact ⟨_, rfl⟩
  | true =>
    have h' : DqAll Kf aw F1 H1 xs [y] := h
    cases h' with
    | cons z r => cases r; exact ⟨_, rfl⟩
theorem rla_two {xs : List V} {y z : D} (h : RlA b Kf aw F1 H1 xs [y, z]) : ∃ x u, xs = [x, u] := by
  cases xs with
  | nil => cases b <;> cases (show _ from h)
  | cons x xs =>
    obtain ⟨u, e⟩ := rla_one (rla_head h).2
    exact ⟨x, u, by rw [e]⟩
theorem rla_tup (h : RlA b Kf aw F1 H1 [v] [.tup ds]) : ∃ q vs, v = .ref q ∧ SqT Kf F1 q vs ∧ DvAll Kf aw F1 vs ds := by
  have dvc : Dv Kf aw F1 v (.tup ds) → ∃ q vs, v = .ref q ∧ SqT Kf F1 q vs ∧ DvAll Kf aw F1 vs ds := fun z => by
    cases z with
    | tup h1 h2 => exact ⟨_, _, rfl, SqT.of h1, h2⟩
  cases b with
  | false =>
    have h' : DvAll Kf aw F1 [v] [.tup ds] := h
    cases h' with
    | cons z _ => exact dvc z
  | true =>
    have h' : DqAll Kf aw F1 H1 [v] [.tup ds] := h
    cases h' with
    | cons z _ =>
      rcases z with z | ⟨ds', q, vs, e1, _⟩
      · exact dvc z
      · cases e1
theorem di_enum (hg : Gl X "enumerate") (hm : X.mg "enumerate" = none) (ha : DA K X W b [e] tA gA) (hb : b = false ∨ bb = true := by first | exact .inl rfl | exact .inr rfl) (hs : starEach [e] X.env = [(false, eval e X.env)] := by rfl) :
    DI K X W bb (.Tuple elts kk tpos) (.Call (.Name "enumerate" p) [e] [] pos) (fun σ H R => iEnum K tA σ H R ∨ iEnumT K tA σ H R) (gEnum gA) := by
  obtain ⟨K0, T0, L0⟩ := K
  cases ha.hK
  refine ⟨rfl, pi_or (pi_enum hg hm ha.pa hs) (pi_enumT hg hm ha.pa hs), fun f en w σ F H R o h => ?_⟩
  unfold gEnum at h
  cases z : gA en w with
  | bad => rw [z] at h; exact h.elim
  | ex c fn a w1 =>
    rw [z] at h
    exact .inl (ha.es f en w σ F H _ o (by rw [z]; exact h))
  | ok ds w1 =>
    rw [z] at h
    split at h
    · rename_i xs w2 hz
      cases hz
      refine .inl (ha.es f en w σ F H _ o ?_)
      rw [z]
      intro vs F' H' g r
      obtain ⟨x, rfl⟩ := rla_one r
      obtain ⟨q, us, rfl, h1, st, dv⟩ := stayL_of hb g.here r
      exact ⟨q, us, rfl, .inl (.inl h1), h _ F' H' g (walks_enumL st dv)⟩
    · rename_i xs w2 hz
      cases hz
      refine .inr (ha.es f en w σ F H _ o ?_)
      rw [z]
      intro vs F' H' g r
      obtain ⟨x, rfl⟩ := rla_one r
      obtain ⟨q, us, rfl, h1, dv⟩ := rla_tup r
      exact ⟨q, us, rfl, sqT_same g.sub h1, h _ F' H' g (walks_enumT h1 dv)⟩
    · exact h.elim
    · rename_i hz; cases hz
    · exact h.elim
theorem di_zip (hg : Gl X "zip") (hm : X.mg "zip" = none) (ha : DA K X W b [a, e] tA gA) (hb : b = false ∨ bb = true := by first | exact .inl rfl | exact .inr rfl)
    (hs : starEach [a, e] X.env = (false, eval a X.env) :: starEach [e] X.env := by rfl) (hpl : (backTo pos (starEach [e] X.env)).any (·.1) = false := by rfl) :
    DI K X W bb (.Tuple elts kk tpos) (.Call (.Name "zip" p) [a, e] [] pos) (RZ.iZipA K tA) (gZip gA) := by
  obtain ⟨K0, T0, L0⟩ := K
  cases ha.hK
  refine ⟨rfl, RZ.pi_zipA hg hm ha.pa hs hpl, fun f en w σ F H R o h => ?_⟩
  refine ha.es f en w σ F H _ o ?_
  unfold gZip at h
  cases z : gA en w with
  | bad => rw [z] at h; exact h
  | ex c fn a w1 => rw [z] at h; exact h
  | ok ds w1 =>
    rw [z] at h
    intro vs F' H' g r
    split at h
    · rename_i xs ys w2 hz
      cases hz
      obtain ⟨x, y, rfl⟩ := rla_two r
      obtain ⟨r1, r2⟩ := rla_head r
      obtain ⟨q, us, rfl, h1, st, dv⟩ := stayL_of hb g.here r1
      obtain ⟨q2, us2, rfl, h2, st2, dv2⟩ := stayL_of hb g.here r2
      exact ⟨q, q2, us, us2, rfl, .inl ⟨.inl (.inl h1), .inl (.inl h2), h _ F' H' g (walks_zipL st st2 dv dv2)⟩⟩
    · rename_i xs ys w2 hz
      cases hz
      obtain ⟨x, y, rfl⟩ := rla_two r
      obtain ⟨r1, r2⟩ := rla_head r
      obtain ⟨q, us, rfl, h1, dv⟩ := rla_tup r1
      obtain ⟨q2, us2, rfl, h2, dv2⟩ := rla_tup r2
      exact ⟨q, q2, us, us2, rfl, .inr ⟨sqT_same g.sub h1, sqT_same g.sub h2, h _ F' H' g (walks_zipT h1 h2 dv dv2)⟩⟩
    · exact h.elim
    · rename_i hz; cases hz
    · exact h.elim
end
end DL

/-! DL, part o: sorted, ranges as values. -/
namespace DL
open PySem PySem.Spec L2
open PyProof.Rows hiding St
open PySem.W (EachIs AllAlike Sortable dataLe)
/-! ### ranges as values -/
def oRngV : List D → Wl → Res := fun ds w => match ds with
  | [.int i, .int j] => .ok (.rng i j) w
  | _ => .bad
def rRngV : List V → Hp → VK → Prop := fun vs H Q => ∃ i j, vs = [V.int i, V.int j] ∧ ∀ p, H p = none → Q (.ref p) (upd H p (.rng i j))
/-- a range that is known, walked -/
def iRngV (te : TE) : TI := fun σ H R => te σ H fun v H1 => ∃ a lo hi, v = .ref a ∧ H1 a = some (.rng lo hi) ∧ (-(2 ^ 62) ≤ lo ∧ lo < 2 ^ 62 ∧ -(2 ^ 62) ≤ hi ∧ hi < 2 ^ 62) ∧ R (Itr lo (hi - lo).toNat) H1
def gRngV (ge : EG) : AG := fun en w => match ge en w with
  | .ok (.rng lo hi) w1 => if small lo && small hi then .ok (dInts lo 1 (hi - lo).toNat) w1 else .bad
  | .ok _ _ => .bad
  | .ex c fn a w1 => .ex c fn a w1
  | .bad => .bad
section
variable {X : Cx} {W : WX} {K : Kt} {Kf : PySem.W.Frag} {s : Sg} {bb : Bool} {pos p : Pos} {tg a b e : Expr} {t : TA} {g : AG} {te : TE} {ge : EG}
theorem cs_rngV : CS Kf .st rRngV oRngV := by
  intro aw F H Q E vs ds w go r hw
  unfold oRngV at hw
  split at hw
  · obtain ⟨v, u, rfl, q1, q2⟩ := r.two
    have e1 := q1.int
    have e2 := q2.int
    subst e1 e2
    exact ⟨_, _, rfl, fun q hq => hw _ _ _ (go.new hq _) (.rng upd_same)⟩
  · exact hw.elim
theorem de_rngV (hg : Gl X "range") (hm : X.mg "range" = none) (ha : DA K X W true [a, b] t g) (he : starEach [a, b] X.env = (false, eval a X.env) :: starEach [b] X.env := by rfl) (hpl : (backTo pos (starEach [b] X.env)).any (·.1) = false := by rfl) :
    DE K X W .st (.Call (.Name "range" p) [a, b] [] pos) (tCB rRngV t) (eCall oRngV g) := by
  obtain ⟨K0, T0, L0⟩ := K
  cases ha.hK
  exact de_callT cr_range2 cs_rngV hg hm (by decide +kernel) ha (by decide) (by decide) he hpl
theorem pi_rngV (he : PE X e te) : PI X tg e (iRngV te) := by
  refine ⟨fun pins s σ H R I h => thn (he.run pins s σ H _ I h) fun u s1 ⟨x, H1, I1, rx, r, lo, hi, ex, hr, hb, q⟩ => ?_⟩
  subst ex
  obtain rfl : u = Value.ref r := rx
  obtain ⟨t, u1, v, ho⟩ := I1.hok r _ hr
  refine wpAny_pyIter_range (show IsRange s1.heap r lo hi 1 t u1 v from ho) (small_one hb.1 hb.2.1 hb.2.2.1 hb.2.2.2) ?_
  refine ⟨s1.heap.objs.size, [s1.heap.objs.size], _, _, H1, rfl, I1.kept (t' := s1.toks) fun b o e => Heap.get?_push_of_some _ e, turn_range _ lo (hi - lo).toNat, ?_, fun b hb => ?_, q⟩
  · show IsRangeIter _ _ (lo + ((0 : Nat) : Int) * 1) ((((hi - lo).toNat : Nat) : Int) - ((0 : Nat) : Int)) 1
    have e1 : lo + ((0 : Nat) : Int) * 1 = lo := by simp
    have e2 : (((hi - lo).toNat : Nat) : Int) - ((0 : Nat) : Int) = Builtin.Range.rangeSize lo hi 1 := by
      rw [rangeSize_one]
      split <;> omega
    rw [e1, e2]
    exact Heap.get?_push_size s1.heap rfl
  · cases List.mem_singleton.mp hb
    exact I1.fpOk (Nat.le_refl _) (I1.hok.fresh (Nat.le_refl _))
theorem di_rngV (ha : DE K X W s e te ge) : DI K X W bb tg e (iRngV te) (gRngV ge) := by
  obtain ⟨K0, T0, L0⟩ := K
  cases ha.hK
  refine ⟨rfl, pi_rngV ha.pe, fun f en w σ F H R o h => ?_⟩
  refine ha.es.toWk f en w σ F H _ o ?_
  unfold gRngV at h
  cases q : ge en w with
  | bad => rw [q] at h; exact h
  | ex c fn a w1 => rw [q] at h; exact h
  | ok d w1 =>
    rw [q] at h
    cases d <;> first
      | exact h.elim
      | skip
    rename_i lo hi
    intro v F' H' g r
    obtain ⟨q, rfl, hq⟩ := Dq.rng r
    dsimp only at h
    split at h
    · rename_i hc
      obtain ⟨h1, h2⟩ := Bool.and_eq_true_iff.mp hc
      have h1 := of_decide_eq_true h1
      have h2 := of_decide_eq_true h2
      exact ⟨q, lo, hi, rfl, g.sub _ _ hq, ⟨h1.1, h1.2, h2.1, h2.2⟩, h _ F' H' g walks_rng⟩
    · exact h.elim
/-! ### sorted -/
def D.tupNE : D → Bool
  | .tup (_ :: _) => true
  | _ => false
def D.noTup : D → Bool
  | .tup _ => false
  | .con _ => false
  | .non => false
  | _ => true
def srtOk (ds : List D) : Bool := ds.all (fun d => d.isP && decide (d.toP.depth ≤ 60)) && (ds.all fun d => ds.all fun e => PySem.W.alike d.toP e.toP) && (ds.all D.tupNE || ds.all D.noTup)
def sortD (ds : List D) : List D := ds.mergeSort (dataLe false D.toP)
def oSorted : List D → Wl → Res := fun ds w => match ds with
  | [.lst ds] => if srtOk ds && decide (ds.length ≤ sizeLine) then .ok (.lst (sortD ds)) w else .bad
  | _ => .bad
def rSortD (K : PySem.W.Frag) : List V → Hp → VK → Prop := fun vs H Q => ∃ (a : Addr) (bs : List (V × D)), vs = [V.ref a] ∧ SqL K H a (bs.map (·.1)) ∧ (∀ p ∈ bs, Dp K H p.1 p.2.toP ∧ p.2.toP.depth ≤ 60) ∧
  AllAlike (bs.map fun p => p.2.toP) ∧ Sortable (bs.map fun p => p.2.toP) ∧ ∀ l, H l = none → Q (.ref l) (upd H l (.lst ((bs.mergeSort (dataLe false fun p => p.2.toP)).map (·.1))))
theorem each_of {R : Value → V × D → Prop} : ∀ {bs : List (V × D)} {its : List Value}, Vals (bs.map (·.1)) its → (∀ p ∈ bs, ∀ u, RelV p.1 u → R u p) → EachIs R its bs
  | [], its, r, h => by
    cases r
    exact .nil
  | p :: bs, its, r, h => by
    cases r with
    | cons r1 r2 => exact .cons (h p List.mem_cons_self _ r1) (each_of r2 fun q hq => h q (List.mem_cons_of_mem _ hq))
theorem vals_of_each : ∀ {bs : List (V × D)} {its : List Value}, EachIs (fun u p => RelV p.1 u) its bs → Vals (bs.map (·.1)) its
  | _, _, .nil => .nil
  | _, _, .cons a b => .cons a (vals_of_each b)
theorem call_sortD (hu : X.A.units + 65 < cLine) : CallR X (.builtin "sorted") (rSortD X.K) := by
  intro pins s σ H vs us Q I r h
  obtain ⟨a, bs, rfl, hq, hp, h1, h2, q⟩ := h
  obtain ⟨u, rfl, ru⟩ := vals1 r
  obtain rfl : u = Value.ref a := ru
  obtain ⟨its, rv, p', hz⟩ := I.list hq
  have hlen : bs.length ≤ sizeLine := by simpa using hz
  refine PySem.W.sorted_data (enc := fun p : V × D => p.2.toP) (R := fun u p => RelV p.1 u) p'.isList (each_of rv fun p _ u h => h) (each_of rv fun p hp' u h => (hp p hp').1.reads I p.2.toP p.1 u h) h1 h2 hlen (fun p hp' => ?_) fun out hl he => ?_
  · have := (hp p hp').2
    show X.A.units + 2 + p.2.toP.depth < cLine
    omega
  · obtain ⟨ep, he'⟩ := PyProof.Rows.sortedAll_at s.heap its out.toArray
    refine ⟨.ref _, upd H (s.heap.objs.size + 1) (.lst ((bs.mergeSort (dataLe false fun p => p.2.toP)).map (·.1))), I.laid (t' := s.toks) (fun _ _ => PyProof.Rows.sortedAll_old) (Nat.le_succ _) ⟨?_, out, ep, vals_of_each he, he'⟩, rfl, q _ (I.hok.fresh (Nat.le_succ _))⟩
    rw [List.length_map, List.length_mergeSort]
    exact hlen
theorem dvall_zip {aw : Bs} {F : Hp} : ∀ {vs : List V} {ds : List D}, DvAll Kf aw F vs ds → (vs.zip ds).map (·.1) = vs ∧ (vs.zip ds).map (·.2) = ds ∧ ∀ p ∈ vs.zip ds, Dv Kf aw F p.1 p.2
  | _, _, .nil => ⟨rfl, rfl, fun p hp => by cases hp⟩
  | _, _, .cons a b => by
    obtain ⟨h1, h2, h3⟩ := dvall_zip b
    refine ⟨by simp [h1], by simp [h2], fun p hp => ?_⟩
    rcases List.mem_cons.mp hp with rfl | hp
    · exact a
    · exact h3 p hp
theorem dvall_unzip {aw : Bs} {F : Hp} : ∀ {bs : List (V × D)}, (∀ p ∈ bs, Dv Kf aw F p.1 p.2) → DvAll Kf aw F (bs.map (·.1)) (bs.map (·.2))
  | [], _ => .nil
  | p :: bs, h => .cons (h p List.mem_cons_self) (dvall_unzip fun q hq => h q (List.mem_cons_of_mem _ hq))
theorem cs_sortD : CS Kf .fr (rSortD Kf) oSorted := by
  intro aw F H Q E vs ds w go r hw
  unfold oSorted at hw
  split at hw
  · rename_i xs
    obtain ⟨v, rfl, q⟩ := r.one
    obtain ⟨a, us, rfl, hv, dv⟩ := q.seq go.sub
    split at hw
    · rename_i hc
      obtain ⟨z1, z2, z3⟩ := dvall_zip dv
      obtain ⟨hc, hl⟩ := Bool.and_eq_true_iff.mp hc
      unfold srtOk at hc
      simp only [Bool.and_eq_true, List.all_eq_true, Bool.or_eq_true, decide_eq_true_eq] at hc
      obtain ⟨⟨c1, c2⟩, c3⟩ := hc
      have mem : ∀ p ∈ us.zip xs, p.2 ∈ xs := fun p hp => by rw [← z2]; exact List.mem_map_of_mem hp
      have em : ((us.zip xs).map fun p => p.2.toP) = xs.map D.toP := by
        rw [show ((us.zip xs).map fun p => p.2.toP) = ((us.zip xs).map (·.2)).map D.toP by rw [List.map_map]; rfl, z2]
      refine ⟨a, us.zip xs, rfl, by rw [z1]; exact .inl (.inl hv), fun p hp => ?_, ?_, ?_, ?_⟩
      · have := c1 p.2 (mem p hp)
        exact ⟨(z3 p hp).dp go.sub this.1, this.2⟩
      · rw [em]
        intro d hd d' hd'
        obtain ⟨x, hx, rfl⟩ := List.mem_map.mp hd
        obtain ⟨y, hy, rfl⟩ := List.mem_map.mp hd'
        exact c2 x hx y hy
      · rw [em]
        rcases c3 with c3 | c3
        · refine .inl fun d hd => ?_
          obtain ⟨x, hx, rfl⟩ := List.mem_map.mp hd
          have := c3 x hx
          unfold D.tupNE at this
          split at this
          · exact ⟨_, _, rfl⟩
          · cases this
        · refine .inr fun d hd => ?_
          obtain ⟨x, hx, rfl⟩ := List.mem_map.mp hd
          have h1 := c3 x hx
          have h2 := (c1 x hx).1
          cases x <;> first
            | (exact absurd (show false = true from h1) (by decide))
            | (exact absurd (show false = true from h2) (by decide))
            | exact ⟨fun z => nomatch z, fun _ z => nomatch z⟩
            | exact ⟨fun z => (by simp only [D.toP] at z; cases z), fun _ z => (by simp only [D.toP] at z; cases z)⟩
      · have key : ((us.zip xs).mergeSort (dataLe false fun p => p.2.toP)).map (·.2) = sortD xs := by
          unfold sortD
          have e := List.map_mergeSort (r := dataLe false fun p : V × D => p.2.toP) (s := dataLe false D.toP) (f := fun p : V × D => p.2) (l := us.zip xs) (fun _ _ _ _ => rfl)
          rw [z2] at e
          exact e
        have dv2 : DvAll Kf aw F (((us.zip xs).mergeSort (dataLe false fun p => p.2.toP)).map (·.1)) (sortD xs) := by
          rw [← key]
          exact dvall_unzip fun p hp => z3 p ((List.mergeSort_perm _ _).mem_iff.mp hp)
        exact Wn.lstNew hw go dv2
    · exact hw.elim
  · exact hw.elim
theorem de_sortedT {k : Nat} (hr : Rg k X.A) (hg : Gl X "sorted") (hm : X.mg "sorted" = none) (ha : DA K X W true [a] t g) (he : starEach [a] X.env = (false, eval a X.env) :: starEach [] X.env := by rfl) (hpl : (backTo pos (starEach [] X.env)).any (·.1) = false := by rfl) :
    DE K X W .fr (.Call (.Name "sorted" p) [a] [] pos) (tCB (rSortD K) t) (eCall oSorted g) := by
  obtain ⟨K0, T0, L0⟩ := K
  cases ha.hK
  exact de_callB (call_sortD hr.u) cs_sortD hg hm (by decide +kernel) ha (by decide) (by decide) he hpl
end
end DL

/-! DL, part p: a lambda of one parameter, handed to a def. -/
namespace DL
open PySem PySem.Spec L2
open PyProof.Rows hiding St
/-- the parameter a, captured names, globals -/
structure LamS1 (sc scope : Scope) (a : Str) : Prop where
  kind : scope.kind = .function
  co : scope.isCoroutine = false
  gen : scope.isGenerator = false
  par : scope.names.lookup a = some .local
  one : ∀ y ∈ scope.names, y.2 = .local → y.1 = a
  nocell : ∀ y ∈ scope.names, y.2 ≠ .cell
  free : ∀ y ∈ scope.names, y.2 = .free → sc.names.lookup y.1 = some .cell ∨ sc.names.lookup y.1 = some .free
section
variable {X : Cx} {pins : List (Addr × Obj)} {σ : L2.St} {H HZ : Hp} {s s1 : Shared} {a : Str} {scope : Scope} {f c' : Addr}
theorem LamS1.has (L : LamS1 X.env.scope scope a) (ok : X.Ok) : ∀ y ∈ scope.names, y.2 = .free → ∃ c, X.env.cells.lookup y.1 = some c := fun y hy e =>
  (L.free y hy e).elim (fun k => ok.has _ (.inl k)) (fun k => ok.has _ (.inr k))
end
end DL

/-! DL, part q: a def that gets a lambda as its last argument. -/
namespace DL
open PySem PySem.Spec L2
open PyProof.Rows hiding St
def eAct (i : Nat) (Gp : D → Wl → Res) (ge : EG) : EG := fun en w => match en[i]? with
  | some .hol => (ge en w).bind Gp
  | _ => .bad
/-- b(e), b the lambda handed in at slot i -/
def ActR (K : Kt) (Z : Cx) (W : WX) (i : Nat) (b : Str) (Gp : D → Wl → Res) (tac : TE → TE) : Prop :=
  ∀ (s' : Sg) (e : Expr) (te : TE) (ge : EG) (p1 p2 : Pos), s' ≠ .wk → DE K Z W s' e te ge → starEach [e] Z.env = (false, eval e Z.env) :: starEach [] Z.env → (backTo p2 (starEach [] Z.env)).any (·.1) = false →
    DE K Z W .st (.Call (.Name b p1) [e] [] p2) (tac te) (eAct i Gp ge)
theorem de_act {K : Kt} {Z : Cx} {W : WX} {i : Nat} {b : Str} {Gp : D → Wl → Res} {tac : TE → TE} {s' : Sg} {e : Expr} {te : TE} {ge : EG} {p1 p2 : Pos} (act : ActR K Z W i b Gp tac) (he : DE K Z W s' e te ge) (hs : s' ≠ .wk := by decide)
    (h1 : starEach [e] Z.env = (false, eval e Z.env) :: starEach [] Z.env := by rfl) (h2 : (backTo p2 (starEach [] Z.env)).any (·.1) = false := by rfl) : DE K Z W .st (.Call (.Name b p1) [e] [] p2) (tac te) (eAct i Gp ge) := act s' e te ge p1 p2 hs he h1 h2
def runL (m : Nat) (gs : SG) (ds : List D) (w : Wl) : Res := match gs (ds.map .dat ++ .hol :: List.replicate (m - (ds.length + 1)) .non) w with
  | .rt d w1 => .ok d w1
  | .nx _ w1 => .ok .non w1
  | .ex c fn a _ w1 => .ex c fn a w1
  | _ => .bad
/-- the def x answers G of what the lambda answers and of n data -/
structure FL (P : Program) (w : World) (K : Kt) (mg : Str → Option Value) (base : Heap) (k : Nat) (x : Str) (n : Nat) (G : (D → Wl → Res) → List D → Wl → Res) : Prop where
  ex : ∃ (fd : FuncData) (ps Ng : List Str) (pg : Arguments) (bg : List Stmt) (sg : Scope) (b : Str), FunD K x x pg bg sg [] [] (He.ga K x) fd ∧ FnScope Ng ps sg ∧ mg x = some (.ref (He.ga K x)) ∧ PySem.W.keepIn K (.ref (He.ga K x)) = true ∧ Binds K fd ps [] ∧
    ps.length = n + 1 ∧ Ng[n]? = some b ∧ Vis sg b ∧ (b == ("__debug__" : Str)) = false ∧ (b == ("__classdict__" : Str)) = false ∧
    ∀ Gp, ∃ gs, (∀ ds w, ds.length = n → G Gp ds w = runL Ng.length gs ds w) ∧ ∀ (l : Option Lm) (cdv : Value) (A : Around) (outer : List Env) (s : Shared) (H : Hp) (E : XK) (tac : TE → TE), Rg k (A.deeper (envOfC x sg s.heap.objs.size (He.ga K x) cdv)) →
      ActR ⟨K.K, K.T, l⟩ (cxOf (L2.CX P w) P w K mg base Ng x sg (He.ga K x) cdv A outer s H E) (We E) n b Gp tac → ∃ t, DSs ⟨K.K, K.T, l⟩ (cxOf (L2.CX P w) P w K mg base Ng x sg (He.ga K x) cdv A outer s H E) (We E) bg t gs
section
variable {X : Cx} {W : WX} {K : Kt} {Kf : PySem.W.Frag} {k j k2 : Nat} {x a : Str} {G : (D → Wl → Res) → List D → Wl → Res} {s1 s2 s3 : Sg} {e1 e2 body : Expr} {t1 t2 tb : TE} {g1 g2 gb : EG} {params : Arguments} {scope : Scope} {c P : Addr} {jj : Nat} {p lpos pos : Pos}
theorem startL_ok {N : List Str} {aw : Bs} {F0 H : Hp} {wl : Wl} {vs : List V} {ds : List D} {f : Addr} (g : Go aw F0 H F0 H wl) (hf : ∀ a, aw.a = some a → F0 a = none) (hT : aw.T = K.T) (ht : LamX.Tabs aw.T H) (r : DvAll K aw F0 vs ds) (hn : ds.length + 1 ≤ N.length) :
    Ok ⟨K.K, K.T, some ⟨aw, f, F0, H⟩⟩ ⟨aw, F0, H⟩ (ds.map .dat ++ .hol :: List.replicate (N.length - (ds.length + 1)) .non) wl (L2.start N (vs ++ [.ref f])) F0 H := by
  have hl := r.length
  have key : ∀ (i : Nat) (z : Sl), (ds.map Sl.dat ++ Sl.hol :: List.replicate (N.length - (ds.length + 1)) Sl.non)[i]? = some z → (∃ d, z = .dat d ∧ ds[i]? = some d) ∨ (z = .hol ∧ i = ds.length) ∨ z = .non := fun i z h => by
    by_cases hi : i < ds.length
    · rw [List.getElem?_append_left (by simpa using hi), List.getElem?_map, List.getElem?_eq_getElem hi] at h
      exact .inl ⟨ds[i], (Option.some.inj h).symm, List.getElem?_eq_getElem hi⟩
    · rw [List.getElem?_append_right (by simpa using hi), List.length_map] at h
      by_cases hi2 : i = ds.length
      · rw [hi2, Nat.sub_self] at h
        exact .inr (.inl ⟨(Option.some.inj h).symm, hi2⟩)
      · obtain ⟨m, hm⟩ : ∃ m, i - ds.length = m + 1 := ⟨i - ds.length - 1, by omega⟩
        rw [hm, List.getElem?_cons_succ] at h
        exact .inr (.inr (List.eq_of_mem_replicate (List.mem_of_getElem? h)))
  have st : ∀ (i : Nat), i < (vs ++ [V.ref f]).length → (L2.start N (vs ++ [V.ref f]))[i]? = (vs ++ [V.ref f])[i]?.map some := fun i hi => by
    unfold L2.start
    rw [List.getElem?_append_left (by simpa using hi), List.getElem?_map]
  refine ⟨g, fun a ea => ⟨fun z => (by have e := g.wl a ea; rw [show H a = none from z] at e; cases e), hf a ea⟩, ?_, fun i d h => ?_, fun i es h => ?_, hT, ht, fun i h => ?_, fun i j es us a h _ _ _ => ?_, fun i kvs h => ?_⟩
  · simp [L2.start, hl]
  · rcases key i _ h with ⟨d', e, hd⟩ | ⟨e, _⟩ | e
    · cases e
      obtain ⟨v, e1, rv⟩ := r.get hd
      have hi := (List.getElem?_eq_some_iff.mp e1).1
      refine ⟨v, ?_, rv⟩
      rw [st i (by rw [List.length_append]; omega), List.getElem?_append_left hi, e1]
      rfl
    · cases e
    · cases e
  · rcases key i _ h with ⟨d', e, hd⟩ | ⟨e, _⟩ | e <;> cases e
  · rcases key i _ h with ⟨d', e, hd⟩ | ⟨_, e⟩ | e
    · cases e
    · refine ⟨_, rfl, ?_, rfl, rfl, g⟩
      rw [e, ← hl, st _ (by simp), List.getElem?_append_right (Nat.le_refl _), Nat.sub_self]
      rfl
    · cases e
  · rcases key i _ h with ⟨d', e, hd⟩ | ⟨e, _⟩ | e <;> cases e
  · rcases key i _ h with ⟨d', e, hd⟩ | ⟨e, _⟩ | e <;> cases e
/-- the reading that says just what is asked -/
def tSem (X : Cx) (e : Expr) : TE := fun σ H Q => ∀ pins s, Inv X pins σ H s → wpAny (model X.prog X.w) X.A (eval e X.env) (EP X pins σ Q) X.xe s
theorem pe_sem {e : Expr} : PE X e (tSem X e) := ⟨fun pins s _ _ _ I h => h pins s I⟩
end
end DL

/-! DL, part r: a new generator, handed to a def. -/
namespace DL
open PySem PySem.Spec L2
open PyProof.Rows hiding St
/-- the def of the module's name x makes a new list -/
def ClN (P : Program) (w : World) (K : Kt) (mg : Str → Option Value) (base : Heap) (k : Nat) (x : Str) (n : Nat) (G : List D → Wl → Res) : Prop :=
  ∃ (fd : FuncData) (ps : List Str), FG P w K mg base k (He.ga K x) fd ps (spN K n G) ∧ mg x = some (.ref (He.ga K x)) ∧ PySem.W.keepIn K (.ref (He.ga K x)) = true ∧ Binds K fd ps []
/-- what GR answers with the new generator that GW makes -/
def eWell (n : Nat) (GR GW : List D → Wl → Res) (g : AG) : EG := fun en w => match g en w with
  | .ok ds w1 => if ds.length = n then (match GW ds w1 with
    | .ok (.lst es) w2 => (match allInts es with
      | some ns => (match GR [.well] ns with
        | .ok (.bl b) _ => .ok (.bl b) w2
        | _ => .bad)
      | none => .bad)
    | _ => .bad) else .bad
  | .ex c fn a w1 => .ex c fn a w1
  | .bad => .bad
section
variable {X : Cx} {W : WX} {K : Kt} {k j j2 n : Nat} {f : Addr} {fd : FuncData} {ps : List Str} {GR GW : List D → Wl → Res} {x y : Str} {p p2 pos pos2 : Pos} {e : Expr} {es : List Expr} {t : TA} {g : AG} {sp : Sp}
theorem pe_callG (F : FG X.prog X.w X.K X.mg X.base k f fd ps sp) (hr : Rg k X.A) (tk : Takes X W) (hg : Gl X x) (hm : X.mg x = some (.ref f)) (hk : PySem.W.keepIn X.K (.ref f) = true) (hb : Binds X.K fd ps [])
    (ha : PA X (e :: es) t) (hdb : (x == ("__debug__" : Str)) = false) (he : starEach (e :: es) X.env = (false, eval e X.env) :: starEach es X.env) (hpl : (backTo pos (starEach es X.env)).any (·.1) = false) : PE X (.Call (.Name x p) (e :: es) [] pos) (tCallG sp W t) := by
  refine ⟨fun pins s σ H Q I h => ?_⟩
  refine wpAny_Call_Name_kw (ld_glob I hg hm (PySem.W.callWith_K (h₀ := X.base) I.ok.mod.kin hk (thn (ha.run pos pins s σ H _ I h) fun us s1 ⟨vs, H1, I1, r, q⟩ => ⟨I1.kIn, ?_⟩) he hpl) hdb)
  have hl : us.length = ps.length := r.length.symm.trans (F.len _ _ _ _ q)
  have bb := hb s1 us I1.kIn (by rw [List.append_nil]; exact hl)
  rw [List.append_nil] at bb
  exact run_fg (args := ⟨us, []⟩) F hr tk bb I1 r q
theorem de_well (CR : Cl X.prog X.w K X.mg X.base j x 1 GR) (CW : ClN X.prog X.w K X.mg X.base j2 y n GW) (hr : Rg k X.A) (tk : Takes X W) (hj : j ≤ k) (hj2 : j2 ≤ k) (hg : Gl X x) (hg2 : Gl X y) (ha : DA K X W false (e :: es) t g)
    (hdb : (x == ("__debug__" : Str)) = false := by decide) (hdb2 : (y == ("__debug__" : Str)) = false := by decide)
    (he : starEach (e :: es) X.env = (false, eval e X.env) :: starEach es X.env := by rfl) (hpl : (backTo pos2 (starEach es X.env)).any (·.1) = false := by rfl)
    (he2 : starEach [.Call (.Name y p2) (e :: es) [] pos2] X.env = (false, eval (.Call (.Name y p2) (e :: es) [] pos2) X.env) :: starEach [] X.env := by rfl) (hpl2 : (backTo pos (starEach [] X.env)).any (·.1) = false := by rfl) :
    DE K X W .st (.Call (.Name x p) [.Call (.Name y p2) (e :: es) [] pos2] [] pos) (tCallG (spD K 1 GR) W (tCons (tCallG (spN K n GW) W t) tNil)) (eWell n GR GW g) := by
  obtain ⟨K0, T0, L0⟩ := K
  cases ha.hK
  obtain ⟨fd, ps, FR, m1, k1, b1⟩ := CR
  obtain ⟨fd2, ps2, FW, m2, k2, b2⟩ := CW
  refine ⟨rfl, pe_callG (FR.mono hj) hr tk hg m1 k1 b1 (pa_cons (pe_callG (FW.mono hj2) hr tk hg2 m2 k2 b2 ha.pa hdb2 he hpl) pa_nil he2) hdb he2 hpl2, fun f en w σ F H Q o h => ?_⟩
  show t σ H fun vs H1 => spN ⟨X.K, T0, L0⟩ n GW vs H1 (fun v H2 => spD ⟨X.K, T0, L0⟩ 1 GR [v] H2 Q (WE W σ)) (WE W σ)
  refine ha.es f en w σ F H _ o ?_
  unfold eWell at h
  cases q : g en w with
  | bad => rw [q] at h; exact h
  | ex c fn a w1 => rw [q] at h; exact h
  | ok ds w1 =>
    rw [q] at h
    dsimp only at h
    intro vs F1 H1 g1 r1
    by_cases hl : ds.length = n
    · rw [if_pos hl] at h
      have o1 := o.step g1
      refine ⟨⟨f.aw, F1, H1⟩, ds, w1, rfl, o1.here, o1.awF, o1.tT, o1.tabs, r1, hl, ?_⟩
      cases q2 : GW ds w1 with
      | bad => rw [q2] at h; exact h.elim
      | ex c fn a w2 => rw [q2] at h; exact h.elim
      | ok d w2 =>
        rw [q2] at h
        cases d <;> first
          | exact h.elim
          | skip
        rename_i es'
        dsimp only at h
        cases q3 : allInts es' with
        | none => rw [q3] at h; exact h.elim
        | some ns =>
          rw [q3] at h
          dsimp only at h
          rintro v F2 H2 g2 ⟨ds', a, us, e1, rfl, n0, hv, fa, dv⟩
          cases e1
          have o2 := o1.step g2
          have ev := vals_ints dv q3
          subst ev
          have eT : f.aw.T = T0 := o2.tT
          refine ⟨⟨⟨some a, f.aw.T⟩, F2, H2⟩, [.well], ns, rfl, ⟨Same.refl _, fun _ _ _ _ h => h, fun _ h => h, fun h => h, g2.sub, g2.nt, fun _ _ h => h, fun q hq => by cases hq; exact hv⟩, fun q hq => by cases hq; exact fa, eT, o2.tabs, .cons (.well rfl) .nil, rfl, ?_⟩
          cases q4 : GR [.well] ns with
          | bad => rw [q4] at h; exact h.elim
          | ex c fn a w3 => rw [q4] at h; exact h.elim
          | ok d w3 =>
            rw [q4] at h
            cases d <;> first
              | exact h.elim
              | skip
            rename_i b
            intro v F3 H3 g3 r3
            cases r3
            have hq : ∀ q, f.aw.a = some q → H1 q ≠ none := fun q hq z => by
              rw [g1.wl q hq] at z
              cases z
            exact h (.bl b) F3 H3 (g1.trans (g2.well n0 hq g3)) (.bl b)
    · rw [if_neg hl] at h
      exact h.elim
end
end DL

/-! DL, part s: list(range), gcd, isinstance. -/
namespace DL
open PySem PySem.Spec L2
open PyProof.Rows hiding St
def eLstRg1 (ga : EG) : EG := fun en w => (ga en w).bind fun d w1 => match d with
  | .int n => if n ≤ 16777216 ∧ -16777216 ≤ n then .ok (.lst (dInts 0 1 n.toNat)) w1 else .bad
  | _ => .bad
def oGcd : List D → Wl → Res := fun ds w => match ds with
  | [.int i, .int j] => .ok (.int (Nat.gcd i.natAbs j.natAbs : Nat)) w
  | _ => .bad
section
variable {X : Cx} {W : WX} {K : Kt} {Kf : PySem.W.Frag} {s s1 s2 : Sg} {pos pos2 p p2 : Pos} {a b e : Expr} {es : List Expr} {ta tb : TE} {ga gb : EG} {t : TA} {g : AG}
theorem dv_rg {aw : Bs} {F : Hp} (m n : Int) : DvAll Kf aw F (rgV m n) (dInts m 1 (n - m).toNat) := by
  have key : ∀ l : List Nat, DvAll Kf aw F (l.map fun i => V.int (m + (i : Nat))) (l.map fun i => D.int (m + (i : Nat) * 1)) := fun l => by
    induction l with
    | nil => exact .nil
    | cons i l ih => exact .cons (by show Dv Kf aw F (V.int (m + (i : Nat))) (D.int (m + (i : Nat) * 1)); rw [Int.mul_one]; exact .int _) ih
  exact key _
theorem de_listRg1 (hc : X.calm = true) (hg : Gl X "list") (hm : X.mg "list" = none) (hg2 : Gl X "range") (hm2 : X.mg "range" = none) (ha : DE K X W s1 a ta ga) (na : starEach [a] X.env = (false, eval a X.env) :: starEach [] X.env := by rfl)
    (nb : starEach [.Call (.Name "range" p2) [a] [] pos2] X.env = (false, eval (.Call (.Name "range" p2) [a] [] pos2) X.env) :: starEach [] X.env := by rfl) :
    DE K X W .fr (.Call (.Name "list" p) [.Call (.Name "range" p2) [a] [] pos2] [] pos) (tLstRg (tRg1 ta)) (eLstRg1 ga) := by
  obtain ⟨K0, T0, L0⟩ := K
  cases ha.hK
  refine ⟨rfl, pe_listRg hc hg hm (prg_1 hg2 hm2 ha.pe na) nb, fun f en w σ F H Q o h => ?_⟩
  refine ha.es.bindW o h fun d w1 v F1 H1 g1 o1 r1 h1 => ?_
  cases d <;> first
    | exact h1.elim
    | skip
  rename_i n
  have ev := r1.int
  subst ev
  dsimp only at h1
  split at h1
  · rename_i hn
    refine ⟨n, rfl, ⟨by omega, by omega, by omega, by omega, by omega⟩, ?_⟩
    have z := dv_rg (Kf := X.K) (aw := f.aw) (F := F1) 0 n
    rw [Int.sub_zero] at z
    exact Wn.lstNew h1 o1.here z
  · exact h1.elim
theorem cs_gcd : CS Kf .st rGcd oGcd := by
  intro aw F H Q E vs ds w go r hw
  unfold oGcd at hw
  split at hw
  · obtain ⟨v, u, rfl, q1, q2⟩ := r.two
    have e1 := q1.int
    have e2 := q2.int
    subst e1 e2
    exact ⟨_, _, rfl, Wn.val hw go (.int _)⟩
  · exact hw.elim
theorem de_gcd {x : Str} (hg : Gl X x) (hm : X.mg x = some (.builtin "math.gcd")) (ha : DA K X W true (a :: es) t g) (hdb : (x == ("__debug__" : Str)) = false := by decide) (he : starEach (a :: es) X.env = (false, eval a X.env) :: starEach es X.env := by rfl)
    (hpl : (backTo pos (starEach es X.env)).any (·.1) = false := by rfl) : DE K X W .st (.Call (.Name x p) (a :: es) [] pos) (tCB rGcd t) (eCall oGcd g) := by
  obtain ⟨K0, T0, L0⟩ := K
  cases ha.hK
  exact ⟨rfl, pe_callBfun cr_gcd hg hm ha.pa hdb he hpl, es_call cs_gcd ha.es⟩
end
end DL

/-! DL, part t: a def that gets a def as its last argument. -/
namespace DL
open PySem PySem.Spec L2
open PyProof.Rows hiding St
/-- the answer of one datum alone, no exception -/
def plainR (r : Res) : Res := match r with
  | .ok z w => .ok z w
  | _ => .bad
def eFnC (f : Str) (G : (D → Wl → Res) → List D → Wl → Res) (Gf : List D → Wl → Res) (gA : AG) : EG := fun en w => match gA en w with
  | .ok [d1, d2, .fn f'] w1 => if f' = f then G (fun d w => plainR (Gf [d] w)) [d1, d2] w1 else .bad
  | .ok _ _ => .bad
  | .ex c fn a w1 => .ex c fn a w1
  | .bad => .bad
section
variable {X : Cx} {W : WX} {K : Kt} {k j k2 : Nat} {x y : Str} {G : (D → Wl → Res) → List D → Wl → Res} {Gf : List D → Wl → Res} {e1 e2 e3 : Expr} {tA : TA} {gA : AG} {p pos : Pos}
/-- b(e), b a local that holds a def -/
theorem pe_actF {Z : Cx} {kk i : Nat} {g : Addr} {fd : FuncData} {ps : List Str} {sp : Sp} {e : Expr} {te : TE} {b : Str} {p1 p2 : Pos} (F : FG Z.prog Z.w Z.K Z.mg Z.base kk g fd ps sp) (hr : Rg kk Z.A) (hk : PySem.W.keepIn Z.K (.ref g) = true) (hb : Binds Z.K fd ps [])
    (he : PE Z e te) (hi : Z.N[i]? = some b) (hv : Vis Z.env.scope b) (hd : (b == ("__debug__" : Str)) = false) (hcd : (b == ("__classdict__" : Str)) = false)
    (hst : starEach [e] Z.env = (false, eval e Z.env) :: starEach [] Z.env) (hpl : (backTo p2 (starEach [] Z.env)).any (·.1) = false) :
    PE Z (.Call (.Name b p1) [e] [] p2) (fun σZ HZ Q => σZ[i]? = some (some (.ref g)) ∧ tCons te tNil σZ HZ fun vs H2 => sp vs H2 Q fun _ _ _ => False) := by
  refine ⟨fun pins s σ H Q I ⟨hs, ht⟩ => ?_⟩
  refine wpAny_Call_Name_kw (thn ((pe_var (pos := p1) (i := i) hi hv hd hcd).run pins s σ H (fun v H1 => v = .ref g ∧ H1 = H) I ⟨.ref g, hs, rfl, rfl⟩) fun u0 s1 ⟨v0, H1, I1, r1, q1, q2⟩ => ?_)
  subst q1
  rw [q2] at I1
  obtain rfl : u0 = Value.ref g := r1
  refine PySem.W.callWith_K (h₀ := Z.base) I1.ok.mod.kin hk (thn ((pa_cons he pa_nil hst).run p2 pins s1 σ H _ I1 ht) fun us s2 ⟨vs, H2, I2, r2, q⟩ => ⟨I2.kIn, ?_⟩) hst hpl
  have hl : us.length = ps.length := r2.length.symm.trans (F.len _ _ _ _ q)
  have bb := hb s2 us I2.kIn (by rw [List.append_nil]; exact hl)
  rw [List.append_nil] at bb
  exact run_fg (W := fun _ _ _ _ => False) (args := ⟨us, []⟩) F hr LamX.takes0 bb I2 r2 q
theorem de_fnc (C : FL X.prog X.w K X.mg X.base j x 2 G) (CF : ∀ l, Cl X.prog X.w ⟨K.K, K.T, l⟩ X.mg X.base k2 y 1 Gf) (hr : Rg (k + 1) X.A) (hj : j ≤ k) (hk2 : k2 ≤ k) (tkk : Takes X W) (hg : Gl X x) (ha : DA K X W false [e1, e2, e3] tA gA)
    (hdb : (x == ("__debug__" : Str)) = false := by decide) (he : starEach [e1, e2, e3] X.env = (false, eval e1 X.env) :: starEach [e2, e3] X.env := by rfl) (hpl : (backTo pos (starEach [e2, e3] X.env)).any (·.1) = false := by rfl) :
    DE K X W .st (.Call (.Name x p) [e1, e2, e3] [] pos) (tSem X (.Call (.Name x p) [e1, e2, e3] [] pos)) (eFnC y G Gf gA) := by
  obtain ⟨K0, T0, L0⟩ := K
  cases ha.hK
  refine ⟨rfl, pe_sem, fun f en w σ F H Q o h pins s I => ?_⟩
  obtain ⟨fd, ps, Ng, pg, bg, sg, b, FD, S, hmg, kp, hbn, hps, hNb, hvb, hdb2, hcd2, hall⟩ := C.ex
  obtain ⟨oc, od, dV, kV, doc, pm', an, cdv, ct, osl, rfl, lk, hcd, _, _⟩ := FD.ex
  obtain ⟨gs, hG, hall⟩ := hall fun d w => plainR (Gf [d] w)
  refine wpAny_Call_Name_kw (ld_glob I hg hmg (PySem.W.callWith_K (h₀ := X.base) I.ok.mod.kin kp (thn (ha.pa.run pos pins s σ H (fun vs H1 => ∃ d1 d2 w1 F1, Ok ⟨X.K, T0, L0⟩ f en w1 σ F1 H1 ∧ DvAll X.K f.aw F1 vs [d1, d2, .fn y] ∧ Wn .st X.K f.aw F1 H1 Q (WE W σ) (G (fun d w => plainR (Gf [d] w)) [d1, d2] w1)) I ?_) fun us s3 ⟨vs, H3, I3, r, d1, d2, w3, F3, o3, dv, hw3⟩ => ⟨I3.kIn, ?_⟩) he hpl) hdb)
  · refine ha.es f en w σ F H _ o ?_
    unfold eFnC at h
    cases q : gA en w with
    | bad => rw [q] at h; exact h
    | ex c fn a w1 => rw [q] at h; exact h
    | ok ds w1 =>
      rw [q] at h
      split at h
      · rename_i d1 d2 f' w2 e
        cases e
        split at h
        · rename_i ef
          subst ef
          intro vs F1 H1 g1 r1
          exact ⟨d1, d2, w1, F1, o.step g1, r1, Wn.any h g1⟩
        · exact h.elim
      · exact h.elim
      · rename_i e; cases e
      · exact h.elim
  · cases dv with
    | @cons v1 _ _ _ dv1 dv =>
      cases dv with
      | @cons v2 _ _ _ dv2 dv =>
        cases dv with
        | @cons v3 _ _ _ dv3 dv =>
          cases dv
          cases dv3
          have eT : f.aw.T = T0 := o3.tT
          have hlN : 2 + 1 ≤ Ng.length := by
            have z := congrArg List.length S.pre
            rw [List.length_take] at z
            omega
          have run := LamX.run_ofS (CX := L2.CX X.prog X.w) (N := Ng) (ps := ps) (us := us) (vs := [v1, v2, .ref (He.ga X.K y)]) (Q := Q) (E := WE W σ) lk hcd S (A := X.A) (outer := X.stack) (s := s3) (H := H3) hr.room I3.env0 (by
              have z := hbn s3 us I3.kIn (by rw [List.append_nil]; exact r.length.symm.trans hps.symm)
              rw [List.append_nil] at z
              exact z) r hps.symm fun hr' => ?_
          · refine wpAny_call (codeAny_mono run fun z s' hz => ?_)
            match z, hz with
            | .error e, hz => exact passAt tkk σ pins H3 s3 e s' I3 hz
            | .ok (.ret u), hz => exact I3.after hz
            | .ok .next, hz => exact False.elim hz
            | .ok .brk, hz => exact False.elim hz
            | .ok .cont, hz => exact False.elim hz
          · have hR : Rg k (X.A.deeper (envOfC x sg s3.heap.objs.size (He.ga X.K x) cdv)) := ⟨hr', hr.gd⟩
            obtain ⟨fdy, psy, Fy, my, ky, by_⟩ := CF (some ⟨f.aw, He.ga X.K y, F3, H3⟩)
            have act : ActR ⟨X.K, T0, some ⟨f.aw, He.ga X.K y, F3, H3⟩⟩ (cxOf (L2.CX X.prog X.w) X.prog X.w X.K X.mg X.base Ng x sg (He.ga X.K x) cdv X.A X.stack s3 H3 (WE W σ)) (We (WE W σ)) 2 b (fun d w => plainR (Gf [d] w))
                (fun te σZ HZ Q => σZ[2]? = some (some (.ref (He.ga X.K y))) ∧ tCons te tNil σZ HZ fun vs H2 => spD ⟨X.K, T0, some ⟨f.aw, He.ga X.K y, F3, H3⟩⟩ 1 Gf vs H2 Q fun _ _ _ => False) := by
              intro s' e te ge p1 p2 hs he' hst hpl'
              refine ⟨rfl, pe_actF (Z := cxOf (L2.CX X.prog X.w) X.prog X.w X.K X.mg X.base Ng x sg (He.ga X.K x) cdv X.A X.stack s3 H3 (WE W σ)) (Fy.mono hk2) hR ky by_ he'.pe hNb hvb hdb2 hcd2 hst hpl', fun fz enz wz σz Fz Hz Qz oz hz => ?_⟩
              unfold eAct at hz
              cases q : enz[2]? with
              | none => rw [q] at hz; exact hz.elim
              | some sl =>
                cases sl with
                | non => rw [q] at hz; exact hz.elim
                | dat d => rw [q] at hz; exact hz.elim
                | own d => rw [q] at hz; exact hz.elim
                | dic d => rw [q] at hz; exact hz.elim
                | hol =>
                  rw [q] at hz
                  dsimp only at hz
                  obtain ⟨l, e1', e2', e3', e4', gl⟩ := oz.hol 2 q
                  cases e1'
                  refine ⟨e2', ?_⟩
                  show te σz Hz fun v H4 => spD ⟨X.K, T0, some ⟨f.aw, He.ga X.K y, F3, H3⟩⟩ 1 Gf [v] H4 Qz fun _ _ _ => False
                  refine he'.es.bindS hs oz hz fun d w4 v F4 H4 g4 o4 r4 h4 => sp_of o4 (.cons r4 .nil) rfl ?_
                  cases q2 : Gf [d] w4 with
                  | bad => rw [q2] at h4; exact h4
                  | ex c fn a w5 => rw [q2] at h4; exact h4.elim
                  | ok z w5 =>
                    rw [q2] at h4
                    exact h4
            obtain ⟨t, ht⟩ := hall (some ⟨f.aw, He.ga X.K y, F3, H3⟩) cdv X.A X.stack s3 H3 (WE W σ) _ (hR.mono hj) act
            refine ⟨t, ht.ps, ht.es ⟨f.aw, F3, H3⟩ _ w3 _ _ _ _ (startL_ok (K := ⟨X.K, T0, L0⟩) (vs := [v1, v2]) (ds := [d1, d2]) (f := He.ga X.K y) o3.here o3.awF eT o3.tabs (.cons dv1 (.cons dv2 .nil)) hlN) ?_⟩
            rw [hG [d1, d2] w3 rfl] at hw3
            unfold runL at hw3
            cases q : gs (([d1, d2].map Sl.dat) ++ .hol :: List.replicate (Ng.length - ([d1, d2].length + 1)) .non) w3 with
            | nx en w1 =>
              rw [q] at hw3
              exact fun σ F' H' o => hw3 .non F' H' o.go .non
            | rt d w1 =>
              rw [q] at hw3
              exact fun v F' H' g' r' => hw3 v F' H' g' r'
            | bk en w1 => rw [q] at hw3; exact hw3.elim
            | rf d w1 => rw [q] at hw3; exact hw3.elim
            | ct en w1 => rw [q] at hw3; exact hw3.elim
            | bad => rw [q] at hw3; exact hw3.elim
            | ex c fn a en w1 =>
              rw [q] at hw3
              exact fun cls dx σ F' H' o x => hw3 cls dx F' H' o.go x
end
end DL

/-! DL, part u: the end of a law, its def's promise asked where the caller stands. -/
namespace DL
open PySem PySem.Spec L2
open PyProof.Rows hiding St
section
variable {h h' : Heap} {a : Addr} {so : Obj} {ns : List Int} {off : Bool} {tabs : List Addr} {b : Addr} {o : Obj} {vs : List Value}
/-- what is tracked when the law begins: the empty code tables; the script, unless it is frozen anyway -/
def firstHp (a : Addr) (so : Obj) (ns : List Int) (off : Bool) (tabs : List Addr) : Hp := fun b =>
  if b ∈ tabs then some (.tbl #[]) else if b = a ∧ off = false then some (.frz so (.lst (ns.map V.int))) else none
theorem first_cases (z : firstHp a so ns off tabs b ≠ none) : (b ∈ tabs ∧ firstHp a so ns off tabs b = some (.tbl #[])) ∨ (b ∉ tabs ∧ b = a ∧ off = false ∧ firstHp a so ns off tabs b = some (.frz so (.lst (ns.map V.int)))) := by
  unfold firstHp at z ⊢
  by_cases h1 : b ∈ tabs
  · exact .inl ⟨h1, if_pos h1⟩
  · by_cases h2 : b = a ∧ off = false
    · exact .inr ⟨h1, h2.1, h2.2, by rw [if_neg h1, if_pos h2]⟩
    · rw [if_neg h1, if_neg h2] at z
      exact absurd rfl z
/-- an object that is neither a list's nor an empty table's is not tracked -/
theorem first_none (hs : h.get? a = some { cls := .type "list", data := .seq vs.toArray }) (ht : ∀ t ∈ tabs, h.get? t = some { cls := .none, data := .fields #[] }) (e : h.get? b = some o)
    (n1 : ∀ v n, o.data ≠ .seq v n) (n2 : o.data ≠ .fields #[]) : firstHp a so ns off tabs b = none := by
  cases q : firstHp a so ns off tabs b with
  | none => rfl
  | some u =>
    rcases first_cases (by rw [q]; exact fun y => nomatch y) with ⟨m, _⟩ | ⟨_, rfl, _⟩
    · rw [ht b m] at e
      cases e
      exact absurd rfl n2
    · rw [hs] at e
      cases e
      exact absurd rfl (n1 _ _)
theorem first_ns {m : Str → Option Value} (hs : h.get? a = some { cls := .type "list", data := .seq vs.toArray }) (ht : ∀ t ∈ tabs, h.get? t = some { cls := .none, data := .fields #[] }) (n : h.Ns b m) : (hidT h (firstHp a so ns off tabs)).Ns b m := by
  obtain ⟨o, es, ep, e, d, r⟩ := n
  exact ⟨o, es, ep, hidT_get e (first_none hs ht e (fun v k y => by rw [d] at y; cases y) fun y => by rw [d] at y; cases y), d, r⟩
end
/-- the law's def runs at the caller and says True -/
theorem end_run {P : Program} {w : World} {K : PySem.W.Frag} {mg mb : Str → Option Value} {k : Nat} {fa a : Addr} {cs : List (Addr × Addr)} {fd : FuncData} {x : Str} {sp : Sp} {s : Shared} {vs : List Value} {ns : List Int}
    (kin : K.In s.heap) (gl : s.heap.Ns mainGlobals mg) (bl : s.heap.Ns builtinsNs mb) (boot : ∀ y : Str, y ≠ "__name__" → mb y = bootBuiltins y) (nl : s.heap.NoLimit) (gens : s.gens = #[])
    (tb : ∀ p ∈ cs, s.heap.get? p.2 = some { cls := .none, data := .fields #[] }) (tk : ∀ p ∈ cs, K.lookup p.2 = none) (hd : ∀ p ∈ cs, PySem.W.CodeHd s.heap p.1 p.2)
    (bmod : ∃ bm ob, mg "__builtins__" = some (.ref bm) ∧ bm ≠ builtinsNs ∧ s.heap.get? bm = some ob ∧ ob.cls = .type "module" ∧ ob.dict = some builtinsNs ∧ ob.data = .plain)
    (scr : s.heap.get? a = some { cls := .type "list", data := .seq vs.toArray }) (hni : IntsAre vs ns) (len : ns.length ≤ sizeLine) (hr : Rg k callerA)
    (F : ∀ base : Heap, K.In base → base.Ns mainGlobals mg → (∀ p ∈ cs, LamX.TabB base mg p.1 p.2) → FG P w K mg base k fa fd [x] sp) (bind : ∀ (s : Shared) (u : Value), BindsTo s fd ⟨[u], []⟩ [(x, u)])
    (law : ∀ H : Hp, (∀ p ∈ cs, H p.2 = some (.tbl #[])) → SqL K H a (ns.map V.int) → (∀ b ps, H b = some (.tbl ps) → b ∈ cs.map (·.2)) → sp [.ref a] H (fun v _ => v = .bl true) fun _ _ _ => False) :
    codeAny (model P w) callerA (.call (.ref fa) ⟨[.ref a], []⟩) (fun r s' => r = .ok (.ret (.bool true)) ∧ OldK s.heap s'.heap ∧ s'.os = s.os ∧ AllBare s'.gens) s := by
  have ht : ∀ t ∈ cs.map (·.2), s.heap.get? t = some { cls := .none, data := .fields #[] } := fun t m => by
    obtain ⟨p, hp, rfl⟩ := List.mem_map.mp m
    exact tb p hp
  have ma : a ∉ cs.map (·.2) := fun m => by
    have e := ht a m
    rw [scr] at e
    exact absurd (congrArg Obj.data (Option.some.inj e)) (fun y => nomatch y)
  obtain ⟨so, hso⟩ : ∃ so : Obj, so = { cls := .type "list", data := .seq vs.toArray } := ⟨_, rfl⟩
  obtain ⟨off, hoff⟩ : ∃ off : Bool, off = (K.lookup a).isSome := ⟨_, rfl⟩
  obtain ⟨H, hH⟩ : ∃ H : Hp, H = firstHp a so ns off (cs.map (·.2)) := ⟨_, rfl⟩
  have hc : ∀ b, H b ≠ none → (b ∈ cs.map (·.2) ∧ H b = some (.tbl #[])) ∨ (b ∉ cs.map (·.2) ∧ b = a ∧ off = false ∧ H b = some (.frz so (.lst (ns.map V.int)))) := fun b z => by
    rw [hH] at z ⊢
    exact first_cases z
  have tracked : ∀ p ∈ cs, H p.2 = some (.tbl #[]) := fun p hp => by
    rw [hH]
    exact if_pos (List.mem_map.mpr ⟨p, hp, rfl⟩)
  have onlyT : ∀ b ps, H b = some (.tbl ps) → b ∈ cs.map (·.2) := fun b ps e => by
    rcases hc b (by rw [e]; exact fun y => nomatch y) with ⟨m, _⟩ | ⟨_, _, _, e2⟩
    · exact m
    · rw [e] at e2
      cases e2
  have inBase : ∀ {b : Addr} {o : Obj}, s.heap.get? b = some o → (∀ v n, o.data ≠ .seq v n) → o.data ≠ .fields #[] → (hidT s.heap H).get? b = some o := fun {b o} e n1 n2 => hidT_get e (by rw [hH]; exact first_none scr ht e n1 n2)
  have nsIn : ∀ {b : Addr} {m : Str → Option Value}, s.heap.Ns b m → (hidT s.heap H).Ns b m := fun {b m} n => by
    rw [hH]
    exact first_ns scr ht n
  have kBase : K.In (hidT s.heap H) := fun b o e => hidT_get (kin b o e) (by
    cases q : H b with
    | none => rfl
    | some u =>
      rcases hc b (by rw [q]; exact fun y => nomatch y) with ⟨m, _⟩ | ⟨_, rfl, hf, _⟩
      · obtain ⟨p, hp, rfl⟩ := List.mem_map.mp m
        rw [tk p hp] at e
        cases e
      · rw [hoff, e] at hf
        cases hf)
  have tabs : ∀ p ∈ cs, LamX.TabB (hidT s.heap H) mg p.1 p.2 := fun p hp => by
    constructor
    case code =>
      obtain ⟨o, us, x1, x2, x3, x4, x5, x6, x7, e, c1, d1, r⟩ := hd p hp
      exact ⟨o, us, x1, x2, x3, x4, x5, x6, x7, inBase e (fun v n y => by rw [d1] at y; cases y) (fun y => by rw [d1] at y; cases y; exact absurd r.1 (by simp)), c1, d1, r⟩
    case bm =>
      obtain ⟨bm, ob, b1, b2, b3, b4, b5, b6⟩ := bmod
      refine ⟨bm, ob, b1, b2, fun y => ?_, fun y => ?_, inBase b3 (fun v n z => by rw [b6] at z; cases z) (fun z => by rw [b6] at z; cases z), b4, b5, b6⟩
      · obtain ⟨o, es, ep, e, d, _⟩ := gl
        rw [← y, b3] at e
        cases e
        rw [b6] at d
        cases d
      · rw [y, tb p hp] at b3
        cases b3
        cases b6
    case gP =>
      intro y
      obtain ⟨o, es, ep, e, d, _⟩ := gl
      rw [y, tb p hp] at e
      cases e
      cases d
  have hok : HOk P w H s.heap := fun b u e => by
    rcases hc b (by rw [e]; exact fun y => nomatch y) with ⟨m, e2⟩ | ⟨_, rfl, _, e2⟩
    · rw [e] at e2
      cases e2
      exact ht b m
    · rw [e] at e2
      cases e2
      refine ⟨by rw [hso]; exact scr, by rw [List.length_map]; exact len, vs, _, L2.vals_ints hni, scr⟩
  have seq : SqL K H a (ns.map V.int) := by
    cases q : K.lookup a with
    | none => exact .inl (.inr ⟨so, by rw [hH]; exact (if_neg ma).trans (if_pos ⟨rfl, by rw [hoff, q]; rfl⟩)⟩)
    | some o =>
      have e := kin a o q
      rw [scr] at e
      cases e
      exact .inr ⟨_, vs.toArray, _, q, rfl, rfl, rfl, by rw [List.size_toArray, hni.length]; exact len, by simpa using L2.vals_ints hni⟩
  have ev : Env0 P w K mg (hidT s.heap H) callerA [] s H :=
    ⟨rfl, ⟨kBase, nsIn gl, ⟨mb, nsIn bl, boot⟩, nl.elim fun mc z => ⟨mc, nsIn z.1, z.2⟩⟩, fun b o e => of_hidT e, Nat.le_of_eq (hidT_size _ _), trivial, fun b m => absurd (show b ∈ ([] : List Addr) from m) List.not_mem_nil, hok, .of_eq gens⟩
  refine codeAny_mono ((F _ kBase (nsIn gl) tabs).run callerA [] s H ⟨[.ref a], []⟩ [.ref a] [.ref a] _ _ hr ev (bind s (.ref a)) (.cons rfl .nil) (law H tracked seq onlyT)) fun r s' z => ?_
  match r, z with
  | .error e, z =>
    obtain ⟨_, _, _, _, _, _, _, _, _, _, _, _, bad⟩ := (show L2.CX P w [] H s (fun _ _ _ => False) e s' from z)
    exact bad.elim
  | .ok .next, z => exact False.elim z
  | .ok .brk, z => exact False.elim z
  | .ok .cont, z => exact False.elim z
  | .ok (.ret u), z =>
    obtain ⟨v, H2, os, bare, un, hok2, ru, qv⟩ := z
    cases (show v = .bl true from qv)
    cases (show u = Value.bool true from ru)
    refine ⟨rfl, ?_, os, bare⟩
    have same : ∀ b o, b ∉ cs.map (·.2) → s.heap.get? b = some o → s'.heap.get? b = some o := fun b o m e => by
      cases q : H b with
      | none => exact un.keep b o e q (fun y => absurd (show b ∈ ([] : List Addr) from y) List.not_mem_nil) List.not_mem_nil
      | some u =>
        rcases hc b (by rw [q]; exact fun y => nomatch y) with ⟨m2, _⟩ | ⟨_, _, _, e2⟩
        · exact absurd m2 m
        · have e3 := (hok2 b _ (un.frzs b so _ e2)).1
          have e4 := (hok b _ e2).1
          rw [e] at e4
          cases e4
          exact e3
    have more : ∀ p ∈ cs, ∃ xs : Array Value, s'.heap.get? p.2 = some { cls := .none, data := .fields xs } := fun p hp => by
      obtain ⟨xs, e⟩ := un.tbls p.2 #[] (tracked p hp)
      exact ⟨_, hok2 p.2 _ e⟩
    constructor
    case old =>
      intro b o e
      by_cases m : b ∈ cs.map (·.2)
      · obtain ⟨p, hp, rfl⟩ := List.mem_map.mp m
        obtain ⟨xs, e2⟩ := more p hp
        rw [tb p hp] at e
        cases e
        exact .inr (.inl ⟨((hd p hp).tab (tb p hp)).isCodeTable, rfl, #[], xs, rfl, by rw [Array.empty_append]; exact e2⟩)
      · exact .inl (same b o m e)
    case there =>
      intro b o e
      by_cases m : b ∈ cs.map (·.2)
      · obtain ⟨p, hp, rfl⟩ := List.mem_map.mp m
        obtain ⟨xs, e2⟩ := more p hp
        exact ⟨_, e2⟩
      · exact ⟨o, same b o m e⟩
end DL

/-! DL, part v: the head's facts without the code tables; from a law's def to its row. -/
namespace DL
open PySem PySem.Spec L2
open PyProof.Rows hiding St
/-- each def of the row: its function, its code, the code's empty table -/
def TabsOf (q : Program) (mg : Str → Option Value) (h : Heap) : Prop := ∀ d ∈ recsOf q, ∃ a o fd c P, mg d.name = some (.ref a) ∧ h.get? a = some o ∧ o.data = .func fd ∧ fd.code = .ref c ∧ h.IsCode c P #[] ∧ h.TableAt c P #[]
theorem walk_own {l : PySem.W.OpenLaw} {n k : Nat} {q : Program} {loose : List Str} {XP : (Str → Option Value) → Heap → Prop} {YP : World → Heap → Prop} {d : DefRec} {x : Str} (hn : l.most = some n) (hn2 : n ≤ sizeLine) (hdf : d.params.defaults = []) (hr : Rg k callerA)
    (F : ∀ (w : World) (mg : Str → Option Value) (fa : Addr) (h : Heap), YP w h → h.Ns mainGlobals mg → mg d.name = some (.ref fa) → TabsOf q mg h → ∃ (K : PySem.W.Frag) (fd : FuncData) (cs : List (Addr × Addr)) (sp : Sp), K.In h ∧
      (∀ p ∈ cs, h.get? p.2 = some { cls := .none, data := .fields #[] }) ∧ (∀ p ∈ cs, K.lookup p.2 = none) ∧ (∀ p ∈ cs, PySem.W.CodeHd h p.1 p.2) ∧ (∀ (s : Shared) (u : Value), BindsTo s fd ⟨[u], []⟩ [(x, u)]) ∧
      (∀ (H : Hp) (a : Addr) (ns : List Int), ns.length ≤ n → (∀ z ∈ ns, Builtin.Int.intBits z ≤ 1048576) → (∀ p ∈ cs, H p.2 = some (.tbl #[])) → SqL K H a (ns.map V.int) → (∀ b ps, H b = some (.tbl ps) → b ∈ cs.map (·.2)) → sp [.ref a] H (fun v _ => v = .bl true) fun _ _ _ => False) ∧
      ∀ base : Heap, K.In base → base.Ns mainGlobals mg → (∀ p ∈ cs, LamX.TabB base mg p.1 p.2) → FG l.prog w K mg base k fa fd [x] sp) :
    PySem.W.WalkO q loose XP YP l.row.toRowW d [] (fun f vs => PySem.call f vs) := by
  refine Att.attach_callB hn hdf fun w s₀ s mg mb fa o pm cd doc a vs ns G Y ho hd hcd hmg hobj hni hlen hbits hg => ?_
  obtain ⟨K, fd, cs, sp, kin, tb, tk, ch, bind, law, hF⟩ := F w mg fa _ Y G.T.g hmg G.T.tab
  exact end_run kin G.T.g G.T.b G.T.builtins G.T.nolimit hg tb tk ch G.T.bmain hobj hni (Nat.le_trans hlen hn2) hr hF bind fun H h1 h2 h3 => law H a ns hlen hbits h1 h2 h3
/-! ### the Hook -/
end DL

/-! DL, part w: the code tables of the defs that make lambdas; the law's promise at the beginning. -/
namespace DL
open PySem PySem.Spec L2
open PyProof.Rows hiding St
abbrev qnL (x : Str) : Str := (x ++ ".<locals>.") ++ "<lambda>"
def csOf (K : PySem.W.Frag) (xs : List Str) : List (Addr × Addr) := xs.filterMap (codeAt K)
def TTof (K : PySem.W.Frag) (xs : List Str) : List (Addr × Str) := xs.filterMap fun x => (codeAt K x).map fun p => (p.2, qnL x)
section
variable {K : PySem.W.Frag} {h : Heap} {mg : Str → Option Value} {q : Program} {xs : List Str} {x : Str} {base : Heap}
theorem codeAt_some {c P : Addr} (e : codeAt K x = some (c, P)) : ∃ oc od fd osl o2 d2 vs s2, K.lookup (He.ga K x) = some ⟨oc, od, .func fd, osl⟩ ∧ fd.code = .ref c ∧ K.lookup c = some ⟨o2, d2, .fields vs, s2⟩ ∧ vs[11]? = some (.ref P) := by
  unfold codeAt at e
  split at e
  · rename_i oc od fd osl e1
    split at e
    · rename_i c' e2
      split at e
      · rename_i o2 d2 vs s2 e3
        split at e
        · rename_i P' e4
          cases e
          exact ⟨oc, od, fd, osl, o2, d2, vs, s2, e1, e2, e3, e4⟩
        · cases e
      · cases e
    · cases e
  · cases e
/-- what the head says of the tables -/
theorem lam_facts (X : K.In h) (nt : NoTab K) (tb : TabsOf q mg h) (gl : mg x = some (.ref (He.ga K x))) (hx : ∃ d ∈ recsOf q, d.name = x) {c P : Addr} (e : codeAt K x = some (c, P)) :
    h.get? P = some { cls := .none, data := .fields #[] } ∧ K.lookup P = none ∧ PySem.W.CodeHd h c P := by
  obtain ⟨oc, od, fd, osl, o2, d2, vs, s2, e1, e2, e3, e4⟩ := codeAt_some e
  obtain ⟨d, hd, rfl⟩ := hx
  obtain ⟨a, o, fd', c', P', f1, f2, f3, f4, f5, f6⟩ := tb d hd
  rw [gl] at f1
  cases f1
  rw [X _ _ e1] at f2
  cases f2
  cases f3
  rw [e2] at f4
  cases f4
  have ch := PySem.W.CodeHd.of f5 f6
  obtain ⟨⟨oc', vs', g1, g2, g3, g4⟩, gP⟩ := f6
  rw [X _ _ e3] at g1
  cases g1
  cases g3
  rw [e4] at g4
  cases g4
  refine ⟨gP, ?_, ch⟩
  cases q : K.lookup P with
  | none => rfl
  | some ob =>
    have z := X _ _ q
    rw [gP] at z
    cases z
    exact absurd (nt _ _ q) (by decide)
theorem cs_mem {p : Addr × Addr} (m : p ∈ csOf K xs) : ∃ x ∈ xs, codeAt K x = some p := by
  unfold csOf at m
  obtain ⟨x, hx, e⟩ := List.mem_filterMap.mp m
  exact ⟨x, hx, e⟩
theorem TT_mem {p : Addr × Str} (m : p ∈ TTof K xs) : ∃ x ∈ xs, ∃ c, codeAt K x = some (c, p.1) ∧ p.2 = qnL x := by
  unfold TTof at m
  obtain ⟨x, hx, e⟩ := List.mem_filterMap.mp m
  cases z : codeAt K x with
  | none => rw [z] at e; cases e
  | some r =>
    rw [z] at e
    cases e
    exact ⟨x, hx, r.1, z, rfl⟩
theorem tabs_of {H : Hp} (t : ∀ p ∈ csOf K xs, H p.2 = some (.tbl #[])) : LamX.Tabs (TTof K xs) H := fun p hp => by
  obtain ⟨x, hx, c, e, _⟩ := TT_mem hp
  exact LamX.TabS.nil (t (c, p.1) (List.mem_filterMap.mpr ⟨x, hx, e⟩))
end
/-- the law's promise when it begins -/
theorem law_sp {K : Kt} {G : List D → Wl → Res} {H : Hp} {a : Addr} {ns : List Int} {w' : Wl} (hs : SqL K H a (ns.map V.int)) (ht : LamX.Tabs K.T H) (hG : G [.scr ns] [] = .ok (.bl true) w') : spD K 1 G [.ref a] H (fun v _ => v = .bl true) fun _ _ _ => False := by
  obtain ⟨F0, hF, h1, h2⟩ : ∃ F0 : Hp, SqL K F0 a (ns.map V.int) ∧ Same F0 H ∧ ∀ (b : Addr) (ps : Array Value), F0 b ≠ some (.tbl ps) := by
    rcases hs with (r | ⟨o, r⟩) | k
    · refine ⟨fun b => if b = a then some (.lst (ns.map V.int)) else none, .inl (.inl (if_pos rfl)), fun b o e => ?_, fun b ps e => ?_⟩
      · dsimp only at e
        by_cases z : b = a
        · rw [if_pos z] at e
          cases e
          rw [z]
          exact r
        · rw [if_neg z] at e
          cases e
      · dsimp only at e
        by_cases z : b = a
        · rw [if_pos z] at e
          cases e
        · rw [if_neg z] at e
          cases e
    · refine ⟨fun b => if b = a then some (.frz o (.lst (ns.map V.int))) else none, .inl (.inr ⟨o, if_pos rfl⟩), fun b u e => ?_, fun b ps e => ?_⟩
      · dsimp only at e
        by_cases z : b = a
        · rw [if_pos z] at e
          cases e
          rw [z]
          exact r
        · rw [if_neg z] at e
          cases e
      · dsimp only at e
        by_cases z : b = a
        · rw [if_pos z] at e
          cases e
        · rw [if_neg z] at e
          cases e
    · exact ⟨fun _ => none, .inr k, (fun b o e => by cases e), (fun b ps e => by cases e)⟩
  refine ⟨⟨⟨none, K.T⟩, F0, H⟩, [.scr ns], [], rfl, ⟨Same.refl _, fun _ _ _ _ h => h, fun _ h => h, fun h => h, h1, h2, fun _ _ h => h, (fun a e => by cases e)⟩, (fun a e => by cases e), rfl, ht, .cons (.scr hF) .nil, rfl, ?_⟩
  rw [hG]
  intro v F' H' g r
  cases r
  rfl
end DL

/-! DL, part x: what the laws have in common: the generator of draws, its beginning, the law itself. -/
namespace DL
open PySem PySem.Spec L2
open PyProof.Rows hiding St
def gTake : SG :=
  (sSeq (sIf (eBin oGt (eBin oIx (eVar 0) (eC (.int 0))) (eC (.int 0))) (sSeq (sTake 0 2 (eC (.int 0)) (eBin oIx (eVar 0) (eC (.int 0))) (eVar 1))
  (sRet (eVar 2))) sPass)
  (sSeq (sPut 0 (eC (.int 2)) (eBin oAdd (eBin oIx (eVar 0) (eC (.int 2))) (eC (.int 1))))
  (sSeq (sSet 3 (eBin oAdd (eC (.int 40609)) (eBin oMul (eC (.int 2)) (eBin oMod (eCall oInt (aCons (eBin oFdiv (eBin oIx (eVar 0) (eC (.int 1))) (eC (.int 31))) aNil)) (eC (.int 9001))))))
  (sSeq (sPut 0 (eC (.int 1)) (eBin oMod (eCall oInt (aCons (eBin oAdd (eBin oAdd (eBin oMul (eBin oIx (eVar 0) (eC (.int 1))) (eVar 3)) (eBin oMul (eC (.int 52361)) (eBin oIx (eVar 0) (eC (.int 2))))) (eC (.int 13))) aNil)) (eC (.int 2147483549))))
  (sRet (eBin oMod (eCall oInt (aCons (eBin oFdiv (eBin oIx (eVar 0) (eC (.int 1))) (eC (.int 251))) aNil)) (eVar 1)))))))
def GTake : List D → Wl → Res := fun ds w => runG 4 gTake ds w
theorem take_ok {k : Nat} {w : Wl} {m : Int} (h : Wk (k + 1) w) (h0 : 0 < m) (h1 : m < 1073741824) : ∃ d w', GTake [.well, .int m] w = .ok (.int d) w' ∧ 0 ≤ d ∧ d < m ∧ Wk k w' := by
  obtain ⟨a, b, c, rfl, ha, hb, hb2, hc, hc2⟩ := h
  by_cases z : 0 < a
  · refine ⟨a % m, [a / m, b, c], ?_, Int.emod_nonneg _ (by omega), Int.emod_lt_of_pos _ h0, a / m, b, c, rfl, Int.ediv_nonneg ha (by omega), hb, hb2, hc, by omega⟩
    · simp [GTake, runG, gTake, sSeq, Out.seq, sIf, Res.thn, eBin, Res.bind, eVar, eC, oIx, oGt, oRel, oI, sTake, sRet, atI, ixN, z, h0, h1]
  · have f0 : 0 ≤ b / 31 % 9001 := Int.emod_nonneg _ (by omega)
    have f1 : b / 31 % 9001 < 9001 := Int.emod_lt_of_pos _ (by omega)
    have m1 : CMulW 2 (b / 31 % 9001) := by
      have h1 := log_lt (i := b / 31 % 9001) (n := 64) f0 (by omega) (by omega)
      have h2 := log_lt (i := 2) (n := 64) (by omega) (by omega) (by omega)
      unfold CMulW
      omega
    have m2 : CMulW b (40609 + 2 * (b / 31 % 9001)) := by
      have h1 := log_lt (i := b) (n := 64) hb (by omega) (by omega)
      have h2 := log_lt (i := 40609 + 2 * (b / 31 % 9001)) (n := 64) (by omega) (by omega) (by omega)
      unfold CMulW
      omega
    have m3 : CMulW 52361 (c + 1) := by
      have h1 := log_lt (i := 52361) (n := 64) (by omega) (by omega) (by omega)
      have h2 := log_lt (i := c + 1) (n := 64) (by omega) (by omega) (by omega)
      unfold CMulW
      omega
    have m4 : ∀ i j : Int, 0 < j → j < 2 ^ 64 → CDivW i j := fun i j h1 h2 => ⟨h1, by
      have := log_lt (i := j) (n := 64) (by omega) h2 (by omega)
      omega⟩
    have d1 := m4 b 31 (by omega) (by omega)
    have d2 := m4 ((b * (40609 + 2 * (b / 31 % 9001)) + 52361 * (c + 1) + 13) % 2147483549) 251 (by omega) (by omega)
    refine ⟨(b * (40609 + 2 * (b / 31 % 9001)) + 52361 * (c + 1) + 13) % 2147483549 / 251 % m, [a, (b * (40609 + 2 * (b / 31 % 9001)) + 52361 * (c + 1) + 13) % 2147483549, c + 1], ?_, Int.emod_nonneg _ (by omega), Int.emod_lt_of_pos _ h0, a, _, c + 1, rfl, ha, Int.emod_nonneg _ (by omega), Int.emod_lt_of_pos _ (by omega), by omega, by omega⟩
    simp [GTake, runG, gTake, sSeq, Out.seq, sIf, sPass, Res.thn, eBin, Res.bind, eVar, eC, oIx, oGt, oRel, oI, sTake, sRet, atI, ixN, z, h0, h1, sPut, sSet, eCall, aCons, aNil, AR.cons, oInt, oAdd, oOr, oAddI, oMul, oMod, oFdiv, m1, m2, m3, d1, d2]

theorem allInts_map : ∀ ns : List Int, allInts (ns.map D.int) = some ns
  | [] => rfl
  | n :: ns => by
    rw [List.map_cons]
    simp only [allInts, allInts_map ns, Option.map_some]
theorem at_in {ns : List Int} {i : Int} (h0 : 0 ≤ i) (h : i < ns.length) : ∃ n, atI ns i = some n := by
  have hi : i.toNat < ns.length := by omega
  refine ⟨ns[i.toNat], ?_⟩
  unfold atI
  have e : ixN ns.length i = some i.toNat := by
    unfold ixN
    simp [h0, h]
  rw [e]
  exact List.getElem?_eq_getElem hi
/-! ### the law -/
def eTurn (GR GW : List D → Wl → Res) : EG := eWell 2 GR GW (aCons (eVar 0) (aCons (eVar 1) aNil))
end DL

/-! DL, part y: what printed functions answer on data that stand for lists, pairs and so on. -/
namespace DL
open PySem PySem.Spec L2
open PyProof.Rows hiding St

section
variable {α β : Type} {b : BG} {gt ge : EG} {gi : AG} {S en : List Sl} {w : Wl} {vs : List Nat}
theorem lc_ev (enc : α → D) (p : α → Bool) (f : α → D) : ∀ xs : List α, (∀ x ∈ xs, ∃ S', b (enc x) S = some S' ∧ gt S' w = .ok (.bl (p x)) w ∧ (p x = true → ge S' w = .ok (f x) w)) → lcG b gt ge S (xs.map enc) w = .ok ((xs.filter p).map f) w
  | [], _ => rfl
  | x :: xs, h => by
    obtain ⟨S', h1, h2, h3⟩ := h x List.mem_cons_self
    have ih := lc_ev enc p f xs fun y hy => h y (List.mem_cons_of_mem _ hy)
    cases hp : p x with
    | true =>
      have h3 := h3 hp
      rw [hp] at h2
      simp [lcG, h1, h2, h3, ih, hp, AR.cons]
    | false =>
      rw [hp] at h2
      simp [lcG, h1, h2, ih, hp]
/-- tuple of a comprehension -/
theorem tup_ev {w1 : Wl} {g : EG} {ds : List D} (h : g en w = .ok (.lst ds) w1) : eCall oTup (aCons g aNil) en w = .ok (.tup ds) w1 := by
  simp [eCall, aCons, aNil, AR.cons, h, oTup, oTup1]
end

/-! ### equality of data -/
theorem Shp.sh {k : Nat} {d : D} (h : Shp k d) (hk : k ≤ 64 := by decide) : d.sh = true := by
  obtain ⟨a, b, c⟩ := h
  have : d.toP.depth ≤ 64 := Nat.le_trans c hk
  simp [D.sh, a, SeqAt.shaped, b, this]
theorem shp_non (k : Nat) : Shp k .non := ⟨rfl, rfl, Nat.zero_le _⟩
theorem shp_lst {k : Nat} {ds : List D} (h : ∀ d ∈ ds, Shp k d) : Shp (k + 1) (.lst ds) := by
  obtain ⟨a, b, c⟩ := shps h
  exact ⟨a, b, Nat.succ_le_succ c⟩
theorem shp_map {α : Type} {k : Nat} {enc : α → D} (h : ∀ x, Shp k (enc x)) (xs : List α) : ∀ d ∈ xs.map enc, Shp k d := fun d hd => by
  obtain ⟨x, _, rfl⟩ := List.mem_map.mp hd
  exact h x
section
variable {α β γ : Type} [DecidableEq α] [DecidableEq β] [DecidableEq γ] {enc : α → D} {en2 : β → D} {en3 : γ → D}
theorem eqs_int : Eqs D.int := fun x y => by
  show (x == y) = decide (x = y)
  cases h : decide (x = y) <;> simp_all
theorem isIn_iff (h : Eqs enc) (x : α) : ∀ xs : List α, isIn (enc x) (xs.map enc) = true ↔ x ∈ xs
  | [] => by simp [isIn]
  | y :: ys => by
    have : isIn (enc x) ((y :: ys).map enc) = ((enc y).eqv (enc x) || isIn (enc x) (ys.map enc)) := rfl
    rw [this, h, Bool.or_eq_true, isIn_iff h x ys, List.mem_cons, decide_eq_true_iff]
    constructor
    · rintro (e | e)
      · exact .inl e.symm
      · exact .inr e
    · rintro (e | e)
      · exact .inl e.symm
      · exact .inr e
theorem isIn_map (h : Eqs enc) (x : α) (xs : List α) [Decidable (x ∈ xs)] : isIn (enc x) (xs.map enc) = decide (x ∈ xs) := by
  rw [Bool.eq_iff_iff, decide_eq_true_iff, isIn_iff h]
theorem eqv_dec (h : Eqs enc) (x y : α) [Decidable (x = y)] : (enc x).eqv (enc y) = decide (x = y) := (h x y).trans ((@decide_eq_decide _ _ _ _).mpr Iff.rfl)
theorem oEq_ev {w : Wl} {k m : Nat} (h : Eqs enc) (x y : α) [Decidable (x = y)] (hx : Shp k (enc x)) (hy : Shp m (enc y)) (hk : k ≤ 64 := by decide) (hm : m ≤ 64 := by decide) : oEq (enc x) (enc y) w = .ok (.bl (decide (x = y))) w := by
  simp only [oEq, hx.sh hk, hy.sh hm, Bool.and_self, if_true, eqv_dec h x y]
theorem oNe_ev {w : Wl} {k m : Nat} (h : Eqs enc) (x y : α) [Decidable (x = y)] (hx : Shp k (enc x)) (hy : Shp m (enc y)) (hk : k ≤ 64 := by decide) (hm : m ≤ 64 := by decide) : oNe (enc x) (enc y) w = .ok (.bl (!decide (x = y))) w := by
  simp only [oNe, hx.sh hk, hy.sh hm, Bool.and_self, if_true, eqv_dec h x y]
theorem oInT_ev {w : Wl} {k : Nat} (h : Eqs enc) (x : α) (xs : List α) [Decidable (x ∈ xs)] (hx : ∀ z, Shp k (enc z)) (hk : k ≤ 63 := by decide) : oIn (enc x) (.tup (xs.map enc)) w = .ok (.bl (decide (x ∈ xs))) w := by
  have h1 : (enc x).sh = true := (hx x).sh (by omega)
  have h2 : (D.tup (xs.map enc)).sh = true := (shp_tup (shp_map hx xs)).sh (by omega)
  simp [oIn, D.items, h1, h2, isIn_map h]
theorem oNotInT_ev {w : Wl} {k : Nat} (h : Eqs enc) (x : α) (xs : List α) [Decidable (x ∈ xs)] (hx : ∀ z, Shp k (enc z)) (hk : k ≤ 63 := by decide) : oNotIn (enc x) (.tup (xs.map enc)) w = .ok (.bl (!decide (x ∈ xs))) w := by
  have h1 : (enc x).sh = true := (hx x).sh (by omega)
  have h2 : (D.tup (xs.map enc)).sh = true := (shp_tup (shp_map hx xs)).sh (by omega)
  simp [oNotIn, D.items, h1, h2, isIn_map h]
end
/-! ### sets: ascending tuples of indexes -/
def encI (s : IS) : D := .tup (s.map .int)
theorem eqs_set : Eqs encI := eqs_int.tup
theorem shp_set (s : IS) : Shp 1 (encI s) := shp_tup (shp_map (fun x => shp_int x 0) s)
def encSs (ss : List IS) : D := .tup (ss.map encI)
theorem dInts_map (n : Nat) : dInts 0 1 n = ((List.range n).map fun i => ((i : Nat) : Int)).map D.int := by
  unfold dInts
  rw [List.map_map]
  refine List.map_congr_left fun i _ => ?_
  show D.int (0 + (i : Int) * 1) = D.int i
  congr 1
  omega
def upto (n : Nat) : IS := (List.range n).map fun i => ((i : Nat) : Int)
theorem mem_upto {n : Nat} {i : Int} : i ∈ upto n ↔ 0 ≤ i ∧ i < n := by
  unfold upto
  rw [List.mem_map]
  constructor
  · rintro ⟨j, hj, rfl⟩
    have := List.mem_range.mp hj
    omega
  · intro h
    exact ⟨i.toNat, List.mem_range.mpr (by omega), by omega⟩
/-! ### the text of data -/
theorem low_int (i : Int) : Low (PyData.int i).shown := fun c h => by
  by_cases hc : c < 128
  · exact hc
  · exact absurd h (shown_int_free' (k := c) ⟨by omega, by omega⟩ i)
theorem low_app {x y : Str} (hx : Low x) (hy : Low y) : Low (x ++ y) := fun c h => by
  rw [mem_cps_append] at h
  exact h.elim (hx c) (hy c)
theorem low_join {xs : List Str} (h : ∀ x ∈ xs, Low x) : Low (Str.join ", " xs) := fun c hc => by
  rw [mem_join] at hc
  rcases hc with ⟨t, ht, hc⟩ | ⟨_, hc⟩
  · exact h t ht c hc
  · rw [signs_sep] at hc
    simp only [List.mem_cons, List.not_mem_nil, or_false] at hc
    omega
theorem low_tup {xs : List Str} (h : ∀ x ∈ xs, Low x) : Low (tupleText xs) := by
  unfold tupleText
  refine low_app (low_app ?_ (low_join h)) ?_
  · intro c hc
    rw [signs_lparen] at hc
    simp only [List.mem_cons, List.not_mem_nil, or_false] at hc
    omega
  · intro c hc
    have e1 : (((",)" : String)) : Str).cps.toList = [44, 41] := by decide
    have e2 : ((((")" : String)) : Str)).cps.toList = [41] := by decide
    split at hc
    · rw [e1] at hc
      simp only [List.mem_cons, List.not_mem_nil, or_false] at hc
      omega
    · rw [e2] at hc
      simp only [List.mem_cons, List.not_mem_nil, or_false] at hc
      omega
theorem low_ok {x : Str} (h : Low x) : PyData.strOk x = true := by
  unfold PyData.strOk
  rw [Array.all_eq_true_iff_forall_mem]
  intro c hc
  have := h c (by simpa using hc)
  simp
  omega
end DL

/-! DL, part z: statements of printed functions, loops, draws. -/
namespace DL
open PySem PySem.Spec L2
open PyProof.Rows hiding St
section
variable {α β : Type} {b : BG} {gt ge g : EG} {gi : AG} {S en en1 en2 : List Sl} {w w1 w2 : Wl} {vs : List Nat} {body h k : SG} {d : D} {i : Nat}
theorem run_rt {m : Nat} {gs : SG} {ds : List D} (hh : gs (ds.map .dat ++ List.replicate (m - ds.length) .non) w = .rt d w1) : runG m gs ds w = .ok d w1 := by
  simp only [runG, hh]
theorem run_nx {m : Nat} {gs : SG} {ds : List D} (hh : gs (ds.map .dat ++ List.replicate (m - ds.length) .non) w = .nx en1 w1) : runG m gs ds w = .ok .non w1 := by
  simp only [runG, hh]
theorem seq_nx (hh : h en w = .nx en1 w1) : sSeq h k en w = k en1 w1 := by simp only [sSeq, hh, Out.seq]
theorem set_seq (hh : g en w = .ok d w1) : sSeq (sSet i g) k en w = k (en.set i (.dat d)) w1 := by simp only [sSeq, sSet, hh, Res.thn, Out.seq]
theorem ifF_seq (hh : g en w = .ok (.bl false) w1) : sSeq (sIf g h sPass) k en w = k en w1 := by simp only [sSeq, sIf, hh, Res.thn, sPass, Out.seq]
theorem ifF (hh : g en w = .ok (.bl false) w1) : sIf g h body en w = body en w1 := by simp only [sIf, hh, Res.thn]
theorem ifT (hh : g en w = .ok (.bl true) w1) : sIf g h body en w = h en w1 := by simp only [sIf, hh, Res.thn]
theorem ret_ev (hh : g en w = .ok d w1) : sRet g en w = .rt d w1 := by simp only [sRet, hh, Res.thn]
theorem set_ev (hh : g en w = .ok d w1) : sSet i g en w = .nx (en.set i (.dat d)) w1 := by simp only [sSet, hh, Res.thn]
theorem for_ev {ds : List D} (hg : gi en w = .ok ds w1) : sFor gi b body en w = forG b body ds en w1 := by simp only [sFor, hg, AR.thn]
theorem bin_ev {o : D → D → Wl → Res} {ga gb : EG} {e : D} (h1 : ga en w = .ok d w1) (h2 : gb en w1 = .ok e w2) : eBin o ga gb en w = o d e w2 := by simp only [eBin, h1, h2, Res.bind]
theorem un_ev {o : D → Wl → Res} {ga : EG} (h1 : ga en w = .ok d w1) : eUn o ga en w = o d w1 := by simp only [eUn, h1, Res.bind]
theorem tru_ev {ga : EG} {c : Bool} (h1 : ga en w = .ok (.bl c) w1) : eUn oTru ga en w = .ok (.bl c) w1 := un_ev h1
theorem not_ev {ga : EG} {c : Bool} (h1 : ga en w = .ok (.bl c) w1) : eNot ga en w = .ok (.bl (!c)) w1 := by simp only [eNot, h1, bNot]
theorem or_F {ga gb : EG} (h1 : ga en w = .ok (.bl false) w1) : eOr ga gb en w = gb en w1 := by simp only [eOr, h1, bIf]
theorem or_T {ga gb : EG} (h1 : ga en w = .ok (.bl true) w1) : eOr ga gb en w = .ok (.bl true) w1 := by simp only [eOr, h1, bIf]
theorem and_T {ga gb : EG} (h1 : ga en w = .ok (.bl true) w1) : eAnd ga gb en w = gb en w1 := by simp only [eAnd, h1, bIf]
theorem and_F {ga gb : EG} (h1 : ga en w = .ok (.bl false) w1) : eAnd ga gb en w = .ok (.bl false) w1 := by simp only [eAnd, h1, bIf]
theorem or_ev {ga gb : EG} {c e : Bool} (h1 : ga en w = .ok (.bl c) w) (h2 : gb en w = .ok (.bl e) w) : eOr ga gb en w = .ok (.bl (c || e)) w := by
  cases c
  · exact (or_F h1).trans h2
  · exact or_T h1
theorem if_T {gc ga gb : EG} (h1 : gc en w = .ok (.bl true) w1) : eIf gc ga gb en w = ga en w1 := by simp only [eIf, h1, bIf]
theorem if_F {gc ga gb : EG} (h1 : gc en w = .ok (.bl false) w1) : eIf gc ga gb en w = gb en w1 := by simp only [eIf, h1, bIf]
theorem cons_ev {ga : EG} {gr : AG} {ds : List D} (h1 : ga en w = .ok d w1) (h2 : gr en w1 = .ok ds w2) : aCons ga gr en w = .ok (d :: ds) w2 := by simp only [aCons, h1, h2, AR.cons]
theorem one_ev {ga : EG} (h1 : ga en w = .ok d w1) : aCons ga aNil en w = .ok [d] w1 := by simp only [aCons, h1, aNil, AR.cons]
theorem call_ev {o : List D → Wl → Res} {ga : AG} {ds : List D} (h1 : ga en w = .ok ds w1) : eCall o ga en w = o ds w1 := by simp only [eCall, h1]
theorem etup_ev {ga : AG} {ds : List D} (h1 : ga en w = .ok ds w1) (hl : ds.length ≤ sizeLine) : eTup ga en w = .ok (.tup ds) w1 := by simp only [eTup, h1, hl, if_true]
theorem elst_ev {ga : AG} {ds : List D} (h1 : ga en w = .ok ds w1) (hl : ds.length ≤ sizeLine) : eLst ga en w = .ok (.lst ds) w1 := by simp only [eLst, h1, hl, if_true]
theorem efn_ev {n : Nat} {G : List D → Wl → Res} {ga : AG} {ds : List D} (h1 : ga en w = .ok ds w1) (hn : ds.length = n) : eFn n G ga en w = G ds w1 := by simp only [eFn, h1, hn, if_true]
theorem len_ev {ga : EG} {ds : List D} (h1 : ga en w = .ok (.lst ds) w1) : eCall oLen (aCons ga aNil) en w = .ok (.int ds.length) w1 := call_ev (one_ev h1)
theorem lenT_ev {ga : EG} {ds : List D} (h1 : ga en w = .ok (.tup ds) w1) : eCall oLen (aCons ga aNil) en w = .ok (.int ds.length) w1 := call_ev (one_ev h1)
theorem for_cons {ds : List D} (hb : b d en = some en1) (h1 : body en1 w = .nx en2 w2) : forG b body (d :: ds) en w = forG b body ds en2 w2 := by simp only [forG, hb, h1]
theorem for_rt {ds : List D} {z : D} (hb : b d en = some en1) (h1 : body en1 w = .rt z w2) : forG b body (d :: ds) en w = .rt z w2 := by simp only [forG, hb, h1]
theorem rng_ev' {g : AG} {n : Int} (h : g en w = .ok [.int n] w1) (hn : small n = true) : gRng1 g en w = .ok ((upto n.toNat).map .int) w1 := by
  simp only [gRng1, h, hn, if_true, dInts_map, upto]
end
/-! ### set families -/
end DL

/-! DL, part zb: data that can be shown. -/
namespace DL
open PySem PySem.Spec L2
open PyProof.Rows hiding St
theorem shw_int {i : Int} {m : Nat} (h : i.natAbs < 10 ^ m) (hm : 0 < m) (hm2 : m ≤ 500) (k : Nat) : Shw k (m + 1) (.int i) := by
  have h2 : i.natAbs < 2 ^ 1920 := Nat.lt_of_lt_of_le h (Nat.le_trans (Nat.pow_le_pow_right (by decide) hm2) (by decide))
  have hl2 : i.natAbs.log2 < 1920 := by
    by_cases z : i.natAbs = 0
    · rw [z]; decide
    · exact (Nat.log2_lt z).mpr h2
  refine ⟨shp_int i k, ?_, ?_, low_int i⟩
  · show decide (i.natAbs.log2 < 1920) = true
    exact decide_eq_true hl2
  · have e := int_text_length_le10 (k := m) hm h
    show (Str.ofString (toString i)).length ≤ m + 1
    rw [PySem.ofString_length]
    exact e
theorem low_non : Low (PyData.none).shown := fun c hc => by
  have e : (PyData.none).shown.cps.toList = [78, 111, 110, 101] := by decide
  rw [e] at hc
  simp only [List.mem_cons, List.not_mem_nil, or_false] at hc
  omega
theorem shw_non (k : Nat) : Shw k 4 .non := ⟨shp_non k, rfl, by decide, low_non⟩
theorem shws {k b : Nat} : ∀ {ds : List D}, (∀ d ∈ ds, Shw k b d) → PyData.showableAll (toPs ds) = true ∧ ((PyData.shownAll (toPs ds)).map (·.length)).sum ≤ ds.length * b ∧ (PyData.shownAll (toPs ds)).length = ds.length ∧ ∀ t ∈ PyData.shownAll (toPs ds), Low t
  | [], _ => ⟨rfl, Nat.zero_le _, rfl, fun t ht => by rw [show PyData.shownAll (toPs []) = [] from rfl] at ht; cases ht⟩
  | d :: ds, h => by
    have h0 := h d List.mem_cons_self
    obtain ⟨a, b', c, e⟩ := shws (k := k) (b := b) (ds := ds) fun x hx => h x (List.mem_cons_of_mem _ hx)
    have es : PyData.shownAll (toPs (d :: ds)) = d.toP.shown :: PyData.shownAll (toPs ds) := rfl
    refine ⟨?_, ?_, ?_, fun t ht => ?_⟩
    · show (d.toP.showable && PyData.showableAll (toPs ds)) = true
      rw [h0.show_, a]; rfl
    · rw [es, List.map_cons, List.sum_cons, List.length_cons, Nat.add_mul]
      have := h0.len
      omega
    · rw [es, List.length_cons, List.length_cons, c]
    · rw [es] at ht
      rcases List.mem_cons.mp ht with rfl | ht
      · exact h0.low
      · exact e t ht
theorem low_lst {xs : List Str} (h : ∀ x ∈ xs, Low x) : Low (listText xs) := by
  rw [listText_eq_join]
  refine low_app (low_app ?_ (low_join h)) ?_
  · intro c hc
    rw [signs_lbrack] at hc
    simp only [List.mem_cons, List.not_mem_nil, or_false] at hc
    omega
  · intro c hc
    rw [signs_rbrack] at hc
    simp only [List.mem_cons, List.not_mem_nil, or_false] at hc
    omega
theorem shw_tup {k b : Nat} {ds : List D} (h : ∀ d ∈ ds, Shw k b d) : Shw (k + 1) (ds.length * (b + 2) + 3) (.tup ds) := by
  obtain ⟨a, b', c, e⟩ := shws h
  refine ⟨shp_tup fun d hd => (h d hd).shp, a, ?_, low_tup e⟩
  have := tupleText_len_le (PyData.shownAll (toPs ds))
  show (tupleText (PyData.shownAll (toPs ds))).length ≤ _
  rw [Nat.mul_add]
  omega
theorem shw_lst {k b : Nat} {ds : List D} (h : ∀ d ∈ ds, Shw k b d) : Shw (k + 1) (ds.length * (b + 2) + 3) (.lst ds) := by
  obtain ⟨a, b', c, e⟩ := shws h
  refine ⟨shp_lst fun d hd => (h d hd).shp, a, ?_, low_lst e⟩
  have := listText_len_le (PyData.shownAll (toPs ds))
  show (listText (PyData.shownAll (toPs ds))).length ≤ _
  rw [Nat.mul_add]
  omega
theorem shw_map {α : Type} {k b : Nat} {enc : α → D} {xs : List α} (h : ∀ x ∈ xs, Shw k b (enc x)) : ∀ d ∈ xs.map enc, Shw k b d := fun d hd => by
  obtain ⟨x, hx, rfl⟩ := List.mem_map.mp hd
  exact h x hx
theorem shw_two {k b : Nat} {d e : D} (h : Shw k b d) (h' : Shw k b e) : ∀ x ∈ [d, e], Shw k b x := fun x hx => by
  simp only [List.mem_cons, List.not_mem_nil, or_false] at hx
  rcases hx with rfl | rfl
  · exact h
  · exact h'
theorem repr_ok {k b : Nat} {d : D} (h : Shw k b d) (hk : k ≤ 60) (hb : b ≤ 16777216) : ∃ s : Str, PyData.strOk s = true ∧ ∀ w, oRepr [d] w = .ok (.str s) w := by
  refine ⟨d.toP.shown, low_ok h.low, fun w => ?_⟩
  have h1 : d.toP.shown.length ≤ sizeLine := Nat.le_trans h.len (Nat.le_trans hb (by decide))
  have h2 : d.toP.depth ≤ 60 := Nat.le_trans h.shp.2.2 hk
  simp only [oRepr, oRepr1, h.shp.1, h.show_, h1, h2, decide_true, Bool.and_self, if_true]
theorem sh_str {s : Str} (h : PyData.strOk s = true) : (D.str s).sh = true := by
  simp only [D.sh, D.isP, D.toP, SeqAt.shaped, PyData.canLay0, PyData.depth, h]
  rfl
theorem eqv_str (s : Str) : (D.str s).eqv (.str s) = true := by
  show (s == s) = true
  simp
theorem oNe_str {s : Str} (h : PyData.strOk s = true) (w : Wl) : oNe (.str s) (.str s) w = .ok (.bl false) w := by
  simp only [oNe, sh_str h, eqv_str s, Bool.and_self, if_true, Bool.not_true]
theorem addT_ev {ga gb : EG} {en : List Sl} {w w1 w2 : Wl} {xs ys : List D} (h1 : ga en w = .ok (.tup xs) w1) (h2 : gb en w1 = .ok (.tup ys) w2) (h : xs.length + ys.length ≤ sizeLine) : eBin oAdd ga gb en w = .ok (.tup (xs ++ ys)) w2 := by
  refine (bin_ev h1 h2).trans ?_
  simp only [oAdd, oOr, oAddI, oI, oAddS, oAddT, h, if_true]
theorem addL_ev {ga gb : EG} {en : List Sl} {w w1 w2 : Wl} {xs ys : List D} (h1 : ga en w = .ok (.lst xs) w1) (h2 : gb en w1 = .ok (.lst ys) w2) (h : xs.length + ys.length ≤ sizeLine) : eBin oAdd ga gb en w = .ok (.lst (xs ++ ys)) w2 := by
  refine (bin_ev h1 h2).trans ?_
  simp only [oAdd, oOr, oAddI, oI, oAddS, oAddT, oAddL, h, if_true]
theorem efnk_ev {n m : Nat} {pm : List Nat} {G : List D → Wl → Res} {g gk : AG} {en : List Sl} {w w1 w2 : Wl} {ds es zs : List D} (h1 : g en w = .ok ds w1) (h2 : gk en w1 = .ok es w2) (h3 : ds.length = n) (h4 : es.length = m) (h5 : permL (ds ++ es) pm = zs) (h6 : zs.length = n + m) :
    eFnK n m pm G g gk en w = G zs w2 := by
  unfold eFnK
  rw [h1]
  simp only [h2, h3, h4, h5, h6, and_self, if_true]
end DL

/-! DL, part zc: a, b, c = x, y, [] with new lists that are the body's own. -/
namespace DL
open PySem PySem.Spec L2
open PyProof.Rows hiding St
/-- values of which some are new lists, still unfrozen, no two of them one -/
inductive MAll (K : PySem.W.Frag) (aw : Bs) (H F' H' : Hp) : List Bool → List V → List D → Prop
  | nil : MAll K aw H F' H' [] [] []
  | dat {bs vs ds v d} : Dv K aw F' v d → MAll K aw H F' H' bs vs ds → MAll K aw H F' H' (false :: bs) (v :: vs) (d :: ds)
  | own {bs vs ds a us es} : H a = none → H' a = some (.lst us) → F' a = none → DvAll K aw F' us es → (∀ i : Nat, bs[i]? = some true → vs[i]? ≠ some (.ref a)) → MAll K aw H F' H' bs vs ds → MAll K aw H F' H' (true :: bs) (.ref a :: vs) (.lst es :: ds)
def WnM (bs : List Bool) (K : PySem.W.Frag) (aw : Bs) (F H : Hp) (Q : List V → Hp → Prop) (E : XK) : AR → Prop
  | .ok ds w => ∀ vs F' H', Go aw F H F' H' w → MAll K aw H F' H' bs vs ds → Q vs H'
  | .ex c fn a w => ∀ cls dx F' H', Go aw F H F' H' w → Xr K aw F' c fn a cls dx → E cls dx H'
  | .bad => False
def EM (K : Kt) (W : WX) (bs : List Bool) (t : TA) (g : AG) : Prop :=
  ∀ (f : Fx) (en : List Sl) (w : Wl) (σ : St) (F H : Hp) (Q : List V → Hp → Prop), Ok K f en w σ F H → WnM bs K f.aw F H Q (WE W σ) (g en w) → t σ H Q
structure DM (K : Kt) (X : Cx) (W : WX) (bs : List Bool) (es : List Expr) (t : TA) (g : AG) : Prop where
  hK : X.K = K.K
  pa : PA X es t
  es : EM K W bs t g
section
variable {X : Cx} {W : WX} {K : Kt} {Kf : PySem.W.Frag} {s : Sg} {pos : Pos} {e : Expr} {es : List Expr} {te : TE} {ge : EG} {t : TA} {g : AG} {aw : Bs} {F H F1 H1 F' H' : Hp} {w w1 : Wl} {bs : List Bool} {vs : List V} {ds : List D}
theorem MAll.back (h : MAll Kf aw H1 F' H' bs vs ds) (hh : ∀ a, H a ≠ none → H1 a ≠ none) : MAll Kf aw H F' H' bs vs ds := by
  induction h with
  | nil => exact .nil
  | dat r _ ih => exact .dat r ih
  | @own _ _ _ a _ _ n q f r d _ ih => exact .own (Classical.byContradiction fun hn => hh a hn n) q f r d ih
theorem MAll.news (h : MAll Kf aw H1 F' H' bs vs ds) {a : Addr} (ha : H1 a ≠ none) : ∀ i : Nat, bs[i]? = some true → vs[i]? ≠ some (.ref a) := by
  induction h with
  | nil => intro i hi; simp at hi
  | dat r _ ih =>
    intro i hi
    cases i with
    | zero => simp at hi
    | succ i => simpa using ih i (by simpa using hi)
  | @own _ _ _ b _ _ n q f r d _ ih =>
    intro i hi
    cases i with
    | zero =>
      intro z
      simp at z
      rw [z] at n
      exact ha n
    | succ i => simpa using ih i (by simpa using hi)
theorem dm_nil (hK : X.K = K.K := by rfl) : DM K X W [] [] tNil aNil := by
  obtain ⟨K0, T0, L0⟩ := K
  cases hK
  exact ⟨rfl, pa_nil, fun f en w σ F H Q o h => h [] F H o.here .nil⟩
theorem dm_dat (ha : DE K X W s e te ge) (hr : DM K X W bs es t g) (hs : s ≠ .wk := by decide) (hst : starEach (e :: es) X.env = (false, eval e X.env) :: starEach es X.env := by rfl) : DM K X W (false :: bs) (e :: es) (tCons te t) (aCons ge g) := by
  obtain ⟨K0, T0, L0⟩ := K
  cases ha.hK
  refine ⟨rfl, pa_cons ha.pe hr.pa hst, fun f en w σ F H Q o h => ?_⟩
  refine ha.es.toSt hs f en w σ F H _ o ?_
  unfold aCons at h
  cases q : ge en w with
  | bad => rw [q] at h; exact h
  | ex c fn a w1 => rw [q] at h; exact h
  | ok d w1 =>
    rw [q] at h
    intro v F1 H1 g1 r1
    refine hr.es f en w1 σ F1 H1 _ (o.step g1) ?_
    unfold AR.cons at h
    dsimp only at h
    cases q2 : g en w1 with
    | bad => rw [q2] at h; exact h
    | ex c fn a w2 =>
      rw [q2] at h
      exact fun cls dx F' H' g' x => h cls dx F' H' (g1.trans g') x
    | ok ds w2 =>
      rw [q2] at h
      exact fun vs F' H' g' r' => h (v :: vs) F' H' (g1.trans g') (.dat (r1.mono g'.ff) (r'.back g1.ne))
theorem dm_own (ha : DE K X W .fr e te ge) (hr : DM K X W bs es t g) (hst : starEach (e :: es) X.env = (false, eval e X.env) :: starEach es X.env := by rfl) : DM K X W (true :: bs) (e :: es) (tCons te t) (aCons ge g) := by
  obtain ⟨K0, T0, L0⟩ := K
  cases ha.hK
  refine ⟨rfl, pa_cons ha.pe hr.pa hst, fun f en w σ F H Q o h => ?_⟩
  refine ha.es f en w σ F H _ o ?_
  unfold aCons at h
  cases q : ge en w with
  | bad => rw [q] at h; exact h
  | ex c fn a w1 => rw [q] at h; exact h
  | ok d w1 =>
    rw [q] at h
    intro v F1 H1 g1 r1
    obtain ⟨es1, a, us, rfl, rfl, n, q1, hf, r⟩ := r1
    refine hr.es f en w1 σ F1 H1 _ (o.step g1) ?_
    unfold AR.cons at h
    dsimp only at h
    have na : some a ≠ f.aw.a := (fresh0 o n).2.1
    have h1 : H1 a ≠ none := by rw [q1]; exact fun z => nomatch z
    cases q2 : g en w1 with
    | bad => rw [q2] at h; exact h
    | ex c fn a w2 =>
      rw [q2] at h
      exact fun cls dx F' H' g' x => h cls dx F' H' (g1.trans g') x
    | ok ds w2 =>
      rw [q2] at h
      exact fun vs F' H' g' r' => h (.ref a :: vs) F' H' (g1.trans g') (.own n (g'.hh a _ na (fun ps z => nomatch z) q1) (g'.fr a h1 hf) (r.mono g'.ff) (r'.news h1) (r'.back g1.ne))
end
def slM : Bool → D → Sl
  | false, d => .dat d
  | true, .lst es => .own es
  | true, _ => .non
section
variable {X : Cx} {W : WX} {K : Kt} {Kf : PySem.W.Frag} {f : Fx} {en : List Sl} {w w1 : Wl} {σ : St} {F H H0 : Hp} {v : V} {d : D} {b : Bool} {bs : List Bool} {vs : List V} {ds : List D}
/-- all that is still to be stored is unlike what is stored -/
def Frs (f : Fx) (en : List Sl) (σ : St) (bs : List Bool) (vs : List V) : Prop := ∀ (i : Nat) (a : Addr), bs[i]? = some true → vs[i]? = some (.ref a) → f.H0 a = none ∧ ∀ (j : Nat) (es : List D), en[j]? = some (.own es) → σ[j]? ≠ some (some (.ref a))
theorem setM (o : Ok K f en w σ F H) (m : MAll K.K f.aw H0 F H (b :: bs) (v :: vs) (d :: ds)) (fr : Frs f en σ (b :: bs) (v :: vs)) (i : Nat) :
    Ok K f (en.set i (slM b d)) w (σ.set i (some v)) F H ∧ Frs f (en.set i (slM b d)) (σ.set i (some v)) bs vs ∧ MAll K.K f.aw H0 F H bs vs ds := by
  cases m with
  | dat r m =>
    refine ⟨o.setDat r, fun k a hk ha => ?_, m⟩
    obtain ⟨h1, h2⟩ := fr (k + 1) a (by simpa using hk) (by simpa using ha)
    refine ⟨h1, fun j es hj => ?_⟩
    rcases set_get hj with ⟨rfl, e1, hl⟩ | ⟨ne, hj⟩
    · cases e1
    · rw [get_set_ne ne]
      exact h2 j es hj
  | @own _ _ _ a us es n q hf r dd m =>
    obtain ⟨h1, h2⟩ := fr 0 a rfl rfl
    refine ⟨o.setOwn q h1 hf r fun j es _ hj => h2 j es hj, fun k c hk hc => ?_, m⟩
    obtain ⟨h3, h4⟩ := fr (k + 1) c (by simpa using hk) (by simpa using hc)
    refine ⟨h3, fun j es hj => ?_⟩
    rcases set_get hj with ⟨rfl, e1, hl⟩ | ⟨ne, hj⟩
    · rw [get_set (by rw [o.len]; exact hl)]
      intro z
      have e2 : a = c := by cases z; rfl
      rw [← e2] at hc
      exact dd k hk hc
    · rw [get_set_ne ne]
      exact h4 j es hj
theorem frs0 {F0 : Hp} (o : Ok K f en w σ F0 H0) (g : Go f.aw F0 H0 F H w1) : ∀ {bs vs ds}, MAll K.K f.aw H0 F H bs vs ds → Frs f en σ bs vs := fun {bs vs ds} m => by
  induction m with
  | nil => intro i a hi; simp at hi
  | dat r _ ih =>
    intro i a hi ha
    cases i with
    | zero => simp at hi
    | succ i => exact ih i a (by simpa using hi) (by simpa using ha)
  | @own _ _ _ c us es n q hf r dd m ih =>
    intro i a hi ha
    cases i with
    | zero =>
      have e2 : c = a := by simpa using ha
      rw [← e2]
      obtain ⟨z0, _, zn⟩ := fresh0 o n
      exact ⟨z0, zn⟩
    | succ i => exact ih i a (by simpa using hi) (by simpa using ha)
theorem em_thn {R : List V → Hp → Prop} {tA : TA} {gA : AG} {Dn : Ends} {k : List D → Wl → Out} (ha : EM K W bs tA gA) (o : Ok K f en w σ F H) (h : WnS K f Dn W ((gA en w).thn en k))
    (hk : ∀ ds w1 vs F1 H1, Go f.aw F H F1 H1 w1 → Ok K f en w1 σ F1 H1 → MAll K f.aw H F1 H1 bs vs ds → WnS K f Dn W (k ds w1) → R vs H1) : tA σ H R := by
  refine ha f en w σ F H R o ?_
  unfold AR.thn at h
  cases q : gA en w with
  | bad => rw [q] at h; exact h
  | ex c fn a w1 =>
    rw [q] at h
    exact fun cls dx F' H' g x => h cls dx σ F' H' (o.step g) x
  | ok d w1 =>
    rw [q] at h
    exact fun v F1 H1 g r => hk d w1 v F1 H1 g (o.step g) r h
theorem mall_len {aw : Bs} {H F' H' : Hp} : ∀ {bs vs ds}, MAll Kf aw H F' H' bs vs ds → vs.length = bs.length ∧ ds.length = bs.length := fun {bs vs ds} m => by
  induction m with
  | nil => exact ⟨rfl, rfl⟩
  | dat _ _ ih => exact ⟨congrArg (· + 1) ih.1, congrArg (· + 1) ih.2⟩
  | own _ _ _ _ _ _ ih => exact ⟨congrArg (· + 1) ih.1, congrArg (· + 1) ih.2⟩
def sPM2 (b c : Bool) (i j : Nat) (g : AG) : SG := fun en w => (g en w).thn en fun ds w1 => match ds with
  | [d, e] => .nx ((en.set i (slM b d)).set j (slM c e)) w1
  | _ => .bad
theorem ds_parM (b c : Bool) (i j : Nat) {pos : Pos} {x y : Str} {a b' : Expr} {tA : TA} {gA : AG} {px py pt : Pos} {kt k2 pt2} (hc : X.calm = true) (hN : X.N.Nodup) (ha : DM K X W [b, c] [a, b'] tA gA) (hi : X.N[i]? = some x := by rfl) (hj : X.N[j]? = some y := by rfl) (hij : i ≠ j := by decide)
    (hx : X.env.scope.names.lookup x = some .local := by rfl) (hy : X.env.scope.names.lookup y = some .local := by rfl)
    (hw : swappedStores [.Tuple [.Name x px, .Name y py] kt pt] (.Tuple [a, b'] k2 pt2) X.env = pure (some [x, y]) := by rfl)
    (hs : swapsWithSole [.Tuple [.Name x px, .Name y py] kt pt] (.Tuple [a, b'] k2 pt2) pos.line X.env = pure false := by rfl) :
    DS K X W (.Assign [.Tuple [.Name x px, .Name y py] kt pt] (.Tuple [a, b'] k2 pt2) pos) (tPar i j tA) (sPM2 b c i j gA) := by
  obtain ⟨K0, T0, L0⟩ := K
  cases ha.hK
  refine ⟨ps_par hc hN hi hj hij hx hy ha.pa hw hs, fun f en w σ F H Dn o h => ?_⟩
  refine em_thn (R := fun vs H1 => ∃ v w, vs = [v, w] ∧ Dn.nx ((σ.set i (some v)).set j (some w)) H1) ha.es o h fun ds w1 us F1 H1 g1 o1 m h1 => ?_
  have fr := frs0 o g1 m
  have hlu := mall_len m
  match us, ds, hlu with
  | [u, v], [d, e], _ =>
    obtain ⟨o2, f2, m2⟩ := setM o1 m fr i
    obtain ⟨o3, f3, m3⟩ := setM o2 m2 f2 j
    exact ⟨_, _, rfl, h1 _ F1 H1 o3⟩
end
end DL

/-! DL, part zd: the head's facts where names come from math. -/
namespace DL
open PySem PySem.Spec L2
open PyProof.Rows hiding St
theorem imp_ok {K : PySem.W.Frag} {h : Heap} {mg : Str → Option Value} (X : K.In h) (G : h.Ns mainGlobals mg) {x : Str} {id : String} {ims : List (Str × String)} (c : ims.all (impOk K) = true) (m : (x, id) ∈ ims) : mg x = some (.builtin id) :=
  PySem.W.mg_of X G (He.eqO_ok (List.all_eq_true.mp c (x, id) m))
theorem intsAre_ok : ∀ {us : List Value} {is : List Int}, intsAre us is = true → Vals (is.map V.int) us
  | [], [], _ => .nil
  | .int j t :: r, i :: is, h => by
    simp only [intsAre, Bool.and_eq_true, decide_eq_true_eq] at h
    exact .cons ⟨t, by rw [h.1]⟩ (intsAre_ok h.2)
  | [], _ :: _, h => nomatch h
  | .int _ _ :: _, [], h => nomatch h
def ConT (K : PySem.W.Frag) (a : Addr) (is : List Int) : Prop :=
  ∃ (o : Obj) (its : Array Value) (n : Nat), K.lookup a = some o ∧ o.cls = .type "tuple" ∧ o.data = .seq its n ∧ its.size ≤ sizeLine ∧ Vals (is.map V.int) its.toList
theorem con_ok {K : PySem.W.Frag} {h : Heap} {mg : Str → Option Value} (X : K.In h) (G : h.Ns mainGlobals mg) {x : Str} {is : List Int} {cs : List (Str × List Int)} (c : cs.all (conOk K) = true) (m : (x, is) ∈ cs) : mg x = some (.ref (He.ga K x)) ∧ ConT K (He.ga K x) is := by
  have h := List.all_eq_true.mp c (x, is) m
  unfold conOk at h
  obtain ⟨h1, h2⟩ := Bool.and_eq_true_iff.mp h
  refine ⟨PySem.W.mg_of X G (He.eqO_ok h1), ?_⟩
  dsimp only at h2
  cases q : K.lookup (He.ga K x) with
  | none => rw [q] at h2; cases h2
  | some o =>
    rw [q] at h2
    obtain ⟨h3, h4⟩ := Bool.and_eq_true_iff.mp h2
    have h3 := of_decide_eq_true h3
    unfold conData at h4
    split at h4
    · rename_i its n e
      obtain ⟨h5, h6⟩ := Bool.and_eq_true_iff.mp h4
      exact ⟨o, its, n, q, h3, e, of_decide_eq_true h5, intsAre_ok h6⟩
    · cases h4
section
variable {X : Cx} {W : WX} {K : Kt} {pos : Pos}
theorem de_con {x : Str} {is : List Int} (hg : Gl X x) (hm : X.mg x = some (.ref (He.ga K.K x)) ∧ ConT K.K (He.ga K.K x) is) (hd : (x == ("__debug__" : Str)) = false := by decide) (hK : X.K = K.K := by rfl) : DE K X W .st (.Name x pos) (tC (.ref (He.ga K.K x))) (eC (.con (is.map .int))) := by
  obtain ⟨K0, T0, L0⟩ := K
  cases hK
  exact ⟨rfl, pe_glob hg hm.1 rfl hd, es_c fun aw F => .con (.inr hm.2) (dv_ints is)⟩
end
end DL

/-! DL, part ze: a body's own dict, its keys tuples of ints. -/
namespace DL
open PySem PySem.Spec L2
open PyProof.Rows hiding St
def putD (kvs : Kvs) (k : List Int) (d : D) : Kvs := if (kvs.any fun kv => decide (kv.1 = k)) = true then kvs.map (fun kv => if kv.1 = k then (kv.1, d) else kv) else kvs ++ [(k, d)]
section
variable {Kf : PySem.W.Frag} {aw : Bs} {F H : Hp} {us : List (List Key × V)} {kvs : Kvs} {k : List Int} {v : V} {d : D}
theorem KVs.repl (h : KVs Kf aw F us kvs) (k : List Int) (r : Dv Kf aw F v d) : KVs Kf aw F (us.map fun kv => if kv.1 = k.map Sum.inl then (kv.1, v) else kv) (kvs.map fun kv => if kv.1 = k then (kv.1, d) else kv) := by
  induction h with
  | nil => exact .nil
  | @cons k' v' d' us kvs r' _ ih =>
    rw [List.map_cons, List.map_cons]
    by_cases e : k' = k
    · subst e
      rw [if_pos rfl, if_pos rfl]
      exact .cons r ih
    · have e' : ¬ k'.map (Sum.inl : Int → Key) = k.map Sum.inl := fun z => e (inl_inj z)
      rw [if_neg e, if_neg e']
      exact .cons r' ih
theorem KVs.snoc (h : KVs Kf aw F us kvs) (k : List Int) (r : Dv Kf aw F v d) : KVs Kf aw F (us ++ [(k.map Sum.inl, v)]) (kvs ++ [(k, d)]) := by
  induction h with
  | nil => exact .cons r .nil
  | cons r' _ ih => exact .cons r' ih
theorem KVs.put (h : KVs Kf aw F us kvs) (k : List Int) (r : Dv Kf aw F v d) : KVs Kf aw F (putK us (k.map Sum.inl) v) (putD kvs k d) := by
  unfold putK putD
  rw [h.any k]
  split
  · exact h.repl k r
  · exact h.snoc k r
end
/-! ### the state -/
section
variable {K : Kt} {Kf : PySem.W.Frag} {f : Fx} {en : List Sl} {w w1 : Wl} {σ : St} {F H : Hp} {a p : Addr} {us us' : List (List Key × V)} {kvs lvs : Kvs} {i : Nat}
end
/-! ### rules -/
section
variable {X : Cx} {W : WX} {K : Kt} {s s1 s2 : Sg} {pos pos' apos cpos p2 : Pos} {x : Str} {e g' : Expr} {te tg : TE} {ge gg : EG} {i : Nat}
end
end DL

/-! DL, part zf: x = {k: v for .. in .. if ..}, the keys tuples of ints. -/
namespace DL
open PySem PySem.Spec L2
open PyProof.Rows hiding St
/-! ### the hand layer's side -/
section
variable {X : Cx} {pins : List (Addr × Obj)} {σ : L2.St} {H : Hp} {s : Shared}
end
end DL

/-! DL, part zg: the data side of a dict's comprehension; k in x, k not in x. -/
namespace DL
open PySem PySem.Spec L2
open PyProof.Rows hiding St
section
variable {K : Kt} {W : WX} {f : Fx} {en : List Sl} {w : Wl} {σ : L2.St} {F H : Hp} {p : Addr} {us us' : List (List Key × V)}
variable {ti : TI} {gi : AG} {g : TG} {b : BG} {vs vs' : List Nat} {tt : TT} {gt gk gv : EG} {tk tv : TE} {s1 s2 : Sg}
end
section
variable {X : Cx} {W : WX} {K : Kt} {s1 s2 : Sg} {pos : Pos} {x : Str} {tg e : Expr} {ti : TI} {gi : AG} {g : TG} {b : BG} {vs' : List Nat}
end
end DL

/-! DL, part zh: try: .. except C as e: ... -/
namespace DL
open PySem PySem.Spec L2
open PyProof.Rows hiding St
/-- into a suite: own lists and dicts are out of view -/
def Sl.bare : Sl → Sl
  | .dat d => .dat d
  | _ => .non
section
variable {X : Cx} {W : WX} {K : Kt} {pos pos' np : Pos} {x n : Str} {C : Value} {i : Nat} {body suite : List Stmt} {b₀ : Stmt} {tb : WX → TS} {ts : Addr → Value → Option Addr → TS} {gb : SG} {gs : Bool → Str → Str → D → SG} {fe : Str → Bool}
end
end DL

/-! DL, part zi: in an except suite: isinstance(e, C), e.field. -/
namespace DL
open PySem PySem.Spec L2
open PyProof.Rows hiding St
section
variable {X : Cx} {W : WX} {K : Kt} {pos p p2 p3 : Pos} {n x fld : Str} {i : Nat} {l : Lm} {oe : Obj} {cls : Value} {dx : Option Addr} {pn : List (Addr × Obj)} {c fn : Str} {d : D} {b : Bool} {P : Prop}
end
end DL

/-! DL, part zj: count and index of a bool in a list of bools. -/
namespace DL
open PySem PySem.Spec L2
open PyProof.Rows hiding St
section
variable {X : Cx} {W : WX} {K : Kt} {pos ap : Pos} {a b : Expr} {ta tb : TE} {ga gb : EG} {s1 s2 : Sg} {r : V → List V → Hp → VK → Prop} {o : List D → D → Wl → Res}
end
end DL

/-! DL, part zk: t[::-1] of a tuple. -/
namespace DL
open PySem PySem.Spec L2 PySem.W HT
open PyProof.Rows hiding St
section
variable {prog : Program} {w : World} {A : Around} {E : Value → Shared → Prop} {s : Shared}
end
section
variable {X : Cx} {W : WX} {K : Kt} {pos : Pos} {a : Expr} {ta : TE} {ga : EG} {s1 : Sg}
end
end DL

set_option exponentiation.threshold 30000
/-! DL, part zl: lcm, t * k, own lists by comprehension. -/
namespace DL
open PySem PySem.Spec L2
open PyProof.Rows hiding St
section
variable {X : Cx} {W : WX} {K : Kt} {pos p : Pos} {a b : Expr} {es : List Expr} {t : TA} {g : AG} {ta tb : TE} {ga gb : EG} {s1 s2 : Sg}
end
/-! t * 1 -/
section
variable {X : Cx} {W : WX} {K : Kt} {pos p : Pos} {a b : Expr} {ta tb : TE} {ga gb : EG} {s1 s2 : Sg}
end
end DL

/-! DL, part zm: own lists by comprehension; x.pop(i) of an own list. -/
namespace DL
open PySem PySem.Spec L2
open PyProof.Rows hiding St
section
variable {X : Cx} {W : WX} {K : Kt} {pos pos' : Pos} {tg e elt : Expr} {s : Sg} {ti : TI} {gi : AG} {g : TG} {b : BG} {vs' : List Nat} {te : TE} {ge : EG} {x : Str}
end
end DL

/-! DL, part zn: sorted of tuples the first of which is empty. -/
namespace DL
open PySem PySem.Spec PySem.Calls PySem.SeqAt PySem.W
open PyProof.Rows hiding St
section
variable {prog : Program} {w : World} {A : Around} {s : Shared}
theorem call_tuple_lt {E : Value → Shared → Prop} {Q : Value → Shared → Prop} {l b : Addr} {items items2 : Array Value} {e r : Nat → Bool} (kl : s.heap.IsTuple l items) (kb : s.heap.IsTuple b items2)
    (he : ∀ j (m1 : j < items.size) (m2 : j < items2.size), EqAt A.in1 s items[j] items2[j] (e j)) (hr : ∀ j (m1 : j < items.size) (m2 : j < items2.size), e j = false → RcLt A.in1 s items[j] items2[j] (r j))
    (h : Q (.bool (firstLt e r (decide (items.size < items2.size)) (List.range (min items.size items2.size)))) s) : wpAny (model prog w) A (call (.builtin "tuple.__lt__") [.ref l, .ref b]) Q E s := by
  obtain ⟨⟨cl0, di0, da0, so0⟩, ko, kc, n, kd⟩ := id kl
  obtain ⟨⟨cl2, di2, da2, so2⟩, ko2, kc2, nb, kd2⟩ := id kb
  simp only at kc kd kc2 kd2
  subst kc kd kc2 kd2
  exact call_meets PySem.F.slot_tuple_lt ⟨_, ko, rfl⟩ PySem.F.entry_tuple_lt (PySem.F.args_tuple_lt_2 _ _) (tuple_ltAt l b items items2 n nb di0 di2 so0 so2 e r) ⟨ko, ko2, he, hr, h⟩
theorem oneLt_tup {xs ys : List PyData} {a b : Value} {aa bs : List Addr} {Q : Bool → Shared → Prop} {E : Value → Shared → Prop} (ra : Reads s.heap a (.tuple xs) aa) (rb : Reads s.heap b (.tuple ys) bs) (h : alike (.tuple xs) (.tuple ys) = true)
    (hur : A.units + min (PyData.tuple xs).depth (PyData.tuple ys).depth < cLine) (hqq : Q (dataLt (.tuple xs) (.tuple ys)) s) : wpAny (model prog w) A (oneLt' true a b) Q E s := by
  have hal0 : alikeAll xs ys = true := by simpa [alike] using h
  cases ra with
  | @tuple l o vs n _ aa1 m1 m2 m3 m4 =>
    cases rb with
    | @tuple l' o' vs' n' _ bb1 l1 l2 l3 l4 =>
      have na : vs.size = xs.length := by simpa using ReadsAll.length _ _ _ m4
      have nb : vs'.size = ys.length := by simpa using ReadsAll.length _ _ _ l4
      rw [dataLt_tuple, ← firstLt_toks xs ys hal0, ← na, ← nb] at hqq
      rw [oneLt'_eq]
      simp only [if_true]
      refine wpAny_bind (wpAny_cRoomFor (room_here hur) ?_)
      refine wpAny_bind (wpAny_callSpecialIfBound?_slot (T := "tuple") ⟨_, m1, m2⟩ PySem.F.slot_tuple_lt (call_tuple_lt (e := pairEq xs ys) (r := fun j => dataLt (xs.getD j .none) (ys.getD j .none)) ⟨_, m1, m2, _, m3⟩ ⟨_, l1, l2, _, l3⟩ (fun j j1 j2 => ?_) (fun j j1 j2 hj => ?_) ?_))
      · have := eqAt_alikeAll xs ys A.in1 s vs.toList vs'.toList _ _ m4 l4 hal0 (room_in hur) j (by simpa using j1) (by simpa using j2)
        simpa using this
      · have := rcLt_alikeAll xs ys A.in1 s vs.toList vs'.toList _ _ m4 l4 hal0 (room_in hur) j (by simpa using j1) (by simpa using j2) hj
        simpa using this
      · exact wpAny_truthy_bool hqq
end
section
variable {M : Model} {A : Around} {E : Value → Shared → Prop} {s : Shared}
theorem mapM_ex {α β : Type} {f : α → Sem β} {R : α → β → Prop} : ∀ (l : List α) {Q : List β → Shared → Prop}, (∀ v ∈ l, ∃ r, R v r ∧ ∀ (Q' : β → Shared → Prop), Q' r s → wpAny M A (f v) Q' E s) → (∀ rs, EachIs R l rs → Q rs s) → wpAny M A (l.mapM f) Q E s
  | [], _, _, h => by rw [List.mapM_nil]; exact wpAny_pure (h [] .nil)
  | x :: l, Q, hf, h => by
    rw [List.mapM_cons]
    obtain ⟨r, hr, hx⟩ := hf x (.head _)
    exact wpAny_bind (hx _ (wpAny_bind (mapM_ex l (Q := fun bs s' => wpAny M A (pure (r :: bs)) Q E s') (fun v hv => hf v (.tail _ hv)) fun rs hrs => wpAny_pure (h _ (.cons hr hrs)))))
/-- keys of one type, tuples, the first one empty -/
theorem kind_tupE {v₁ : Value} {rest : List Value} {Q : SortKind → Shared → Prop} (hT : ∀ v ∈ v₁ :: rest, ∃ xs aa, Reads s.heap v (.tuple xs) aa) (h0 : ∃ aa, Reads s.heap v₁ (.tuple []) aa) (h : Q oneType' s) :
    wpAny M A (keyKind' (v₁ :: rest).toArray) Q E s := by
  have look : ∀ v ∈ v₁ :: rest, Looks M s.heap (typeOf v) (.type "tuple") := fun v hv => by
    obtain ⟨xs, aa, r⟩ := hT v hv
    exact looks_reads r
  rw [kat_kind_eq, List.mapM_toArray, map_eq_pure_bind]
  refine wpAny_bind (wpAny_bind (mapM_ex (R := fun v r => ∀ aa, Reads s.heap v (.tuple []) aa → r = none) _ (fun v hv => ?_) fun rs hrs => wpAny_pure ?_))
  · obtain ⟨xs, aa, r⟩ := hT v hv
    cases r with
    | @tuple l o vs n _ aa1 m1 m2 m3 m4 =>
      refine ⟨vs[0]?, fun as' r' => ?_, fun Q' hqq => ?_⟩
      · cases r' with
        | @tuple l' o' vs' n' _ as₂ l1 l2 l3 l4 =>
          rw [m1] at l1
          cases l1
          rw [m3] at l3
          cases l3
          have : vs.toList = [] := by
            cases q : vs.toList with
            | nil => rfl
            | cons x r => rw [q] at l4; cases l4
          rw [← Array.getElem?_toList, this]
          rfl
      · rw [kas_first_eq]
        refine wpAny_bind ((look _ hv).here ?_)
        rw [if_neg (by decide)]
        exact wpAny_bind (listItems_at m1 m3 (wpAny_pure hqq))
  · cases hrs with
    | @cons _ r0 _ rs0 hr0 hrs0 =>
      obtain ⟨aa, r1⟩ := h0
      have e0 := hr0 aa r1
      subst e0
      have ha : ¬ ((none :: rs0).toArray.all (·.isSome)) = true := by simp
      have kb : ¬ (((none :: rs0).toArray[0]?.bind id).isSome = true) := by simp
      rw [if_neg ha, if_neg kb]
      rw [oneTypeOnly'_eq, List.mapM_toArray, map_eq_pure_bind]
      refine wpAny_bind (wpAny_bind (wpAny_bind (kas_mapM (r := Value.type "tuple") _ (fun v hv Q' hqq => (look v hv).here hqq) (wpAny_pure ?_))))
      have hall : ((List.map (fun _ => Value.type "tuple") (v₁ :: rest)).toArray.all fun x => x == Value.type "tuple") = true := by
        simp only [List.all_toArray, List.all_map, List.all_eq_true]
        intro _ _
        exact beq_self_eq_true _
      have h00 : (List.map (fun _ => Value.type "tuple") (v₁ :: rest)).toArray[0]? = some (Value.type "tuple") := by simp
      rw [h00]
      simp only [hall, if_true]
      exact wpAny_pure (wpAny_pure h)
end
section
variable {prog : Program} {w : World} {A : Around} {s : Shared}
theorem sortsAt_E {vs : List Value} {ds : List PyData} (e : EachIs (fun v d => ∃ aa, Reads s.heap v d aa) vs (.tuple [] :: ds)) (hal0 : AllAlike (.tuple [] :: ds)) (hk : ∀ d ∈ ds, ∃ xs, d = .tuple xs) (hur : ∀ d, d ∈ PyData.tuple [] :: ds → A.units + d.depth < cLine) :
    SortsAt prog w A s (dataKind s.heap (.tuple [] :: ds)) vs := by
  have room : ∀ {d d' : PyData}, d ∈ PyData.tuple [] :: ds → A.units + min d.depth d'.depth < cLine := fun {d d'} kd => Nat.lt_of_le_of_lt (Nat.add_le_add_left (Nat.min_le_left _ _) _) (hur d kd)
  have tup : ∀ d ∈ PyData.tuple [] :: ds, ∃ xs, d = .tuple xs := fun d kd => by
    rcases List.mem_cons.mp kd with rfl | kd
    · exact ⟨_, rfl⟩
    · exact hk d kd
  refine ⟨fun v hv => ?_, oneType', ?_, fun m2 E Q hqq => ?_⟩
  · obtain ⟨d, kd, aa, r⟩ := e.left v hv
    exact ⟨_, dataKind_some hal0 kd r⟩
  · intro E x y a b Q ha kb hqq
    obtain ⟨d, aa, kd, ra, rfl⟩ := dataKind_inv ha
    obtain ⟨d', as', hd', rb, rfl⟩ := dataKind_inv kb
    rw [keyLt'_oneType]
    have hdd := hal0 d kd d' hd'
    have hroom := room (d' := d') kd
    obtain ⟨xs, rfl⟩ := tup d kd
    obtain ⟨ys, rfl⟩ := tup d' hd'
    exact oneLt_tup ra rb hdd hroom hqq
  · cases e with
    | cons h0 t =>
      refine kind_tupE (fun v hv => ?_) h0 hqq
      rcases List.mem_cons.mp hv with rfl | hv
      · obtain ⟨aa, r⟩ := h0
        exact ⟨_, aa, r⟩
      · obtain ⟨d, kd, aa, r⟩ := t.left v hv
        obtain ⟨xs, rfl⟩ := hk d kd
        exact ⟨xs, aa, r⟩
end
section
variable {β : Type} {enc : β → PyData} {R : Value → β → Prop} {bs : List β} {b₀ : β} {vs : List Value} {prog : Program} {w : World} {A : Around} {E : Value → Shared → Prop} {s : Shared}
theorem sorted_dataE {l : Addr} {Q : Value → Shared → Prop} (kl : s.heap.IsList l vs.toArray) (e : EachIs R vs (b₀ :: bs)) (er : EachIs (fun v b => ∃ aa, Reads s.heap v (enc b) aa) vs (b₀ :: bs)) (hal0 : AllAlike ((b₀ :: bs).map enc)) (h0 : enc b₀ = .tuple []) (hk : ∀ b ∈ bs, ∃ xs, enc b = .tuple xs) (hL : (b₀ :: bs).length ≤ sizeLine)
    (hur : ∀ b, b ∈ b₀ :: bs → A.units + 2 + (enc b).depth < cLine) (h : ∀ out, out.length = (b₀ :: bs).length → EachIs R out ((b₀ :: bs).mergeSort (dataLe false enc)) → Q (.ref (s.heap.objs.size + 1)) { s with heap := sortedAll s.heap vs (List.toArray out) }) :
    wpAny (model prog w) A (call (.builtin "sorted") [.ref l]) Q E s := by
  have er' : EachIs (fun v b => ∃ aa, Reads (sortingHeap (copyHeap s.heap vs) (s.heap.objs.size + 1) vs) v (enc b) aa) vs (b₀ :: bs) := er.mono fun _ _ ⟨aa, r⟩ => ⟨aa, PyProof.Rows.Reads.keeps (fun _ _ => sorting_copy_old) r⟩
  have em : EachIs (fun v d => ∃ aa, Reads (sortingHeap (copyHeap s.heap vs) (s.heap.objs.size + 1) vs) v d aa) vs (.tuple [] :: bs.map enc) := by
    have := each_map (R := fun v d => ∃ aa, Reads (sortingHeap (copyHeap s.heap vs) (s.heap.objs.size + 1) vs) v d aa) enc er'
    rwa [List.map_cons, h0] at this
  have ha2 : AllAlike (.tuple [] :: bs.map enc) := by rw [← h0, ← List.map_cons]; exact hal0
  have S := sortsAt_E (prog := prog) (w := w) (A := A.in1.in1) (s := { s with heap := sortingHeap (copyHeap s.heap vs) (s.heap.objs.size + 1) vs }) em ha2 (fun d kd => by
    obtain ⟨b, kb, rfl⟩ := List.mem_map.mp kd
    exact hk b kb) (fun d kd => by
    have : d ∈ (b₀ :: bs).map enc := by rw [List.map_cons, h0]; exact kd
    exact bound_map hur d this)
  have eq : (PyData.tuple [] :: bs.map enc) = (b₀ :: bs).map enc := by rw [List.map_cons, h0]
  rw [eq] at S
  exact sorted_vals kl S (by rw [e.length]; exact hL) (h _ (by rw [sortVals_length false rfl]; exact e.length) (sortVals_data false e er' hal0))
end
end DL
namespace DL
open PySem PySem.Spec L2
open PyProof.Rows hiding St
def D.isTup : D → Bool
  | .tup _ => true
  | _ => false
def srtE (ds : List D) : Bool := ds.all (fun d => d.isP && decide (d.toP.depth ≤ 60)) && (ds.all fun d => ds.all fun e => PySem.W.alike d.toP e.toP) && ds.all D.isTup
def oSortedE : List D → Wl → Res := fun ds w => match ds with
  | [.lst (.tup [] :: r)] => if srtE (.tup [] :: r) && decide ((D.tup [] :: r).length ≤ sizeLine) then .ok (.lst (sortD (.tup [] :: r))) w else .bad
  | _ => .bad
def rSortE (K : PySem.W.Frag) : List V → Hp → VK → Prop := fun vs H Q => ∃ (a : Addr) (b₀ : V × D) (bs : List (V × D)), vs = [V.ref a] ∧ SqL K H a ((b₀ :: bs).map (·.1)) ∧ (∀ p ∈ b₀ :: bs, Dp K H p.1 p.2.toP ∧ p.2.toP.depth ≤ 60) ∧
  PySem.W.AllAlike ((b₀ :: bs).map fun p => p.2.toP) ∧ b₀.2.toP = .tuple [] ∧ (∀ p ∈ bs, ∃ xs, p.2.toP = .tuple xs) ∧ ∀ l, H l = none → Q (.ref l) (upd H l (.lst (((b₀ :: bs).mergeSort (PySem.W.dataLe false fun p => p.2.toP)).map (·.1))))
section
variable {X : Cx} {W : WX} {K : Kt} {Kf : PySem.W.Frag} {pos p : Pos} {a : Expr} {t : TA} {g : AG}
theorem call_sortE (hur : X.A.units + 65 < cLine) : CallR X (.builtin "sorted") (rSortE X.K) := by
  intro pins s σ H vs us Q I r h
  obtain ⟨a, b₀, bs, rfl, hqq, hp, m1, h0, m2, q⟩ := h
  obtain ⟨u, rfl, ru⟩ := vals1 r
  obtain rfl : u = Value.ref a := ru
  obtain ⟨its, rv, p', hz⟩ := I.list hqq
  have hlen : (b₀ :: bs).length ≤ sizeLine := by simpa using hz
  refine sorted_dataE (enc := fun p : V × D => p.2.toP) (R := fun u p => RelV p.1 u) p'.isList (each_of rv fun p _ u h => h) (each_of rv fun p hp' u h => (hp p hp').1.reads I p.2.toP p.1 u h) m1 h0 m2 hlen (fun p hp' => ?_) fun out kl he => ?_
  · have := (hp p hp').2
    show X.A.units + 2 + p.2.toP.depth < cLine
    omega
  · obtain ⟨ep, he'⟩ := PyProof.Rows.sortedAll_at s.heap its out.toArray
    refine ⟨.ref _, upd H (s.heap.objs.size + 1) (.lst (((b₀ :: bs).mergeSort (PySem.W.dataLe false fun p => p.2.toP)).map (·.1))), I.laid (t' := s.toks) (fun _ _ => PyProof.Rows.sortedAll_old) (Nat.le_succ _) ⟨?_, out, ep, vals_of_each he, he'⟩, rfl, q _ (I.hok.fresh (Nat.le_succ _))⟩
    rw [List.length_map, List.length_mergeSort]
    exact hlen
theorem cs_sortE : CS Kf .fr (rSortE Kf) oSortedE := by
  intro aw F H Q E vs ds w go r hw
  unfold oSortedE at hw
  split at hw
  · rename_i r0
    obtain ⟨v, rfl, q⟩ := r.one
    obtain ⟨a, us, rfl, hv, dv⟩ := q.seq go.sub
    split at hw
    · rename_i kc
      obtain ⟨kc, kl⟩ := Bool.and_eq_true_iff.mp kc
      unfold srtE at kc
      obtain ⟨kc, c3⟩ := Bool.and_eq_true_iff.mp kc
      obtain ⟨c1, c2⟩ := Bool.and_eq_true_iff.mp kc
      generalize hx : (D.tup [] :: r0) = xs at *
      have c1 : ∀ x ∈ xs, x.isP = true ∧ x.toP.depth ≤ 60 := fun x h => by
        have := List.all_eq_true.mp c1 x h
        obtain ⟨m1, m2⟩ := Bool.and_eq_true_iff.mp this
        exact ⟨m1, of_decide_eq_true m2⟩
      have c2 : ∀ x ∈ xs, ∀ y ∈ xs, PySem.W.alike x.toP y.toP = true := fun x h y h' => List.all_eq_true.mp (List.all_eq_true.mp c2 x h) y h'
      have c3 : ∀ x ∈ xs, x.isTup = true := List.all_eq_true.mp c3
      obtain ⟨z1, z2, z3⟩ := dvall_zip dv
      subst hx
      cases dv with
      | cons q0 qr =>
        rename_i v0 vr
        have key : ((((v0, D.tup []) :: vr.zip r0)).mergeSort (PySem.W.dataLe false fun p : V × D => p.2.toP)).map (·.2) = sortD (D.tup [] :: r0) := by
          unfold sortD
          have e := List.map_mergeSort (r := PySem.W.dataLe false fun p : V × D => p.2.toP) (s := PySem.W.dataLe false D.toP) (f := fun p : V × D => p.2) (l := (v0, D.tup []) :: vr.zip r0) (fun _ _ _ _ => rfl)
          have e2 : ((v0, D.tup []) :: vr.zip r0).map (fun p : V × D => p.2) = D.tup [] :: r0 := z2
          rw [e2] at e
          exact e
        have mem : ∀ p ∈ (v0, D.tup []) :: vr.zip r0, p.2 ∈ D.tup [] :: r0 := fun p hp => by
          have : p.2 ∈ ((v0, D.tup []) :: vr.zip r0).map (·.2) := List.mem_map.mpr ⟨p, hp, rfl⟩
          rw [show ((v0, D.tup []) :: vr.zip r0).map (·.2) = D.tup [] :: r0 from z2] at this
          exact this
        refine ⟨a, (v0, D.tup []), vr.zip r0, rfl, by rw [show ((v0, D.tup []) :: vr.zip r0).map (·.1) = v0 :: vr from z1]; exact .inl (.inl hv), fun p hp => ?_, ?_, rfl, fun p hp => ?_, ?_⟩
        · have := c1 p.2 (mem p hp)
          exact ⟨(z3 p hp).dp go.sub this.1, this.2⟩
        · intro d kd d' hd'
          obtain ⟨x, hx, rfl⟩ := List.mem_map.mp kd
          obtain ⟨y, hy, rfl⟩ := List.mem_map.mp hd'
          exact c2 x.2 (mem x hx) y.2 (mem y hy)
        · have m1 := c3 p.2 (mem p (List.mem_cons_of_mem _ hp))
          obtain ⟨pv, pd⟩ := p
          cases pd <;> first
            | (exact absurd (show false = true from m1) (by decide))
            | exact ⟨_, rfl⟩
        · have dv2 : DvAll Kf aw F ((((v0, D.tup []) :: vr.zip r0).mergeSort (PySem.W.dataLe false fun p => p.2.toP)).map (·.1)) (sortD (D.tup [] :: r0)) := by
            rw [← key]
            exact dvall_unzip fun p hp => z3 p ((List.mergeSort_perm _ _).mem_iff.mp hp)
          exact Wn.lstNew hw go dv2
    · exact hw.elim
  · exact hw.elim
theorem de_sortedE {k : Nat} (hr : Rg k X.A) (hg : Gl X "sorted") (hm : X.mg "sorted" = none) (ha : DA K X W true [a] t g) (he : starEach [a] X.env = (false, eval a X.env) :: starEach [] X.env := by rfl) (hpl : (backTo pos (starEach [] X.env)).any (·.1) = false := by rfl) :
    DE K X W .fr (.Call (.Name "sorted" p) [a] [] pos) (tCB (rSortE K) t) (eCall oSortedE g) := by
  obtain ⟨K0, T0, L0⟩ := K
  cases ha.hK
  exact de_callB (call_sortE hr.u) cs_sortE hg hm (by decide +kernel) ha (by decide) (by decide) he hpl
end
end DL

/-! DL, part zo: xs += ys of an own list. -/
namespace DL
open PySem PySem.Spec L2
open PyProof.Rows hiding St
section
variable {X : Cx} {W : WX} {K : Kt} {s : Sg} {elt : Expr} {te : TE} {ge : EG} {pos : Pos}
end
end DL

/-! DL, part zp: index of an int in a list of ints. -/
namespace DL
open PySem PySem.Spec L2
open PyProof.Rows hiding St
section
variable {X : Cx} {W : WX} {K : Kt} {pos ap : Pos} {a b : Expr} {ta tb : TE} {ga gb : EG} {s1 s2 : Sg} {r : V → List V → Hp → VK → Prop} {o : List D → D → Wl → Res}
end
end DL

/-! DL, part zq: an own list is frozen before a statement. -/
namespace DL
open PySem PySem.Spec L2
open PyProof.Rows hiding St
section
variable {K : Kt} {X : Cx} {W : WX} {f : Fx} {en : List Sl} {w : Wl} {σ : St} {F H : Hp} {i : Nat} {ds : List D} {st : Stmt} {t : TS} {g : SG}
theorem Ok.frz (o : Ok K f en w σ F H) (e : en[i]? = some (.own ds)) : ∃ F', Ok K f (en.set i (.dat (.lst ds))) w σ F' H := by
  obtain ⟨a, vs, e0, h1, h2, h3, r⟩ := o.own i ds e
  have sm : Same F (upd F a (.lst vs)) := same_upd2 h3
  refine ⟨upd F a (.lst vs), o.go.frozen h2 h1 h3, o.base, by rw [List.length_set]; exact o.len, fun j d hj => ?_, fun j es hj => ?_, o.tT, o.tabs, fun j hj => ?_, fun j k es us b hj hk q1 q2 => ?_, o.dic.keep (fun j kvs hj => ?_) (fun b us q1 _ q3 => ⟨q1, ?_⟩) sm⟩
  · rcases set_get hj with ⟨rfl, e1, hl⟩ | ⟨ne, hj⟩
    · cases e1
      exact ⟨.ref a, e0, .lst upd_same (r.mono sm)⟩
    · obtain ⟨v, q1, q2⟩ := o.dat j d hj
      exact ⟨v, q1, q2.mono sm⟩
  · rcases set_get hj with ⟨rfl, e1, hl⟩ | ⟨ne, hj⟩
    · cases e1
    · obtain ⟨b, us, q1, q2, q3, q4, q5⟩ := o.own j es hj
      refine ⟨b, us, q1, q2, q3, ?_, q5.mono sm⟩
      have nb : b ≠ a := fun z => by
        subst z
        exact ne (o.inj j i es ds b hj e q1 e0)
      rw [upd_ne nb]
      exact q4
  · rcases set_get hj with ⟨rfl, e1, hl⟩ | ⟨ne, hj⟩
    · cases e1
    · obtain ⟨l, q1, q2, q3, q4, q5⟩ := o.hol j hj
      exact ⟨l, q1, q2, q3, q4, q5.frozen (by rw [← q4]; exact h2) h1 h3⟩
  · rcases set_get hj with ⟨rfl, e1, hl⟩ | ⟨ne, hj⟩
    · cases e1
    · rcases set_get hk with ⟨rfl, e1, hl⟩ | ⟨ne2, hk⟩
      · cases e1
      · exact o.inj j k es us b hj hk q1 q2
  · rcases set_get hj with ⟨rfl, e1, hl⟩ | ⟨ne, hj⟩
    · cases e1
    · exact ⟨hj, rfl⟩
  · have nb : b ≠ a := fun z => by
      subst z
      rw [h1] at q1
      cases q1
    rw [upd_ne nb]
    exact q3
end
end DL

/-! DL, part zr: the head's facts over a told list of addresses. -/
namespace DL
open PySem PySem.Spec L2
open PyProof.Rows hiding St
theorem obsL_eq {l : List Addr} {fa : List He.Fa} {fn : List He.DefD} {xs : List Str} {ims : List (Str × String)} {cs : List (Str × List Int)} {g : Addr → Option Obj} {s : Shared} (h : ∀ a, g a = s.heap.get? a) : obsL l fa fn xs ims cs g = (hookL l fa fn xs ims cs).obs s := by
  have e : g = s.heap.get? := funext h
  rw [e]
  rfl
end DL

/-! DL, part zs: comprehensions with two sources. -/
namespace DL
open PySem PySem.Spec L2
open PyProof.Rows hiding St
def noOwn (en : List Sl) : Bool := en.all fun s => match s with
  | .own _ => false
  | _ => true
def lcG2 (b : BG) (gi1 : AG) (b1 : BG) (ge : EG) (vs1 : List Nat) (en : List Sl) : List D → Wl → AR
  | [], w => .ok [] w
  | d :: ds, w => match b d en with
    | none => .bad
    | some en1 => if noOwn en1 = true then (match gi1 en1 w with
      | .ok ds1 w1 => (match lcG b1 eYes ge (wipeE en1 vs1) ds1 w1 with
        | .ok zs w2 => (match lcG2 b gi1 b1 ge vs1 en ds w2 with
          | .ok zr w3 => .ok (zs ++ zr) w3
          | _ => .bad)
        | _ => .bad)
      | _ => .bad) else .bad
def eLc2 (gi : AG) (b : BG) (gi1 : AG) (b1 : BG) (ge : EG) (vs vs1 : List Nat) : EG := fun en w => match gi en w with
  | .ok ds w1 => (match lcG2 b gi1 b1 ge vs1 (wipeE en vs) ds w1 with
      | .ok zs w2 => if zs.length ≤ sizeLine then .ok (.lst zs) w2 else .bad
      | _ => .bad)
  | .ex c fn a w1 => .ex c fn a w1
  | .bad => .bad
theorem noOwn_get {en : List Sl} (h : noOwn en = true) (j : Nat) (es : List D) : en[j]? ≠ some (.own es) := fun e => by
  have := List.all_eq_true.mp h _ (List.mem_of_getElem? e)
  cases this
section
variable {X : Cx} {W : WX} {K : Kt} {Kf : PySem.W.Frag} {s : Sg} {pos : Pos} {tg e tg1 e1 elt : Expr} {ti ti1 : TI} {gi gi1 : AG} {g g1 : TG} {b b1 : BG} {vs vs' vs1 vs1' : List Nat} {ge : EG} {te : TE} {f : Fx} {en : List Sl} {w : Wl} {σ : St} {F H : Hp}
theorem es_lc2 (hi : EI K W true ti gi) (hg : EGt K g b vs') (hv : ∀ i ∈ vs', i ∈ vs) (hi1 : EI K W0 false ti1 gi1) (hg1 : EGt K g1 b1 vs1') (hv1 : ∀ i ∈ vs1', i ∈ vs1) (he : ES K W0 s te ge) (hs : s ≠ .wk) : ES K W .fr (tLc2 ti g tYes ti1 g1 tYes te vs vs1) (eLc2 gi b gi1 b1 ge vs vs1) := by
  intro f en w σ F H Q o h
  refine hi f en w σ F H _ o ?_
  unfold eLc2 at h
  cases q : gi en w with
  | bad => rw [q] at h; exact h
  | ex c fn a w1 => rw [q] at h; exact h
  | ok ds w1 =>
    rw [q] at h
    dsimp only at h
    intro J F1 H1 gg1 wk p hp
    cases q2 : lcG2 b gi1 b1 ge vs1 (wipeE en vs) ds w1 with
    | bad => rw [q2] at h; exact h.elim
    | ex c fn a w2 => rw [q2] at h; exact h.elim
    | ok zs w2 =>
      rw [q2] at h
      dsimp only at h
      split at h
      · rename_i hz
        have o1 := o.step gg1
        obtain ⟨z0, np, zn⟩ := fresh0 o1 hp
        have hp0 : H p = none := by
          cases z : H p with
          | none => rfl
          | some u => exact absurd hp (gg1.ne p (by rw [z]; exact fun y => nomatch y))
        refine ⟨fun i m H' => m = ds.length - i ∧ ∃ w' F' acc us, Ok K f en w' σ F' H' ∧ Go f.aw F1 H1 F' H' w' ∧ F' p = none ∧ H' p = some (.lst us) ∧ DvAll K f.aw F' us acc ∧
          ∃ zr, lcG2 b gi1 b1 ge vs1 (wipeE en vs) (ds.drop i) w' = .ok zr w2 ∧ zs = acc ++ zr, ⟨_, rfl, w1, F1, [], [], ?_, gg1.here.laid hp _, o1.here.free hp, upd_same, .nil, zs, by rw [List.drop_zero]; exact q2, rfl⟩, ?_⟩
        · exact o1.poke (.inl hp) z0 (o1.here.free hp) np zn
        rintro i m H' ⟨rfl, w', F', acc, us, o', g', fp, hq, dv, zr, hw, ez⟩
        have st : Stay true f.aw F1 H1 F' H' := ⟨g'.ff, fun _ a u n z => g'.hh a _ n (fun _ y => nomatch y) z⟩
        by_cases hi2 : i < ds.length
        · obtain ⟨jg, jy⟩ := (wk i w' F' H' st o'.here).1 _ (List.getElem?_eq_getElem hi2)
          rw [List.drop_eq_getElem_cons hi2] at hw
          simp only [lcG2] at hw
          refine .inr ⟨jg, fun H2 => ∃ w3 F3 acc us, Ok K f en w3 σ F3 H2 ∧ Go f.aw F1 H1 F3 H2 w3 ∧ F3 p = none ∧ H2 p = some (.lst us) ∧ DvAll K f.aw F3 us acc ∧
            ∃ zr, lcG2 b gi1 b1 ge vs1 (wipeE en vs) (ds.drop (i + 1)) w3 = .ok zr w2 ∧ zs = acc ++ zr, fun H2 z => ⟨ds.length - (i + 1), by omega, rfl, z⟩, fun x H2 hy => ?_⟩
          obtain ⟨F2, g2, r2⟩ := jy x H2 hy
          cases qb : b ds[i] (wipeE en vs) with
          | none =>
            rw [qb] at hw
            cases hw
          | some en1 =>
            rw [qb] at hw
            dsimp only at hw
            split at hw
            · rename_i hno
              have fp2 : F2 p = none := g2.fr p (by rw [hq]; exact fun z => nomatch z) fp
              have hq2 : H2 p = some (.lst us) := g2.hh p _ np (fun _ y => nomatch y) hq
              refine hg f (wipeE en vs) en1 w' (L2.wipe σ vs) F2 H2 x _ _ qb ((o'.step g2).wipe vs) (.inl r2) (fun _ _ => r2) fun σ3 o3 a3 => ⟨wipe_agree a3 hv, ?_⟩
              show ti1 σ3 H2 _
              refine hi1 f en1 w' σ3 F2 H2 _ o3 ?_
              cases qi : gi1 en1 w' with
              | bad => rw [qi] at hw; cases hw
              | ex c fn a w3 => rw [qi] at hw; cases hw
              | ok ds1 w3 =>
                rw [qi] at hw
                dsimp only at hw
                cases ql : lcG b1 eYes ge (wipeE en1 vs1) ds1 w3 with
                | bad => rw [ql] at hw; cases hw
                | ex c fn a w4 => rw [ql] at hw; cases hw
                | ok zs1 w4 =>
                  rw [ql] at hw
                  dsimp only at hw
                  cases qr : lcG2 b gi1 b1 ge vs1 (wipeE en vs) (ds.drop (i + 1)) w4 with
                  | bad => rw [qr] at hw; cases hw
                  | ex c fn a w5 => rw [qr] at hw; cases hw
                  | ok zr1 w5 =>
                    rw [qr] at hw
                    simp only [AR.ok.injEq] at hw
                    obtain ⟨hzr, hw5⟩ := hw
                    subst hw5
                    intro J1 F3 H3 g3 wk1
                    have fp3 : F3 p = none := g3.fr p (by rw [hq2]; exact fun z => nomatch z) fp2
                    have hq3 : H3 p = some (.lst us) := g3.hh p _ np (fun _ y => nomatch y) hq2
                    refine ⟨fun j k H' => k = ds1.length - j ∧ ∃ w6 F6 acc1 us1, Ok K f en w6 σ F6 H' ∧ Ok K f en1 w6 σ3 F6 H' ∧ Go f.aw F1 H1 F6 H' w6 ∧ Same F3 F6 ∧ F6 p = none ∧ H' p = some (.lst us1) ∧ DvAll K f.aw F6 us1 acc1 ∧
                      ∃ zq, lcG b1 eYes ge (wipeE en1 vs1) (ds1.drop j) w6 = .ok zq w4 ∧ acc ++ zs1 = acc1 ++ zq, ⟨_, rfl, w3, F3, acc, us, (o'.step g2).step g3, o3.step g3, (g'.trans g2).trans g3, Same.refl _, fp3, hq3, (dv.mono g2.ff).mono g3.ff, zs1, by rw [List.drop_zero]; exact ql, rfl⟩, ?_⟩
                    rintro j k H6 ⟨rfl, w6, F6, acc1, us1, o6, o6', g6, s6, fp6, hq6, dv6, zq, hw6, ez6⟩
                    have st1 : Stay false f.aw F3 H3 F6 H6 := ⟨s6, fun z => nomatch z⟩
                    by_cases hj : j < ds1.length
                    · obtain ⟨jg1, jy1⟩ := (wk1 j w6 F6 H6 st1 o6'.here).1 _ (List.getElem?_eq_getElem hj)
                      rw [List.drop_eq_getElem_cons hj] at hw6
                      simp only [lcG] at hw6
                      refine .inr ⟨jg1, fun H7 => ∃ w7 F7 acc1 us1, Ok K f en w7 σ F7 H7 ∧ Ok K f en1 w7 σ3 F7 H7 ∧ Go f.aw F1 H1 F7 H7 w7 ∧ Same F3 F7 ∧ F7 p = none ∧ H7 p = some (.lst us1) ∧ DvAll K f.aw F7 us1 acc1 ∧
                        ∃ zq, lcG b1 eYes ge (wipeE en1 vs1) (ds1.drop (j + 1)) w7 = .ok zq w4 ∧ acc ++ zs1 = acc1 ++ zq, fun H7 z => ⟨ds1.length - (j + 1), by omega, rfl, z⟩, fun x1 H7 hy1 => ?_⟩
                      obtain ⟨F7, g7, r7⟩ := jy1 x1 H7 hy1
                      cases qb1 : b1 ds1[j] (wipeE en1 vs1) with
                      | none => rw [qb1] at hw6; cases hw6
                      | some en2 =>
                        rw [qb1] at hw6
                        simp only [eYes] at hw6
                        have fp7 : F7 p = none := g7.fr p (by rw [hq6]; exact fun z => nomatch z) fp6
                        have hq7 : H7 p = some (.lst us1) := g7.hh p _ np (fun _ y => nomatch y) hq6
                        refine hg1 f (wipeE en1 vs1) en2 w6 (L2.wipe σ3 vs1) F7 H7 x1 _ _ qb1 ((o6'.step g7).wipe vs1) (.inl r7) (fun _ _ => r7) fun σ4 o4 a4 => ⟨wipe_agree a4 hv1, ?_⟩
                        show te σ4 H7 _
                        refine (he.toSt hs) f en2 w6 σ4 F7 H7 _ o4 ?_
                        cases qe : ge en2 w6 with
                        | bad => rw [qe] at hw6; cases hw6
                        | ex c fn a w8 => rw [qe] at hw6; cases hw6
                        | ok z w8 =>
                          rw [qe] at hw6
                          dsimp only at hw6
                          intro v F8 H8 g8 r8
                          have fp8 : F8 p = none := g8.fr p (by rw [hq7]; exact fun z => nomatch z) fp7
                          have hq8 : H8 p = some (.lst us1) := g8.hh p _ np (fun _ y => nomatch y) hq7
                          have o8 : Ok K f en w8 σ F8 H8 := (o6.step g7).step g8
                          have o8' : Ok K f en1 w8 σ3 F8 H8 := (o6'.step g7).step g8
                          have g18 : Go f.aw F1 H1 F8 H8 w8 := (g6.trans g7).trans g8
                          cases ql2 : lcG b1 eYes ge (wipeE en1 vs1) (ds1.drop (j + 1)) w8 with
                          | bad => rw [ql2] at hw6; cases hw6
                          | ex c fn a w9 => rw [ql2] at hw6; cases hw6
                          | ok zq2 w9 =>
                            rw [ql2] at hw6
                            simp only [AR.cons, AR.ok.injEq] at hw6
                            obtain ⟨e1, e2⟩ := hw6
                            subst e2
                            have hlen : us1.length < sizeLine := by
                              have l1 := congrArg List.length ez
                              have l2 := congrArg List.length ez6
                              rw [← hzr] at l1
                              rw [← e1] at l2
                              simp only [List.length_append, List.length_cons] at l1 l2
                              rw [dv6.length]
                              omega
                            refine ⟨us1, hq8, hlen, w8, F8, acc1 ++ [z], us1 ++ [v], ?_, ?_, ?_, (s6.trans g7.ff).trans g8.ff, fp8, upd_same, ((dv6.mono g7.ff).mono g8.ff).snoc r8, zq2, ql2, ?_⟩
                            · exact o8.poke (.inr ⟨_, hq8⟩) z0 fp8 np zn
                            · exact o8'.poke (.inr ⟨_, hq8⟩) z0 fp8 np fun j es y => absurd y (noOwn_get hno j es)
                            · exact g18.wr hp fp8 np (.inr ⟨_, hq8⟩)
                            · rw [ez6, ← e1, List.append_assoc]
                              rfl
                    · refine .inl ⟨(wk1 j w6 F6 H6 st1 o6'.here).2 (by omega), ?_⟩
                      rw [List.drop_eq_nil_of_le (by omega)] at hw6
                      simp only [lcG, AR.ok.injEq] at hw6
                      obtain ⟨e1, e2⟩ := hw6
                      subst e1 e2
                      rw [List.append_nil] at ez6
                      exact ⟨w6, F6, acc1, us1, o6, g6, fp6, hq6, dv6, zr1, qr, by rw [ez, ← hzr, ← List.append_assoc, ez6]⟩
            · cases hw
        · refine .inl ⟨(wk i w' F' H' st o'.here).2 (by omega), ?_⟩
          rw [List.drop_eq_nil_of_le (by omega)] at hw
          simp only [lcG2, AR.ok.injEq] at hw
          obtain ⟨h1, h2⟩ := hw
          subst h1 h2
          rw [List.append_nil] at ez
          subst ez
          exact h _ F' H' (gg1.trans g') ⟨_, p, us, rfl, rfl, hp0, hq, fp, dv⟩
      · exact h.elim
theorem de_lc2 {own : List (Str × Nat)} {scope : Scope} (hc : X.calm = true) (hN : X.N.Nodup) (hi : DI K X W true tg e ti gi) (ok : BlkOk X.N X.env.scope scope own)
    (hg : ∀ (s : Shared) (H : Hp) (C : Addr) (cl : List (Str × Addr)) (fp : List Addr), DG K (Bk X scope s H C cl fp) tg g b vs')
    (hi1 : ∀ (s : Shared) (H : Hp) (C : Addr) (cl : List (Str × Addr)) (fp : List Addr), DI K (Bk X scope s H C cl fp) W0 false tg1 e1 ti1 gi1)
    (hg1 : ∀ (s : Shared) (H : Hp) (C : Addr) (cl : List (Str × Addr)) (fp : List Addr), DG K (Bk X scope s H C cl fp) tg1 g1 b1 vs1')
    (he : ∀ (s' : Shared) (H : Hp) (C : Addr) (cl : List (Str × Addr)) (fp : List Addr), DE K (Bk X scope s' H C cl fp) W0 s elt te ge) (vs1 : List Nat) (hs : s ≠ .wk := by decide) (hv : ∀ i ∈ vs', i ∈ own.map (·.2) := by decide) (hv1 : ∀ i ∈ vs1', i ∈ vs1 := by decide) (hv2 : ∀ i ∈ vs1, i ∈ own.map (·.2) := by decide) (hf : ∀ x, foldedSetIterable e X.env x = pure x := by intro _; rfl) (hf1 : ∀ env x, foldedSetIterable e1 env x = pure x := by intro _ _; rfl) :
    DE K X W .fr (.ListComp elt [⟨tg, e, [], 0⟩, ⟨tg1, e1, [], 0⟩] scope pos) (tLc2 ti g tYes ti1 g1 tYes te (own.map (·.2)) vs1) (eLc2 gi b gi1 b1 ge (own.map (·.2)) vs1) := by
  obtain ⟨K0, T0, L0⟩ := K
  cases hi.hK
  exact ⟨rfl, pe_lc2 hc hN hi.pi ok hv2 (fun s H C cl fp => (hg s H C cl fp).pg) (fun s H C cl fp => pts_nil) (fun s H C cl fp => (hi1 s H C cl fp).pi) (fun s H C cl fp => (hg1 s H C cl fp).pg) (fun s H C cl fp => pts_nil) (fun s H C cl fp => (he s H C cl fp).pe) hf hf1,
    es_lc2 hi.es (hg {} (fun _ => none) 0 [] []).es hv (hi1 {} (fun _ => none) 0 [] []).es (hg1 {} (fun _ => none) 0 [] []).es hv1 (he {} (fun _ => none) 0 [] []).es hs⟩
/-- a comprehension with two sources, from data -/
theorem lc2_ev {α β γ : Type} {e : α → D} {e1 : β → D} {e2 : γ → D} {xs : List α} {ys : α → List β} {fn : α → β → γ} {w1 : Wl} {gi gi1 : AG} {b b1 : BG} {ge : EG} {vs vs1 : List Nat} (hg : gi en w = .ok (xs.map e) w1) (hl : (xs.flatMap fun x => (ys x).map (fn x)).length ≤ sizeLine)
    (h : ∀ x ∈ xs, ∃ en1, b (e x) (wipeE en vs) = some en1 ∧ noOwn en1 = true ∧ gi1 en1 w1 = .ok ((ys x).map e1) w1 ∧ ∀ y ∈ ys x, ∃ S', b1 (e1 y) (wipeE en1 vs1) = some S' ∧ ge S' w1 = .ok (e2 (fn x y)) w1) :
    eLc2 gi b gi1 b1 ge vs vs1 en w = .ok (.lst ((xs.flatMap fun x => (ys x).map (fn x)).map e2)) w1 := by
  have inner : ∀ (zs : List β) (en1 : List Sl) (x : α), (∀ y ∈ zs, ∃ S', b1 (e1 y) (wipeE en1 vs1) = some S' ∧ ge S' w1 = .ok (e2 (fn x y)) w1) → lcG b1 eYes ge (wipeE en1 vs1) (zs.map e1) w1 = .ok ((zs.map (fn x)).map e2) w1 := fun zs en1 x => by
    induction zs with
    | nil => exact fun _ => rfl
    | cons y zs ih =>
      intro hy
      obtain ⟨S', h1, h2⟩ := hy y List.mem_cons_self
      rw [List.map_cons]
      unfold lcG
      rw [h1]
      simp only [eYes, h2]
      rw [ih fun z hz => hy z (List.mem_cons_of_mem _ hz)]
      rfl
  have outer : ∀ (zs : List α), (∀ x ∈ zs, x ∈ xs) → lcG2 b gi1 b1 ge vs1 (wipeE en vs) (zs.map e) w1 = .ok ((zs.flatMap fun x => (ys x).map (fn x)).map e2) w1 := fun zs => by
    induction zs with
    | nil => exact fun _ => rfl
    | cons x zs ih =>
      intro hx
      obtain ⟨en1, h1, h2, h3, h4⟩ := h x (hx x List.mem_cons_self)
      rw [List.map_cons]
      unfold lcG2
      rw [h1]
      simp only [h2, if_true, h3]
      rw [inner (ys x) en1 x h4]
      dsimp only
      rw [ih fun z hz => hx z (List.mem_cons_of_mem _ hz)]
      dsimp only
      rw [List.flatMap_cons, List.map_append]
  unfold eLc2
  rw [hg]
  dsimp only
  rw [outer xs fun _ h => h]
  dsimp only
  rw [if_pos (by rw [List.length_map]; exact hl)]
end
end DL

namespace PF
open PySem PySem.Spec L2 DL
open PyProof.Rows hiding St
def g_lowest : SG :=
  (sSeq (sSet 2 (eCall oGcd (aCons (eVar 0) (aCons (eVar 1) aNil))))
  (sRet (eTup (aCons (eBin oFdiv (eVar 0) (eVar 2)) (aCons (eBin oFdiv (eVar 1) (eVar 2)) aNil)))))
def G_lowest : List D → Wl → Res := fun ds w => runG 3 g_lowest ds w
def g_is_whole : SG :=
  (sRet (eBin oIs (eCall oType (aCons (eVar 0) aNil)) (eC (.ty "int"))))
def G_is_whole : List D → Wl → Res := fun ds w => runG 1 g_is_whole ds w
def g_is_row : SG :=
  (sRet (eAnd (eBin oIs (eCall oType (aCons (eVar 0) aNil)) (eC (.ty "tuple"))) (eBin oEq (eCall oLen (aCons (eVar 0) aNil)) (eVar 1))))
def G_is_row : List D → Wl → Res := fun ds w => runG 2 g_is_row ds w
def g_is_count : SG :=
  (sRet (eAnd (eFn 1 G_is_whole (aCons (eVar 0) aNil)) (eChain oLe oLe (eC (.int 1)) (eVar 0) (eC (.int 5)))))
def G_is_count : List D → Wl → Res := fun ds w => runG 1 g_is_count ds w
def g_is_fraction : SG :=
  (sSeq (sIf (eNot (eUn oTru (eFn 2 G_is_row (aCons (eVar 0) (aCons (eC (.int 2)) aNil))))) (sRet (eC (.bl false))) sPass)
  (sSeq (sAsg (eVar 0) (bTupN 2 (bCons (bName 1) (bCons (bName 2) bNil))))
  (sRet (eAnd (eFn 1 G_is_whole (aCons (eVar 1) aNil)) (eAnd (eFn 1 G_is_whole (aCons (eVar 2) aNil)) (eAnd (eBin oGt (eVar 2) (eC (.int 0))) (eBin oEq (eCall oGcd (aCons (eVar 1) (aCons (eVar 2) aNil))) (eC (.int 1)))))))))
def G_is_fraction : List D → Wl → Res := fun ds w => runG 3 g_is_fraction ds w
def g_is_number : SG :=
  (sRet (eAnd (eFn 1 G_is_fraction (aCons (eVar 0) aNil)) (eChain oLe oLe (eC (.int 0)) (eBin oIx (eVar 0) (eC (.int 0))) (eBin oIx (eVar 0) (eC (.int 1))))))
def G_is_number : List D → Wl → Res := fun ds w => runG 1 g_is_number ds w
def g_first_wrong (Gp : D → Wl → Res) : SG :=
  (sSeq (sFor (gEnum (aCons (eVar 0) aNil)) (bTupN 2 (bCons (bName 3) (bCons (bName 4) bNil))) (sIf (eOr (eBin oEq (eVar 3) (eVar 1)) (eNot (eUn oTru (eAct 2 Gp (eVar 4))))) (sRet (eVar 3)) sPass))
  (sRet (eCall oLen (aCons (eVar 0) aNil))))
def G_first_wrong : (D → Wl → Res) → List D → Wl → Res := fun Gp ds w => runL 5 (g_first_wrong Gp) ds w
def g_is_index : SG :=
  (sRet (eAnd (eFn 1 G_is_whole (aCons (eVar 1) aNil)) (eChain oLe (oRel fun i j => decide (i < j)) (eC (.int 0)) (eVar 1) (eVar 0))))
def G_is_index : List D → Wl → Res := fun ds w => runG 2 g_is_index ds w
def g_is_ascending : SG :=
  (sRet (eCall oAll (aCons (eLc (gZip (aCons (eVar 0) (aCons (eSl (eVar 0) (pSome (eC (.int 1))) pNone) aNil))) (bTupN 2 (bCons (bName 1) (bCons (bName 2) bNil))) eYes (eBin oLt (eVar 1) (eVar 2)) [1, 2]) aNil)))
def G_is_ascending : List D → Wl → Res := fun ds w => runG 3 g_is_ascending ds w
def g_is_set : SG :=
  (sSeq (sIf (eOr (eBin oNot (eCall oType (aCons (eVar 1) aNil)) (eC (.ty "tuple"))) (eBin oEq (eCall oLen (aCons (eVar 1) aNil)) (eC (.int 0)))) (sRet (eC (.bl false))) sPass)
  (sRet (eAnd (eCall oAll (aCons (eLc (gSeq (eVar 1)) (bName 2) eYes (eFn 2 G_is_index (aCons (eVar 0) (aCons (eVar 2) aNil))) [2]) aNil)) (eFn 1 G_is_ascending (aCons (eVar 1) aNil)))))
def G_is_set : List D → Wl → Res := fun ds w => runG 3 g_is_set ds w
def g_all_sets : SG :=
  (sSeq (sSet 1 (eCall oRngV (aCons (eC (.int 1)) (aCons (eBin oShl (eC (.int 1)) (eVar 0)) aNil))))
  (sRet (eCall oTup (aCons (eCall oSorted (aCons (eLc (gRngV (eVar 1)) (bName 3) eYes (eCall oTup (aCons (eLc (gRng1 (aCons (eVar 0) aNil)) (bName 2) (eUn oTru (eBin oAnd (eBin oShr (eVar 3) (eVar 2)) (eC (.int 1)))) (eVar 2) [2]) aNil)) [3]) aNil)) aNil))))
def G_all_sets : List D → Wl → Res := fun ds w => runG 4 g_all_sets ds w
def g_is_part : SG :=
  (sRet (eCall oAll (aCons (eLc (gSeq (eVar 0)) (bName 2) eYes (eBin oIn (eVar 2) (eVar 1)) [2]) aNil)))
def G_is_part : List D → Wl → Res := fun ds w => runG 3 g_is_part ds w
def g_is_at_most : SG :=
  (sRet (eBin oLe (eBin oMul (eBin oIx (eVar 0) (eC (.int 0))) (eBin oIx (eVar 1) (eC (.int 1)))) (eBin oMul (eBin oIx (eVar 1) (eC (.int 0))) (eBin oIx (eVar 0) (eC (.int 1))))))
def G_is_at_most : List D → Wl → Res := fun ds w => runG 2 g_is_at_most ds w
def g_check_numbers : SG :=
  (sSeq (sIf (eNot (eUn oTru (eFn 2 G_is_row (aCons (eVar 1) (aCons (eVar 0) aNil))))) sNever sPass)
  (sSeq (sSet 2 (eFnC "is_number" G_first_wrong G_is_number (aCons (eVar 1) (aCons (eVar 0) (aCons (eC (.fn "is_number")) aNil)))))
  (sIf (eBin oLt (eVar 2) (eVar 0)) sNever sPass)))
def G_check_numbers : List D → Wl → Res := fun ds w => runG 3 g_check_numbers ds w
def g_check_set : SG :=
  (sIf (eNot (eUn oTru (eFn 2 G_is_set (aCons (eVar 0) (aCons (eVar 1) aNil))))) sNever sPass)
def G_check_set : List D → Wl → Res := fun ds w => runG 2 g_check_set ds w
def g_alike : SG :=
  (sRet (eCall oTup (aCons (eLc (gRng1 (aCons (eVar 0) aNil)) (bName 3) eYes (eIf (eBin oIn (eVar 3) (eVar 1)) (eVar 2) (eC .non)) [3]) aNil)))
def G_alike : List D → Wl → Res := fun ds w => runG 4 g_alike ds w
def g_tells_count : SG :=
  (sRet (eAnd (eBin oIs (eCall oType (aCons (eVar 0) aNil)) (eC (.ty "tuple"))) (eFn 1 G_is_count (aCons (eCall oLen (aCons (eVar 0) aNil)) aNil))))
def G_tells_count : List D → Wl → Res := fun ds w => runG 1 g_tells_count ds w
def g_check_leading_numbers : SG :=
  (sSeq (sIf (eNot (eUn oTru (eFn 1 G_tells_count (aCons (eVar 0) aNil)))) sNever sPass)
  (sDrop (eFn 2 G_check_numbers (aCons (eCall oLen (aCons (eVar 0) aNil)) (aCons (eVar 0) aNil)))))
def G_check_leading_numbers : List D → Wl → Res := fun ds w => runG 1 g_check_leading_numbers ds w
def g_check_limits : SG :=
  (sSeq (sIf (eNot (eUn oTru (eFn 2 G_is_row (aCons (eVar 1) (aCons (eVar 0) aNil))))) sNever sPass)
  (sFor (gEnum (aCons (eVar 1) aNil)) (bTupN 2 (bCons (bName 2) (bCons (bName 3) bNil))) (sIf (eOr (eNot (eUn oTru (eFn 1 G_is_number (aCons (eVar 3) aNil)))) (eOr (eBin oEq (eVar 3) (eC (.con ([1, 1].map .int)))) (eAnd (eBin oGt (eVar 2) (eC (.int 0))) (eNot (eUn oTru (eFn 2 G_is_at_most (aCons (eBin oIx (eVar 1) (eBin oSub (eVar 2) (eC (.int 1)))) (aCons (eVar 3) aNil)))))))) sNever sPass)))
def G_check_limits : List D → Wl → Res := fun ds w => runG 4 g_check_limits ds w
def g_up_to : SG :=
  (sRet (eCall oTup (aCons (eLc (gEnum (aCons (eVar 0) aNil)) (bTupN 2 (bCons (bName 2) (bCons (bName 3) bNil))) (eUn oTru (eFn 2 G_is_at_most (aCons (eVar 3) (aCons (eVar 1) aNil)))) (eVar 2) [2, 3]) aNil)))
def G_up_to : List D → Wl → Res := fun ds w => runG 4 g_up_to ds w
def g_called_up : SG :=
  (sSeq (sSet 2 (eTup aNil))
  (sSeq (sFor (gEnum (aCons (eVar 1) aNil)) (bTupN 2 (bCons (bName 3) (bCons (bName 4) bNil))) (sSeq (sSet 5 (eFn 2 G_up_to (aCons (eVar 0) (aCons (eVar 4) aNil))))
  (sIf (eBin oGt (eCall oLen (aCons (eVar 5) aNil)) (eVar 3)) (sSet 2 (eVar 5)) sPass)))
  (sRet (eVar 2))))
def G_called_up : List D → Wl → Res := fun ds w => runG 6 g_called_up ds w
def g_check_leading_limits : SG :=
  (sSeq (sIf (eNot (eUn oTru (eFn 1 G_tells_count (aCons (eVar 0) aNil)))) sNever sPass)
  (sDrop (eFn 2 G_check_limits (aCons (eCall oLen (aCons (eVar 0) aNil)) (aCons (eVar 0) aNil)))))
def G_check_leading_limits : List D → Wl → Res := fun ds w => runG 1 g_check_leading_limits ds w
def g_share : SG :=
  (sSeq (sDrop (eFn 1 G_check_leading_numbers (aCons (eVar 0) aNil)))
  (sSeq (sDrop (eFn 2 G_check_limits (aCons (eCall oLen (aCons (eVar 0) aNil)) (aCons (eVar 1) aNil))))
  (sSeq (sDrop (eFn 2 G_check_set (aCons (eCall oLen (aCons (eVar 0) aNil)) (aCons (eVar 2) aNil))))
  (sSeq (sSet 3 (eFn 2 G_called_up (aCons (eVar 0) (aCons (eVar 1) aNil))))
  (sSeq (sIf (eBin oEq (eVar 3) (eTup aNil)) (sRet (eC (.con ([0, 1].map .int)))) sPass)
  (sRet (eFn 2 G_lowest (aCons (eCall oLen (aCons (eLc (gSeq (eVar 3)) (bName 4) (eBin oIn (eVar 4) (eVar 2)) (eVar 4) [4]) aNil)) (aCons (eCall oLen (aCons (eVar 3) aNil)) aNil)))))))))
def G_share : List D → Wl → Res := fun ds w => runG 5 g_share ds w
def g_share_worth : SG :=
  (sSeq (sSet 3 (eBin oAdd (eCall oLen (aCons (eVar 1) aNil)) (eVar 2)))
  (sRet (eTup (aCons (eFn 3 G_alike (aCons (eCall oLen (aCons (eVar 0) aNil)) (aCons (eVar 1) (aCons (eBin oIx (eVar 0) (eBin oSub (eVar 3) (eC (.int 1)))) aNil)))) (aCons (eFn 2 G_lowest (aCons (eCall oLen (aCons (eVar 1) aNil)) (aCons (eVar 3) aNil))) aNil)))))
def G_share_worth : List D → Wl → Res := fun ds w => runG 4 g_share_worth ds w
end PF

/-! What the program's functions answer. -/
namespace PF
open PySem PySem.Spec L2 DL
open PyProof.Rows hiding St
theorem szL {n : Nat} (h : n ≤ 1000) : n ≤ sizeLine := Nat.le_trans h (show 1000 ≤ sizeLine by decide)
section
variable {w : Wl}
theorem oLt_int (x y : Int) : oLt (.int x) (.int y) w = .ok (.bl (decide (x < y))) w := by simp [oLt, oOr, oRel, oI]
theorem asc_pair {α : Type} (lt : α → α → Bool) : ∀ xs : List α, (xs.Pairwise fun x y => lt x y = true) → ((xs.zip (xs.drop 1)).all fun p => lt p.1 p.2) = true
  | [], _ => rfl
  | [x], _ => rfl
  | x :: y :: r, h => by
    obtain ⟨h1, h2⟩ := List.pairwise_cons.mp h
    have ih := asc_pair lt (y :: r) h2
    simp only [List.drop_succ_cons, List.drop_zero] at ih
    simp only [List.drop_succ_cons, List.drop_zero, List.zip_cons_cons, List.all_cons, h1 y List.mem_cons_self, Bool.true_and]
    exact ih
/-! ties -/
theorem asc_len : ∀ (s : IS) (lo hi : Int), s.Pairwise (· < ·) → (∀ i ∈ s, lo ≤ i ∧ i < hi) → s.length ≤ (hi - lo).toNat
  | [], _, _, _, _ => Nat.zero_le _
  | a :: r, lo, hi, h, hb => by
    obtain ⟨h1, h2⟩ := List.pairwise_cons.mp h
    have ih := asc_len r (a + 1) hi h2 fun i hi' => ⟨by have := h1 i hi'; omega, (hb i (List.mem_cons_of_mem _ hi')).2⟩
    have := hb a List.mem_cons_self
    rw [List.length_cons]
    omega
theorem isSet_len {n : Nat} {s : IS} (h : isSet n s) : s.length ≤ n := by
  have := asc_len s 0 n h.2.1 h.2.2
  omega
end
end PF

/-! What the program's functions answer: frames. -/
namespace PF
open PySem PySem.Spec L2 DL
open PyProof.Rows hiding St
/-! ### first_wrong -/
def pairsFrom {α : Type} (enc : α → D) : Nat → List α → List D
  | _, [] => []
  | i, x :: xs => .tup [.int i, enc x] :: pairsFrom enc (i + 1) xs
theorem pairs_mapIdx {α : Type} (enc : α → D) : ∀ (xs : List α) (i : Nat), ((xs.map enc).mapIdx fun j d => D.tup [.int ((j + i : Nat) : Int), d]) = pairsFrom enc i xs
  | [], _ => rfl
  | x :: xs, i => by
    rw [List.map_cons, List.mapIdx_cons, pairsFrom, ← pairs_mapIdx enc xs (i + 1)]
    congr 1
    · simp
    · congr 1
      funext j d
      congr 3
      omega
theorem pairsI_map {α : Type} (enc : α → D) (xs : List α) : pairsI (xs.map enc) = pairsFrom enc 0 xs := by
  rw [← pairs_mapIdx enc xs 0]
  rfl
/-- the index of the first that is not right or is one more than most -/
def fwAt {α : Type} (p : α → Bool) (most : Int) : List α → Nat → Nat
  | [], i => i
  | x :: xs, i => if (i : Int) = most ∨ p x = false then i else fwAt p most xs (i + 1)
theorem fwAt_all {α : Type} {p : α → Bool} {most : Int} : ∀ (xs : List α) (i : Nat), (∀ x ∈ xs, p x = true) → ((i + xs.length : Nat) : Int) ≤ most → fwAt p most xs i = i + xs.length
  | [], i, _, _ => rfl
  | x :: xs, i, h, hl => by
    have h1 := h x List.mem_cons_self
    rw [List.length_cons] at hl
    have : ¬ ((i : Int) = most ∨ p x = false) := by
      rw [h1]
      rintro (h | h)
      · omega
      · cases h
    rw [fwAt, if_neg this, fwAt_all xs (i + 1) (fun y hy => h y (List.mem_cons_of_mem _ hy)) (by omega)]
    rw [List.length_cons]
    omega
theorem fw_loop {α : Type} (enc : α → D) (p : α → Bool) (most : Int) (Gp : D → Wl → Res) (w : Wl) (r0 : D) : ∀ (xs : List α) (i : Nat) (s3 s4 : Sl), (∀ x ∈ xs, Gp (enc x) w = .ok (.bl (p x)) w) →
    ((∃ j : Nat, fwAt p most xs i = j ∧ forG (bTupN 2 (bCons (bName 3) (bCons (bName 4) bNil))) (sIf (eOr (eBin oEq (eVar 3) (eVar 1)) (eNot (eUn oTru (eAct 2 Gp (eVar 4))))) (sRet (eVar 3)) sPass) (pairsFrom enc i xs) [.dat r0, .dat (.int most), .hol, s3, s4] w = .rt (.int j) w) ∨
    (fwAt p most xs i = i + xs.length ∧ ∃ s3' s4', forG (bTupN 2 (bCons (bName 3) (bCons (bName 4) bNil))) (sIf (eOr (eBin oEq (eVar 3) (eVar 1)) (eNot (eUn oTru (eAct 2 Gp (eVar 4))))) (sRet (eVar 3)) sPass) (pairsFrom enc i xs) [.dat r0, .dat (.int most), .hol, s3, s4] w = .nx [.dat r0, .dat (.int most), .hol, s3', s4'] w))
  | [], i, s3, s4, _ => .inr ⟨rfl, s3, s4, rfl⟩
  | x :: xs, i, s3, s4, h => by
    have e0 := oEq_ev (w := w) eqs_int (i : Int) most (shp_int _ 0) (shp_int _ 0)
    have e1 := h x List.mem_cons_self
    have eb : eBin oEq (eVar 3) (eVar 1) [.dat r0, .dat (.int most), .hol, .dat (.int i), .dat (enc x)] w = .ok (.bl (decide ((i : Int) = most))) w := e0
    have ea : eAct 2 Gp (eVar 4) [.dat r0, .dat (.int most), .hol, .dat (.int i), .dat (enc x)] w = .ok (.bl (p x)) w := e1
    have ec := or_ev eb (not_ev (tru_ev ea))
    by_cases hc : (i : Int) = most ∨ p x = false
    · refine .inl ⟨i, by rw [fwAt, if_pos hc], ?_⟩
      have : (decide ((i : Int) = most) || !p x) = true := by
        rcases hc with h | h <;> simp [h]
      rw [this] at ec
      have hbody : sIf (eOr (eBin oEq (eVar 3) (eVar 1)) (eNot (eUn oTru (eAct 2 Gp (eVar 4))))) (sRet (eVar 3)) sPass [.dat r0, .dat (.int most), .hol, .dat (.int i), .dat (enc x)] w = .rt (.int i) w := (ifT ec).trans rfl
      exact for_rt rfl hbody
    · have : (decide ((i : Int) = most) || !p x) = false := by
        rw [not_or] at hc
        simp [hc.1, hc.2]
      rw [this] at ec
      have hbody : sIf (eOr (eBin oEq (eVar 3) (eVar 1)) (eNot (eUn oTru (eAct 2 Gp (eVar 4))))) (sRet (eVar 3)) sPass [.dat r0, .dat (.int most), .hol, .dat (.int i), .dat (enc x)] w = .nx [.dat r0, .dat (.int most), .hol, .dat (.int i), .dat (enc x)] w := (ifF ec).trans rfl
      have ih := fw_loop enc p most Gp w r0 xs (i + 1) (.dat (.int i)) (.dat (enc x)) fun y hy => h y (List.mem_cons_of_mem _ hy)
      have key := for_cons (b := bTupN 2 (bCons (bName 3) (bCons (bName 4) bNil))) (d := .tup [.int i, enc x]) (ds := pairsFrom enc (i + 1) xs) (en := [.dat r0, .dat (.int most), .hol, s3, s4]) rfl hbody
      rw [show pairsFrom enc i (x :: xs) = .tup [.int i, enc x] :: pairsFrom enc (i + 1) xs from rfl, key, fwAt, if_neg hc, List.length_cons]
      rcases ih with ih | ⟨h1, ih⟩
      · exact .inl ih
      · exact .inr ⟨by rw [h1]; omega, ih⟩
theorem first_wrong_ev {α : Type} (enc : α → D) (p : α → Bool) (most : Int) (Gp : D → Wl → Res) (w : Wl) (xs : List α) (h : ∀ x ∈ xs, Gp (enc x) w = .ok (.bl (p x)) w) :
    G_first_wrong Gp [.tup (xs.map enc), .int most] w = .ok (.int (fwAt p most xs 0)) w := by
  have hl := fw_loop enc p most Gp w (.tup (xs.map enc)) xs 0 .non .non h
  have e0 : sFor (gEnum (aCons (eVar 0) aNil)) (bTupN 2 (bCons (bName 3) (bCons (bName 4) bNil))) (sIf (eOr (eBin oEq (eVar 3) (eVar 1)) (eNot (eUn oTru (eAct 2 Gp (eVar 4))))) (sRet (eVar 3)) sPass) [.dat (.tup (xs.map enc)), .dat (.int most), .hol, .non, .non] w
     = forG (bTupN 2 (bCons (bName 3) (bCons (bName 4) bNil))) (sIf (eOr (eBin oEq (eVar 3) (eVar 1)) (eNot (eUn oTru (eAct 2 Gp (eVar 4))))) (sRet (eVar 3)) sPass) (pairsFrom enc 0 xs) [.dat (.tup (xs.map enc)), .dat (.int most), .hol, .non, .non] w := by
    rw [← pairsI_map]
    rfl
  show (match (sSeq _ _ [.dat (.tup (xs.map enc)), .dat (.int most), .hol, .non, .non] w : Out) with | .rt d w1 => Res.ok d w1 | .nx _ w1 => .ok .non w1 | .ex c fn a _ w1 => .ex c fn a w1 | _ => .bad) = _
  rcases hl with ⟨j, hj, e⟩ | ⟨hj, s3, s4, e⟩
  · rw [hj]
    simp only [sSeq, e0, e, Out.seq]
  · rw [hj, seq_nx (e0.trans e)]
    simp only [sRet, eCall, aCons, aNil, AR.cons, eVar, List.getElem?_cons_zero, oLen, oLen1, Res.thn, List.length_map, Nat.zero_add]
/-! ### ties -/
section
variable {w : Wl}
/-! ### all sets -/
def masks (n : Nat) : List IS := (List.range (2 ^ n - 1)).map fun (k : Nat) => (upto n).filter fun i => (Builtin.bitAnd (((k : Int) + 1) / 2 ^ i.toNat) 1) != 0
theorem sortD_eq (l m : List D) (hp : l.Perm m) (hm : m.Pairwise fun a b => PySem.W.dataLe false D.toP a b = true ∧ PySem.W.dataLe false D.toP b a = false) : sortD l = m := by
  have ht : PySem.W.TotalLe (PySem.W.dataLe (β := D) false D.toP) := PySem.W.sortLe_total _ _ _
  unfold sortD
  have hs := PySem.W.sort_pairwise ht l
  have hp2 := (List.mergeSort_perm l (PySem.W.dataLe false D.toP)).trans hp
  have hm1 : m.Pairwise fun a b => PySem.W.dataLe false D.toP a b = true := hm.imp fun h => h.1
  have key : ∀ (l m : List D), l.Perm m → (l.Pairwise fun a b => PySem.W.dataLe false D.toP a b = true) → (m.Pairwise fun a b => PySem.W.dataLe false D.toP a b = true ∧ PySem.W.dataLe false D.toP b a = false) → l = m := by
    intro l
    induction l with
    | nil => intro m hp _ _; exact (List.nil_perm.mp hp).symm
    | cons a r ih =>
      intro m hp hl hm
      cases m with
      | nil => exact absurd (List.perm_nil.mp hp) (by simp)
      | cons c q =>
        obtain ⟨l1, l2⟩ := List.pairwise_cons.mp hl
        obtain ⟨m1, m2⟩ := List.pairwise_cons.mp hm
        by_cases e : a = c
        · subst e
          rw [ih q ((List.perm_cons a).mp hp) l2 m2]
        · have ha : a ∈ q := by
            have : a ∈ c :: q := hp.mem_iff.mp List.mem_cons_self
            rcases List.mem_cons.mp this with h | h
            · exact absurd h e
            · exact h
          have hc : c ∈ r := by
            have : c ∈ a :: r := hp.mem_iff.mpr List.mem_cons_self
            rcases List.mem_cons.mp this with h | h
            · exact absurd h.symm e
            · exact h
          have := (m1 a ha).2
          rw [l1 c hc] at this
          cases this
  exact key _ _ hp2 hs hm
theorem all_sets_of {n : Nat} (h1 : 1 ≤ n) (h2 : n ≤ 5) (hm : (eLc (gRngV (eVar 1)) (bName 3) eYes (eCall oTup (aCons (eLc (gRng1 (aCons (eVar 0) aNil)) (bName 2) (eUn oTru (eBin oAnd (eBin oShr (eVar 3) (eVar 2)) (eC (.int 1)))) (eVar 2) [2]) aNil)) [3]) [.dat (.int n), .dat (.rng 1 (2 ^ n)), .non, .non] w = .ok (.lst ((masks n).map encI)) w)
    (hs : srtOk ((masks n).map encI) = true) (hz : (masks n).length ≤ sizeLine) (hp : (masks n).Perm (ssets n)) (ho : ((ssets n).map encI).Pairwise fun a b => PySem.W.dataLe false D.toP a b = true ∧ PySem.W.dataLe false D.toP b a = false) :
    G_all_sets [.int n] w = .ok (encSs (ssets n)) w := by
  have hr : (eCall oRngV (aCons (eC (.int 1)) (aCons (eBin oShl (eC (.int 1)) (eVar 0)) aNil))) [.dat (.int n), .non, .non, .non] w = .ok (.rng 1 (2 ^ n)) w := by
    have hpw : CPow 1 n := by
      have : n = 1 ∨ n = 2 ∨ n = 3 ∨ n = 4 ∨ n = 5 := by omega
      rcases this with rfl | rfl | rfl | rfl | rfl <;> decide
    have e : (eBin oShl (eC (.int 1)) (eVar 0)) [.dat (.int n), .non, .non, .non] w = .ok (.int (2 ^ n)) w := by
      show (if decide (CPow 1 (n : Int)) then Res.ok (.int (1 * 2 ^ (n : Int).toNat)) w else .bad) = _
      rw [decide_eq_true hpw]
      simp
    exact call_ev (cons_ev (d := .int 1) (w1 := w) rfl (one_ev e))
  have e2 : sortD ((masks n).map encI) = (ssets n).map encI := sortD_eq _ _ (hp.map encI) ho
  refine run_rt ((set_seq (w1 := w) hr).trans (ret_ev ?_))
  refine tup_ev ?_
  refine (call_ev (one_ev hm)).trans ?_
  simp only [oSorted, hs, List.length_map, hz, decide_true, Bool.and_self, if_true, e2]
theorem all_sets_ev (n : Nat) (h1 : 1 ≤ n) (h2 : n ≤ 5) : G_all_sets [.int n] w = .ok (encSs (ssets n)) w := by
  have : n = 1 ∨ n = 2 ∨ n = 3 ∨ n = 4 ∨ n = 5 := by omega
  rcases this with rfl | rfl | rfl | rfl | rfl
  · exact all_sets_of (by decide) (by decide) rfl (by decide +kernel) (by decide +kernel) (by decide +kernel) (by decide +kernel)
  · exact all_sets_of (by decide) (by decide) rfl (by decide +kernel) (by decide +kernel) (by decide +kernel) (by decide +kernel)
  · exact all_sets_of (by decide) (by decide) rfl (by decide +kernel) (by decide +kernel) (by decide +kernel) (by decide +kernel)
  · exact all_sets_of (by decide) (by decide) rfl (by decide +kernel) (by decide +kernel) (by decide +kernel) (by decide +kernel)
  · exact all_sets_of (by decide) (by decide) rfl (by decide +kernel) (by decide +kernel) (by decide +kernel) (by decide +kernel)
/-! ### frames -/
end
end PF

/-! What the program's functions answer: fractions, corners, books. -/
namespace PF
open PySem PySem.Spec L2 DL
open PyProof.Rows hiding St
/-! ### fractions -/
def encQ (q : Fr) : D := .tup [.int q.1, .int q.2]
def Sz (B : Nat) (q : Fr) : Prop := q.1.natAbs < 2 ^ B ∧ q.2.natAbs < 2 ^ B
theorem log_le {x B : Nat} (h : x < 2 ^ B) : x.log2 ≤ B := by
  by_cases z : x = 0
  · rw [z]; exact Nat.zero_le _
  · exact Nat.le_of_lt ((Nat.log2_lt z).mpr h)
theorem mulW {i j : Int} {B C : Nat} (hi : i.natAbs < 2 ^ B) (hj : j.natAbs < 2 ^ C) (h : B + C < 1000000) : CMulW i j := by
  have := log_le hi
  have := log_le hj
  unfold CMulW
  omega
theorem divW {i j : Int} {B : Nat} (h0 : 0 < j) (hj : j.natAbs < 2 ^ B) (h : B < 9000) : CDivW i j := ⟨h0, by have := log_le hj; omega⟩
section
variable {w w1 w2 : Wl} {en : List Sl} {ga gb : EG}
theorem mul_ev {i j : Int} {B C : Nat} (h1 : ga en w = .ok (.int i) w1) (h2 : gb en w1 = .ok (.int j) w2) (hi : i.natAbs < 2 ^ B) (hj : j.natAbs < 2 ^ C) (h : B + C < 1000000) : eBin oMul ga gb en w = .ok (.int (i * j)) w2 := by
  refine (bin_ev h1 h2).trans ?_
  show (if decide (CMulW i j) then Res.ok (.int (i * j)) w2 else .bad) = _
  rw [decide_eq_true (mulW hi hj h)]
  rfl
theorem fdiv_ev {i j : Int} {B : Nat} (h1 : ga en w = .ok (.int i) w1) (h2 : gb en w1 = .ok (.int j) w2) (h0 : 0 < j) (hj : j.natAbs < 2 ^ B) (h : B < 9000) : eBin oFdiv ga gb en w = .ok (.int (i / j)) w2 := by
  refine (bin_ev h1 h2).trans ?_
  show (if decide (CDivW i j) then Res.ok (.int (i / j)) w2 else .bad) = _
  rw [decide_eq_true (divW h0 hj h)]
  rfl
theorem mod_ev {i j : Int} (h1 : ga en w = .ok (.int i) w1) (h2 : gb en w1 = .ok (.int j) w2) (h0 : 0 < j) : eBin oMod ga gb en w = .ok (.int (i % j)) w2 := by
  refine (bin_ev h1 h2).trans ?_
  show (if decide (0 < j) then Res.ok (.int (i % j)) w2 else .bad) = _
  rw [decide_eq_true h0]
  rfl
theorem add_ev {i j : Int} (h1 : ga en w = .ok (.int i) w1) (h2 : gb en w1 = .ok (.int j) w2) : eBin oAdd ga gb en w = .ok (.int (i + j)) w2 := (bin_ev h1 h2).trans rfl
theorem le_ev {i j : Int} (h1 : ga en w = .ok (.int i) w1) (h2 : gb en w1 = .ok (.int j) w2) : eBin oLe ga gb en w = .ok (.bl (decide (i ≤ j))) w2 := (bin_ev h1 h2).trans rfl
theorem gt_ev {i j : Int} (h1 : ga en w = .ok (.int i) w1) (h2 : gb en w1 = .ok (.int j) w2) : eBin oGt ga gb en w = .ok (.bl (decide (j < i))) w2 := (bin_ev h1 h2).trans rfl
theorem eqi_ev {i j : Int} (h1 : ga en w = .ok (.int i) w1) (h2 : gb en w1 = .ok (.int j) w2) : eBin oEq ga gb en w = .ok (.bl (decide (i = j))) w2 := (bin_ev h1 h2).trans (oEq_ev (w := w2) eqs_int i j (shp_int _ 0) (shp_int _ 0))
end
section
variable {w : Wl}
theorem is_at_most_ev {B C : Nat} {q r : Fr} (hq : Sz B q) (hr : Sz C r) (h : B + C < 1000000) : G_is_at_most [encQ q, encQ r] w = .ok (.bl (decide (leQ q r))) w :=
  run_rt (ret_ev (le_ev (mul_ev (w1 := w) (w2 := w) (i := q.1) (j := r.2) rfl rfl hq.1 hr.2 h) (mul_ev (w1 := w) (w2 := w) (i := r.1) (j := q.2) rfl rfl hr.1 hq.2 (by omega))))
/-! ### limits, corners -/
abbrev Lim := Option Fr
abbrev Cor := List Lim
/-! ### sayings, books -/
/-! ### numbers -/
/-! ### what sayings say -/
theorem zip_map2 {α β : Type} (en1 : α → D) (en2 : β → D) : ∀ (xs : List α) (ys : List β), pairsZ (xs.map en1) (ys.map en2) = (xs.zip ys).map fun p => .tup [en1 p.1, en2 p.2]
  | [], _ => rfl
  | _ :: _, [] => rfl
  | x :: xs, y :: ys => by
    have := zip_map2 en1 en2 xs ys
    unfold pairsZ at this ⊢
    simp [this]
def falseOf (g lot : IS) : Nat := (g.filter fun i => !decide (i ∈ lot)).length
end
end PF

/-! What the program's functions answer: bars. -/
namespace PF
open PySem PySem.Spec L2 DL
open PyProof.Rows hiding St
theorem pairsFrom_zip {α : Type} (enc : α → D) : ∀ (xs : List α) (i : Nat), pairsFrom enc i xs = (xs.zipIdx i).map fun p => .tup [.int (p.2 : Nat), enc p.1]
  | [], i => rfl
  | x :: xs, i => by
    rw [pairsFrom, pairsFrom_zip enc xs (i + 1), List.zipIdx_cons, List.map_cons]
/-! ### what a dict holds -/
/-! ### bars -/
section
variable {w : Wl}
/-! ### the lots that are left -/
def sureN (g : IS) (ps : List IS) : Int := minL (ps.map fun s => (falseOf g s : Int))
end
end PF

namespace LW
open PySem PySem.Spec L2 DL PF
open PyProof.Rows hiding St
def g__law_take : SG :=
  (sSeq (sIf (eBin oGt (eBin oIx (eVar 0) (eC (.int 0))) (eC (.int 0))) (sSeq (sTake 0 2 (eC (.int 0)) (eBin oIx (eVar 0) (eC (.int 0))) (eVar 1))
  (sRet (eVar 2))) sPass)
  (sSeq (sPut 0 (eC (.int 2)) (eBin oAdd (eBin oIx (eVar 0) (eC (.int 2))) (eC (.int 1))))
  (sSeq (sSet 3 (eBin oAdd (eC (.int 40609)) (eBin oMul (eC (.int 2)) (eBin oMod (eCall oInt (aCons (eBin oFdiv (eBin oIx (eVar 0) (eC (.int 1))) (eC (.int 31))) aNil)) (eC (.int 9001))))))
  (sSeq (sPut 0 (eC (.int 1)) (eBin oMod (eCall oInt (aCons (eBin oAdd (eBin oAdd (eBin oMul (eBin oIx (eVar 0) (eC (.int 1))) (eVar 3)) (eBin oMul (eC (.int 52361)) (eBin oIx (eVar 0) (eC (.int 2))))) (eC (.int 13))) aNil)) (eC (.int 2147483549))))
  (sRet (eBin oMod (eCall oInt (aCons (eBin oFdiv (eBin oIx (eVar 0) (eC (.int 1))) (eC (.int 251))) aNil)) (eVar 1)))))))
def G__law_take : List D → Wl → Res := fun ds w => runG 4 g__law_take ds w
def g__law_of : SG :=
  (sRet (eBin oIx (eVar 1) (eFn 2 G__law_take (aCons (eVar 0) (aCons (eCall oLen (aCons (eVar 1) aNil)) aNil)))))
def G__law_of : List D → Wl → Res := fun ds w => runG 2 g__law_of ds w
def g__law_low : SG :=
  (sSeq (sPar 2 3 (aCons (eCall oAbs (aCons (eVar 0) aNil)) (aCons (eVar 1) aNil)))
  (sSeq (sWhile (fuInt 3) (eBin oGt (eVar 3) (eC (.int 0))) (sPar 2 3 (aCons (eVar 3) (aCons (eBin oMod (eCall oInt (aCons (eVar 2) aNil)) (eVar 3)) aNil))))
  (sRet (eTup (aCons (eBin oFdiv (eVar 0) (eVar 2)) (aCons (eBin oFdiv (eVar 1) (eVar 2)) aNil))))))
def G__law_low : List D → Wl → Res := fun ds w => runG 4 g__law_low ds w
def g__law_number : SG :=
  (sSeq (sAsg (eVar 1) (bTupN 2 (bCons (bName 2) (bCons (bName 3) bNil))))
  (sSeq (sIf (eBin oLt (eVar 3) (eBin oPow (eC (.int 10)) (eC (.int 6)))) (sRet (eFn 2 G__law_low (aCons (eFn 2 G__law_take (aCons (eVar 0) (aCons (eBin oAdd (eVar 3) (eC (.int 1))) aNil))) (aCons (eVar 2) aNil)))) sPass)
  (sRet (eFn 2 G__law_low (aCons (eBin oAdd (eBin oMul (eBin oFdiv (eVar 3) (eBin oPow (eC (.int 10)) (eC (.int 6)))) (eFn 2 G__law_take (aCons (eVar 0) (aCons (eBin oPow (eC (.int 10)) (eC (.int 6))) aNil)))) (eFn 2 G__law_take (aCons (eVar 0) (aCons (eC (.int 1000)) aNil)))) (aCons (eVar 2) aNil))))))
def G__law_number : List D → Wl → Res := fun ds w => runG 4 g__law_number ds w
def g__law_corner : SG :=
  (sSeq (sSet 4 (eIf (eBin oGt (eFn 2 G__law_take (aCons (eVar 0) (aCons (eC (.int 8)) aNil))) (eC (.int 0))) (eFn 2 G__law_of (aCons (eVar 0) (aCons (eVar 2) aNil))) (eVar 1)))
  (sSeq (sOwn 5 (eBin oMulL (eLst (aCons (eC .non) aNil)) (eVar 1)))
  (sSeq (sFor (gSeq (eVar 2)) (bName 6) (sIf (eOr (eBin oEq (eVar 6) (eVar 4)) (eBin oEq (eFn 2 G__law_take (aCons (eVar 0) (aCons (eC (.int 2)) aNil))) (eC (.int 0)))) (sPut 5 (eVar 6) (eIf (eBin oGt (eFn 2 G__law_take (aCons (eVar 0) (aCons (eC (.int 12)) aNil))) (eC (.int 0))) (eFn 2 G__law_number (aCons (eVar 0) (aCons (eVar 3) aNil))) (eFn 2 G__law_of (aCons (eVar 0) (aCons (eLst (aCons (eTup (aCons (eC (.int 0)) (aCons (eC (.int 1)) aNil))) (aCons (eTup (aCons (eC (.int 1)) (aCons (eC (.int 1)) aNil))) aNil))) aNil))))) sPass))
  (sRet (eCall oTup (aCons (eOwn 5) aNil))))))
def G__law_corner : List D → Wl → Res := fun ds w => runG 7 g__law_corner ds w
def g__law_at_most : SG :=
  (sRet (eBin oLe (eBin oMul (eBin oIx (eVar 0) (eC (.int 0))) (eBin oIx (eVar 1) (eC (.int 1)))) (eBin oMul (eBin oIx (eVar 1) (eC (.int 0))) (eBin oIx (eVar 0) (eC (.int 1))))))
def G__law_at_most : List D → Wl → Res := fun ds w => runG 2 g__law_at_most ds w
def g__law_worths : SG :=
  (sSeq (sPM2 false true 4 5 (aCons (eLstRg1 (eVar 1)) (aCons (eLst aNil) aNil)))
  (sSeq (sFor (gRng1 (aCons (eVar 3) aNil)) (bName 6) (sSeq (sSet 7 (eFn 4 G__law_corner (aCons (eVar 0) (aCons (eVar 1) (aCons (eVar 4) (aCons (eVar 2) aNil))))))
  (sApp 5 (eTup (aCons (eVar 7) (aCons (eFn 2 G__law_low (aCons (eFn 2 G__law_take (aCons (eVar 0) (aCons (eC (.int 25)) aNil))) (aCons (eBin oAdd (eC (.int 1)) (eFn 2 G__law_take (aCons (eVar 0) (aCons (eC (.int 12)) aNil)))) aNil))) aNil))))))
  (sRet (eCall oTup (aCons (eOwn 5) aNil)))))
def G__law_worths : List D → Wl → Res := fun ds w => runG 8 g__law_worths ds w
end LW

/-! What the laws' own helpers answer. -/
namespace LW
open PySem PySem.Spec L2 DL PF
open PyProof.Rows hiding St
theorem take {k : Nat} {w : Wl} {m : Int} (h : Wk (k + 1) w) (h0 : 0 < m) (h1 : m < 1073741824) : ∃ d w', G__law_take [.well, .int m] w = .ok (.int d) w' ∧ 0 ≤ d ∧ d < m ∧ Wk k w' := take_ok h h0 h1
/-! ### one of some things -/
/-! ### fractions in lowest terms -/
theorem low_loop {w : Wl} (d0 d1 : D) : ∀ (fu : Nat) (a b : Nat), b < fu → whileG (eBin oGt (eVar 3) (eC (.int 0))) (sPar 2 3 (aCons (eVar 3) (aCons (eBin oMod (eCall oInt (aCons (eVar 2) aNil)) (eVar 3)) aNil))) fu [.dat d0, .dat d1, .dat (.int a), .dat (.int b)] w = .nx [.dat d0, .dat d1, .dat (.int (Nat.gcd a b : Nat)), .dat (.int 0)] w
  | 0, a, b, h => by omega
  | fu + 1, a, b, h => by
    have e1 : (eBin oGt (eVar 3) (eC (.int 0))) [.dat d0, .dat d1, .dat (.int a), .dat (.int b)] w = .ok (.bl (decide ((0 : Int) < b))) w := rfl
    by_cases hb : b = 0
    · subst hb
      simp only [whileG, e1, Res.thn]
      simp
    · have hb2 : (0 : Int) < b := by omega
      have e2 : sPar 2 3 (aCons (eVar 3) (aCons (eBin oMod (eCall oInt (aCons (eVar 2) aNil)) (eVar 3)) aNil)) [.dat d0, .dat d1, .dat (.int a), .dat (.int b)] w = .nx [.dat d0, .dat d1, .dat (.int b), .dat (.int ((a % b : Nat)))] w := by
        have e3 : (aCons (eVar 3) (aCons (eBin oMod (eCall oInt (aCons (eVar 2) aNil)) (eVar 3)) aNil)) [.dat d0, .dat d1, .dat (.int a), .dat (.int b)] w = .ok [.int b, .int ((a % b : Nat))] w := by
          refine cons_ev rfl (one_ev ?_)
          refine (mod_ev (w1 := w) (w2 := w) (i := (a : Int)) (j := (b : Int)) rfl rfl hb2).trans ?_
          simp
        simp only [sPar, e3, AR.thn]
        rfl
      have ih := low_loop (w := w) d0 d1 fu b (a % b) (by have := Nat.mod_lt a (by omega : b > 0); omega)
      rw [decide_eq_true hb2] at e1
      simp only [whileG, e1, Res.thn, e2, ih]
      have : Nat.gcd b (a % b) = Nat.gcd a b := by
        rw [Nat.gcd_comm b (a % b), ← Nat.gcd_rec, Nat.gcd_comm]
      rw [this]
def lowQ (n : Int) (m : Int) : Fr := (n / (Nat.gcd n.natAbs m.natAbs : Nat), m / (Nat.gcd n.natAbs m.natAbs : Nat))
theorem low_ev {w : Wl} {B : Nat} (n m : Int) (hm : 0 < m) (hB : m.natAbs < 2 ^ B) (h : B < 9000) : G__law_low [.int n, .int m] w = .ok (encQ (lowQ n m)) w := by
  have e := low_loop (w := w) (.int n) (.int m) (m.natAbs + 1) n.natAbs m.natAbs (by omega)
  have hg : 0 < Nat.gcd n.natAbs m.natAbs := Nat.gcd_pos_of_pos_right _ (by omega)
  have hgB : (((Nat.gcd n.natAbs m.natAbs : Nat) : Int)).natAbs < 2 ^ B := by
    have := Nat.gcd_le_right n.natAbs (show 0 < m.natAbs by omega)
    rw [Int.natAbs_natCast]
    omega
  have hab : (if n < 0 then -n else n) = (n.natAbs : Int) := by split <;> omega
  have e0 : sPar 2 3 (aCons (eCall oAbs (aCons (eVar 0) aNil)) (aCons (eVar 1) aNil)) [.dat (.int n), .dat (.int m), .non, .non] w = .nx [.dat (.int n), .dat (.int m), .dat (.int n.natAbs), .dat (.int m.natAbs)] w := by
    show Out.nx [.dat (.int n), .dat (.int m), .dat (.int (if n < 0 then -n else n)), .dat (.int m)] w = _
    rw [hab, show (m.natAbs : Int) = m by omega]
  refine run_rt ((seq_nx e0).trans ((seq_nx (en1 := [.dat (.int n), .dat (.int m), .dat (.int (Nat.gcd n.natAbs m.natAbs : Nat)), .dat (.int 0)]) (w1 := w) ?_).trans (ret_ev ?_)))
  · show whileG _ _ ((m.natAbs : Int).toNat + 1) _ w = _
    rw [Int.toNat_natCast]
    exact e
  · exact etup_ev (cons_ev (fdiv_ev (w1 := w) (w2 := w) rfl rfl (by omega) hgB h) (one_ev (fdiv_ev (w1 := w) (w2 := w) rfl rfl (by omega) hgB h))) (show 2 ≤ sizeLine by decide)
theorem at_most_ev {w : Wl} {B C : Nat} {q r : Fr} (hq : Sz B q) (hr : Sz C r) (h : B + C < 1000000) : G__law_at_most [encQ q, encQ r] w = .ok (.bl (decide (leQ q r))) w := is_at_most_ev hq hr h
/-! ### grains, numbers, corners -/
end LW

/-! What the laws' own helpers answer: corners, frames, books. -/
namespace LW
open PySem PySem.Spec L2 DL PF
open PyProof.Rows hiding St
section
variable {w : Wl} {en : List Sl} {ga gb : EG}
end
section
variable {w : Wl}
theorem ix_lst {α : Type} (enc : α → D) {xs : List α} {i : Nat} {x : α} (h : xs[i]? = some x) (w : Wl) : oIx (.lst (xs.map enc)) (.int i) w = .ok (enc x) w := by
  have hl : i < xs.length := (List.getElem?_eq_some_iff.mp h).1
  have hx : ixN (xs.map enc).length (i : Int) = some i := by
    unfold ixN
    rw [List.length_map]
    simp [hl]
  show (match atI (xs.map enc) (i : Int) with | some z => Res.ok z w | none => .bad) = _
  unfold atI
  rw [hx]
  simp [h]
theorem ix_tup {α : Type} (enc : α → D) {xs : List α} {i : Nat} {x : α} (h : xs[i]? = some x) (w : Wl) : oIx (.tup (xs.map enc)) (.int i) w = .ok (enc x) w := by
  have hl : i < xs.length := (List.getElem?_eq_some_iff.mp h).1
  have hx : ixN (xs.map enc).length (i : Int) = some i := by
    unfold ixN
    rw [List.length_map]
    simp [hl]
  show (match atI (xs.map enc) (i : Int) with | some z => Res.ok z w | none => .bad) = _
  unfold atI
  rw [hx]
  simp [h]
end
/-! ### corners -/
def Binds (lot : IS) (c : Cor) : Prop := ∀ (j : Nat) (q : Fr), c[j]? = some (some q) → (j : Int) ∈ lot
/-! ### frames -/
/-! ### books -/
theorem lstRg_ev {en : List Sl} {w : Wl} {i n : Nat} (h : en[i]? = some (.dat (.int n))) (hn : n ≤ 1000) : eLstRg1 (eVar i) en w = .ok (.lst ((upto n).map .int)) w := by
  have e : eVar i en w = .ok (.int n) w := by unfold eVar; rw [h]
  simp only [eLstRg1, e, Res.bind]
  rw [if_pos (by omega), Int.toNat_natCast, dInts_map]
  rfl
end LW

/-! What the laws' own helpers answer: within, wrong. -/
namespace LW
open PySem PySem.Spec L2 DL PF
open PyProof.Rows hiding St
/-! ### wrong corners -/
end LW

/-! What the laws' own helpers answer: bars. -/
namespace LW
open PySem PySem.Spec L2 DL PF
open PyProof.Rows hiding St
/-- an ascending row within another one -/
theorem asc_sub : ∀ {a b : IS}, a.Pairwise (· < ·) → b.Pairwise (· < ·) → (∀ i ∈ a, i ∈ b) → a.Sublist b
  | [], b, _, _, _ => List.nil_sublist b
  | x :: a, [], _, _, h => absurd (h x List.mem_cons_self) (by simp)
  | x :: a, y :: b, ha, hb, h => by
    obtain ⟨a1, a2⟩ := List.pairwise_cons.mp ha
    obtain ⟨b1, b2⟩ := List.pairwise_cons.mp hb
    by_cases e : x = y
    · subst e
      refine (asc_sub a2 b2 fun i hi => ?_).cons_cons x
      rcases List.mem_cons.mp (h i (List.mem_cons_of_mem _ hi)) with z | z
      · have := a1 i hi; omega
      · exact z
    · refine (asc_sub ha b2 fun i hi => ?_).cons y
      rcases List.mem_cons.mp (h i hi) with z | z
      · rcases List.mem_cons.mp (h x List.mem_cons_self) with z2 | z2
        · exact absurd z2 e
        · have := b1 x z2
          rcases List.mem_cons.mp hi with z3 | z3
          · omega
          · have := a1 i z3; omega
      · exact z
/-! ### drawn bars -/
/-! ### the possible lots, the sure counts -/
/-! ### numbers near bars -/
end LW

namespace LV
open PySem PySem.Spec L2 DL PF
open PyProof.Rows hiding St
def g__law_well : SG :=
  (sSeq (sSet 2 (eIf (eBin oLt (eVar 1) (eCall oLen (aCons (eVar 0) aNil))) (eCall oInt (aCons (eBin oIx (eVar 0) (eVar 1)) aNil)) (eBin oAdd (eBin oAdd (eBin oMul (eC (.int 6007)) (eVar 1)) (eC (.int 233))) (eBin oMod (eCall oInt (aCons (eCall oSum (aCons (eSl (eVar 0) pNone (pSome (eC (.int 6)))) aNil)) aNil)) (eC (.int 1000003))))))
  (sSeq (sSet 3 (eBin oAdd (eC (.int 40009)) (eBin oMul (eC (.int 3251)) (eVar 1))))
  (sSeq (sFor (gSeq (eBin oAdd (eSl (eVar 0) pNone (pSome (eC (.int 9)))) (eLst (aCons (eVar 2) aNil)))) (bName 4) (sSet 3 (eBin oMod (eCall oInt (aCons (eBin oAdd (eBin oAdd (eBin oMul (eVar 3) (eC (.int 16807))) (eBin oMod (eCall oInt (aCons (eVar 4) aNil)) (eC (.int 2147483549)))) (eC (.int 41))) aNil)) (eC (.int 2147483549)))))
  (sRetF (eLst (aCons (eIf (eOr (eBin oGe (eVar 2) (eBin oPow (eC (.int 10)) (eC (.int 16)))) (eBin oLe (eVar 2) (eBin oSub (eC (.int 0)) (eBin oPow (eC (.int 10)) (eC (.int 16)))))) (eCall oAbs (aCons (eVar 2) aNil)) (eC (.int 0))) (aCons (eVar 3) (aCons (eC (.int 0)) aNil))))))))
def G__law_well : List D → Wl → Res := fun ds w => runN 5 g__law_well ds w
def g__law_pick : SG :=
  (sRet (eBin oIx (eVar 1) (eFn 2 G__law_draw (aCons (eVar 0) (aCons (eCall oLen (aCons (eVar 1) aNil)) aNil)))))
def G__law_pick : List D → Wl → Res := fun ds w => runG 2 g__law_pick ds w
def g__law_low : SG :=
  (sSeq (sPar 2 3 (aCons (eCall oAbs (aCons (eVar 0) aNil)) (aCons (eCall oAbs (aCons (eVar 1) aNil)) aNil)))
  (sSeq (sWhile (fuInt 3) (eBin oGt (eVar 3) (eC (.int 0))) (sPar 2 3 (aCons (eVar 3) (aCons (eBin oMod (eCall oInt (aCons (eVar 2) aNil)) (eVar 3)) aNil))))
  (sSeq (sSet 2 (eIf (eBin oGt (eVar 1) (eC (.int 0))) (eVar 2) (eBin oSub (eC (.int 0)) (eVar 2))))
  (sRet (eTup (aCons (eBin oFdiv (eVar 0) (eVar 2)) (aCons (eBin oFdiv (eVar 1) (eVar 2)) aNil)))))))
def G__law_low : List D → Wl → Res := fun ds w => runG 4 g__law_low ds w
def g__law_add : SG :=
  (sRet (eFn 2 G__law_low (aCons (eBin oAdd (eBin oMul (eBin oIx (eVar 0) (eC (.int 0))) (eBin oIx (eVar 1) (eC (.int 1)))) (eBin oMul (eBin oIx (eVar 1) (eC (.int 0))) (eBin oIx (eVar 0) (eC (.int 1))))) (aCons (eBin oMul (eBin oIx (eVar 0) (eC (.int 1))) (eBin oIx (eVar 1) (eC (.int 1)))) aNil))))
def G__law_add : List D → Wl → Res := fun ds w => runG 2 g__law_add ds w
def g__law_mul : SG :=
  (sRet (eFn 2 G__law_low (aCons (eBin oMul (eBin oIx (eVar 0) (eC (.int 0))) (eBin oIx (eVar 1) (eC (.int 0)))) (aCons (eBin oMul (eBin oIx (eVar 0) (eC (.int 1))) (eBin oIx (eVar 1) (eC (.int 1)))) aNil))))
def G__law_mul : List D → Wl → Res := fun ds w => runG 2 g__law_mul ds w
def g__law_sets_of : SG :=
  (sSeq (sSet 1 (eLst (aCons (eTup aNil) aNil)))
  (sSeq (sFor (gSeq (eVar 0)) (bName 2) (sSet 1 (eBin oAdd (eVar 1) (eLc (gSeq (eVar 1)) (bName 3) eYes (eBin oAdd (eVar 3) (eTup (aCons (eVar 2) aNil))) [3]))))
  (sRet (eSl (eCall oSortedE (aCons (eVar 1) aNil)) (pSome (eC (.int 1))) pNone))))
def G__law_sets_of : List D → Wl → Res := fun ds w => runG 4 g__law_sets_of ds w
def g__law_all_sets : SG :=
  (sRet (eFn 1 G__law_sets_of (aCons (eLstRg1 (eVar 0)) aNil)))
def G__law_all_sets : List D → Wl → Res := fun ds w => runG 1 g__law_all_sets ds w
def g__law_level : SG :=
  (sSeq (sSet 1 (eFn 2 G__law_draw (aCons (eVar 0) (aCons (eC (.int 4)) aNil))))
  (sSeq (sIf (eBin oLt (eVar 1) (eC (.int 2))) (sRet (eFn 2 G__law_pick (aCons (eVar 0) (aCons (eTup (aCons (eTup (aCons (eC (.int 1)) (aCons (eC (.int 20)) aNil))) (aCons (eTup (aCons (eC (.int 1)) (aCons (eC (.int 10)) aNil))) (aCons (eTup (aCons (eC (.int 1)) (aCons (eC (.int 2)) aNil))) (aCons (eTup (aCons (eC (.int 1)) (aCons (eC (.int 1)) aNil))) (aCons (eTup (aCons (eC (.int 1)) (aCons (eC (.int 3)) aNil))) (aCons (eTup (aCons (eC (.int 1)) (aCons (eC (.int 4)) aNil))) (aCons (eTup (aCons (eC (.int 2)) (aCons (eC (.int 3)) aNil))) aNil)))))))) aNil)))) sPass)
  (sSeq (sSet 2 (eFn 2 G__law_pick (aCons (eVar 0) (aCons (eTup (aCons (eC (.int 5)) (aCons (eC (.int 12)) (aCons (eC (.int 60)) (aCons (eC (.int 997)) (aCons (eBin oPow (eC (.int 10)) (eC (.int 6))) aNil)))))) aNil))))
  (sRet (eFn 2 G__law_low (aCons (eBin oAdd (eC (.int 1)) (eFn 2 G__law_draw (aCons (eVar 0) (aCons (eVar 2) aNil)))) (aCons (eVar 2) aNil)))))))
def G__law_level : List D → Wl → Res := fun ds w => runG 3 g__law_level ds w
def g__law_edge : SG :=
  (sRet (eCall oTup (aCons (eLc (gRng1 (aCons (eVar 0) aNil)) (bName 3) eYes (eIf (eBin oIn (eVar 3) (eVar 1)) (eVar 2) (eC .non)) [3]) aNil)))
def G__law_edge : List D → Wl → Res := fun ds w => runG 4 g__law_edge ds w
def g__law_sub : SG :=
  (sRet (eFn 2 G__law_low (aCons (eBin oSub (eBin oMul (eBin oIx (eVar 0) (eC (.int 0))) (eBin oIx (eVar 1) (eC (.int 1)))) (eBin oMul (eBin oIx (eVar 1) (eC (.int 0))) (eBin oIx (eVar 0) (eC (.int 1))))) (aCons (eBin oMul (eBin oIx (eVar 0) (eC (.int 1))) (eBin oIx (eVar 1) (eC (.int 1)))) aNil))))
def G__law_sub : List D → Wl → Res := fun ds w => runG 2 g__law_sub ds w
def g__law_below : SG :=
  (sRet (eBin oLt (eBin oMul (eBin oIx (eVar 0) (eC (.int 0))) (eBin oIx (eVar 1) (eC (.int 1)))) (eBin oMul (eBin oIx (eVar 1) (eC (.int 0))) (eBin oIx (eVar 0) (eC (.int 1))))))
def G__law_below : List D → Wl → Res := fun ds w => runG 2 g__law_below ds w
def g__law_any_part : SG :=
  (sSeq (sSet 1 (eFn 2 G__law_pick (aCons (eVar 0) (aCons (eTup (aCons (eC (.int 2)) (aCons (eC (.int 3)) (aCons (eC (.int 4)) (aCons (eC (.int 10)) (aCons (eC (.int 20)) (aCons (eC (.int 60)) (aCons (eC (.int 7)) (aCons (eC (.int 1)) (aCons (eC (.int 997)) (aCons (eBin oPow (eC (.int 10)) (eC (.int 9))) aNil))))))))))) aNil))))
  (sRet (eFn 2 G__law_low (aCons (eFn 2 G__law_draw (aCons (eVar 0) (aCons (eBin oAdd (eVar 1) (eC (.int 1))) aNil))) (aCons (eVar 1) aNil)))))
def G__law_any_part : List D → Wl → Res := fun ds w => runG 2 g__law_any_part ds w
def g__law_mark : SG :=
  (sSeq (sSet 2 (eFn 2 G__law_draw (aCons (eVar 0) (aCons (eC (.int 9)) aNil))))
  (sSeq (sIf (eOr (eBin oLt (eVar 2) (eC (.int 2))) (eBin oEq (eVar 1) (eLst aNil))) (sRet (eFn 1 G__law_any_part (aCons (eVar 0) aNil))) sPass)
  (sSeq (sSet 3 (eFn 2 G__law_pick (aCons (eVar 0) (aCons (eVar 1) aNil))))
  (sSeq (sIf (eBin oLt (eVar 2) (eC (.int 6))) (sRet (eVar 3)) sPass)
  (sSeq (sSet 4 (eFn 2 G__law_pick (aCons (eVar 0) (aCons (eTup (aCons (eTup (aCons (eC (.int 1)) (aCons (eC (.int 60)) aNil))) (aCons (eTup (aCons (eC (.int 1)) (aCons (eBin oPow (eC (.int 10)) (eC (.int 4))) aNil))) (aCons (eTup (aCons (eC (.int 1)) (aCons (eBin oPow (eC (.int 10)) (eC (.int 12))) aNil))) aNil)))) aNil))))
  (sSeq (sSet 5 (eIf (eBin oEq (eVar 2) (eC (.int 6))) (eFn 2 G__law_sub (aCons (eVar 3) (aCons (eVar 4) aNil))) (eFn 2 G__law_add (aCons (eVar 3) (aCons (eVar 4) aNil)))))
  (sRet (eIf (eChain oLe oLe (eC (.int 0)) (eBin oIx (eVar 5) (eC (.int 0))) (eBin oIx (eVar 5) (eC (.int 1)))) (eVar 5) (eVar 3)))))))))
def G__law_mark : List D → Wl → Res := fun ds w => runG 6 g__law_mark ds w
def g__law_marks : SG :=
  (sSeq (sOwn 3 (eLst aNil))
  (sSeq (sFor (gRng1 (aCons (eVar 1) aNil)) (bName 4) (sSeq (sSet 5 (eFn 2 G__law_mark (aCons (eVar 0) (aCons (eVar 2) aNil))))
  (sApp 3 (eIf (eAnd (eBin oGt (eVar 4) (eC (.int 0))) (eBin oEq (eFn 2 G__law_draw (aCons (eVar 0) (aCons (eC (.int 6)) aNil))) (eC (.int 0)))) (eBin oIx (eOwn 3) (eC (.int 0))) (eVar 5)))))
  (sRet (eCall oTup (aCons (eOwn 3) aNil)))))
def G__law_marks : List D → Wl → Res := fun ds w => runG 6 g__law_marks ds w
def g__law_order : SG :=
  (sSeq (sSet 1 (eLst aNil))
  (sSeq (sFor (gRng1 (aCons (eCall oLen (aCons (eVar 0) aNil)) aNil)) (bName 2) (sSeq (sSet 3 (eCall oLen (aCons (eLc (gSeq (eVar 1)) (bName 4) (eNot (eUn oTru (eFn 2 G__law_below (aCons (eBin oIx (eVar 0) (eVar 2)) (aCons (eBin oIx (eVar 0) (eVar 4)) aNil))))) (eVar 4) [4]) aNil)))
  (sSet 1 (eBin oAdd (eBin oAdd (eSl (eVar 1) pNone (pSome (eVar 3))) (eLst (aCons (eVar 2) aNil))) (eSl (eVar 1) (pSome (eVar 3)) pNone)))))
  (sRet (eVar 1))))
def G__law_order : List D → Wl → Res := fun ds w => runG 5 g__law_order ds w
def g__law_greater : SG :=
  (sRet (eIf (eUn oTru (eFn 2 G__law_below (aCons (eVar 0) (aCons (eVar 1) aNil)))) (eVar 1) (eVar 0)))
def G__law_greater : List D → Wl → Res := fun ds w => runG 2 g__law_greater ds w
def g__law_is_in : SG :=
  (sSeq (sFor (gZip (aCons (eVar 0) (aCons (eVar 1) aNil))) (bTupN 2 (bCons (bName 2) (bCons (bName 3) bNil))) (sIf (eAnd (eBin oNot (eVar 3) (eC .non)) (eUn oTru (eFn 2 G__law_below (aCons (eVar 3) (aCons (eVar 2) aNil))))) (sRet (eC (.bl false))) sPass))
  (sRet (eC (.bl true))))
def G__law_is_in : List D → Wl → Res := fun ds w => runG 4 g__law_is_in ds w
def g__law_low_level : SG :=
  (sSeq (sSet 1 (eFn 1 G__law_level (aCons (eVar 0) aNil)))
  (sRet (eIf (eBin oNe (eVar 1) (eTup (aCons (eC (.int 1)) (aCons (eC (.int 1)) aNil)))) (eVar 1) (eTup (aCons (eC (.int 9)) (aCons (eC (.int 10)) aNil))))))
def G__law_low_level : List D → Wl → Res := fun ds w => runG 2 g__law_low_level ds w
def g__law_steps : SG :=
  (sSeq (sAsg (eTup (aCons (eFn 2 G__law_draw (aCons (eVar 0) (aCons (eC (.int 5)) aNil))) (aCons (eFn 2 G__law_pick (aCons (eVar 0) (aCons (eTup (aCons (eC (.int 20)) (aCons (eC (.int 10)) (aCons (eC (.int 6)) (aCons (eC (.int 60)) (aCons (eC (.int 1000)) aNil)))))) aNil))) aNil))) (bTupN 2 (bCons (bName 2) (bCons (bName 3) bNil))))
  (sSeq (sIf (eBin oEq (eVar 2) (eC (.int 0))) (sSeq (sSet 4 (eFn 1 G__law_low_level (aCons (eVar 0) aNil)))
  (sRet (eCall oTup (aCons (eLc (gRng1 (aCons (eVar 1) aNil)) (bName 5) eYes (eFn 2 G__law_mul (aCons (eVar 4) (aCons (eFn 2 G__law_low (aCons (eBin oAdd (eVar 5) (eC (.int 1))) (aCons (eVar 1) aNil))) aNil))) [5]) aNil)))) sPass)
  (sSeq (sIf (eBin oEq (eVar 2) (eC (.int 1))) (sSeq (sSet 4 (eFn 1 G__law_low_level (aCons (eVar 0) aNil)))
  (sRet (eCall oTup (aCons (eLc (gRng1 (aCons (eVar 1) aNil)) (bName 5) eYes (eFn 2 G__law_mul (aCons (eVar 4) (aCons (eFn 2 G__law_low (aCons (eC (.int 1)) (aCons (eBin oSub (eVar 1) (eVar 5)) aNil))) aNil))) [5]) aNil)))) sPass)
  (sSeq (sSet 6 (eFn 2 G__law_pick (aCons (eVar 0) (aCons (eTup (aCons (eVar 3) (aCons (eVar 3) (aCons (eBin oAdd (eC (.int 1)) (eBin oFdiv (eVar 3) (eC (.int 3)))) (aCons (eBin oAdd (eC (.int 1)) (eBin oFdiv (eVar 3) (eC (.int 3)))) (aCons (eC (.int 2)) aNil)))))) aNil))))
  (sSeq (sSet 7 (eCall oSorted (aCons (eLc (gRng1 (aCons (eVar 1) aNil)) (bName 5) eYes (eFn 2 G__law_draw (aCons (eVar 0) (aCons (eVar 6) aNil))) [5]) aNil)))
  (sRet (eCall oTup (aCons (eLc (gSeq (eVar 7)) (bName 8) eYes (eFn 2 G__law_low (aCons (eVar 8) (aCons (eVar 3) aNil))) [8]) aNil))))))))
def G__law_steps : List D → Wl → Res := fun ds w => runG 9 g__law_steps ds w
def g__law_stepped : SG :=
  (sSeq (sPar 3 4 (aCons (eFn 1 G__law_order (aCons (eVar 0) aNil)) (aCons (eC (.int 0)) aNil)))
  (sSeq (sFor (gRng1 (aCons (eCall oLen (aCons (eVar 0) aNil)) aNil)) (bName 5) (sIf (eAnd (eNot (eUn oTru (eFn 2 G__law_below (aCons (eBin oIx (eVar 1) (eVar 5)) (aCons (eBin oIx (eVar 0) (eBin oIx (eVar 3) (eVar 5))) aNil))))) (eOr (eUn oTru (eVar 2)) (eBin oEq (eVar 4) (eVar 5)))) (sSet 4 (eBin oAdd (eVar 5) (eC (.int 1)))) sPass))
  (sRet (eCall oTup (aCons (eCall oSorted (aCons (eSl (eVar 3) pNone (pSome (eVar 4))) aNil)) aNil)))))
def G__law_stepped : List D → Wl → Res := fun ds w => runG 6 g__law_stepped ds w
def g__law_share : SG :=
  (sSeq (sSet 3 (eFn 3 G__law_stepped (aCons (eVar 0) (aCons (eVar 1) (aCons (eC (.bl true)) aNil)))))
  (sRet (eIf (eBin oNe (eVar 3) (eTup aNil)) (eFn 2 G__law_low (aCons (eCall oLen (aCons (eLc (gSeq (eVar 3)) (bName 4) (eBin oIn (eVar 4) (eVar 2)) (eVar 4) [4]) aNil)) (aCons (eCall oLen (aCons (eVar 3) aNil)) aNil))) (eTup (aCons (eC (.int 0)) (aCons (eC (.int 1)) aNil))))))
def G__law_share : List D → Wl → Res := fun ds w => runG 5 g__law_share ds w
def g__law_worths : SG :=
  (sSeq (sPM2 false true 2 3 (aCons (eCall oLen (aCons (eVar 0) aNil)) (aCons (eLst aNil) aNil)))
  (sSeq (sFor (gRng1 (aCons (eBin oAdd (eBin oSub (eVar 2) (eCall oLen (aCons (eVar 1) aNil))) (eC (.int 1))) aNil)) (bName 4) (sFor (gSeq (eFn 1 G__law_sets_of (aCons (eVar 1) aNil))) (bName 5) (sSeq (sSet 6 (eCall oLen (aCons (eVar 5) aNil)))
  (sApp 3 (eTup (aCons (eFn 3 G__law_edge (aCons (eVar 2) (aCons (eVar 5) (aCons (eBin oIx (eVar 0) (eBin oSub (eBin oAdd (eVar 6) (eVar 4)) (eC (.int 1)))) aNil)))) (aCons (eFn 2 G__law_low (aCons (eVar 6) (aCons (eBin oAdd (eVar 6) (eVar 4)) aNil))) aNil)))))))
  (sRet (eCall oTup (aCons (eOwn 3) aNil)))))
def G__law_worths : List D → Wl → Res := fun ds w => runG 7 g__law_worths ds w
end LV

/-! The second family of laws: the well, one draw, the law. -/
namespace LV
open PySem PySem.Spec L2 DL PF
open PyProof.Rows hiding St
def gStir2 : SG := (sSet 3 (eBin oMod (eCall oInt (aCons (eBin oAdd (eBin oAdd (eBin oMul (eVar 3) (eC (.int 16807))) (eBin oMod (eCall oInt (aCons (eVar 4) aNil)) (eC (.int 2147483549)))) (eC (.int 41))) aNil)) (eC (.int 2147483549))))
theorem stir2_loop : ∀ (ns : List Int) (st : Int) (s0 s1 s2 s4 : Sl) (w : Wl), 0 ≤ st → st < 2147483549 → ∃ st' s4', 0 ≤ st' ∧ st' < 2147483549 ∧ forG (bName 4) gStir2 (ns.map .int) [s0, s1, s2, .dat (.int st), s4] w = .nx [s0, s1, s2, .dat (.int st'), s4'] w
  | [], st, s0, s1, s2, s4, w, h0, h1 => ⟨st, s4, h0, h1, rfl⟩
  | n :: ns, st, s0, s1, s2, s4, w, h0, h1 => by
    have m1 : CMulW st 16807 := mulSmall h0 (by omega) (by omega) (by omega)
    obtain ⟨st', s4', a, b, e⟩ := stir2_loop ns ((st * 16807 + n % 2147483549 + 41) % 2147483549) s0 s1 s2 (.dat (.int n)) w (Int.emod_nonneg _ (by omega)) (Int.emod_lt_of_pos _ (by omega))
    refine ⟨st', s4', a, b, ?_⟩
    rw [← e]
    simp [forG, bName, gStir2, sSet, Res.thn, eBin, Res.bind, eVar, eC, eCall, aCons, aNil, AR.cons, oInt, oAdd, oOr, oAddI, oI, oMul, oMod, m1]
theorem own2_ok (ns : List Int) (turn : Int) (w : Wl) (h0 : 0 ≤ turn) (h1 : turn < 1000) : ∃ own, (sSet 2 (eIf (eBin oLt (eVar 1) (eCall oLen (aCons (eVar 0) aNil))) (eCall oInt (aCons (eBin oIx (eVar 0) (eVar 1)) aNil)) (eBin oAdd (eBin oAdd (eBin oMul (eC (.int 6007)) (eVar 1)) (eC (.int 233))) (eBin oMod (eCall oInt (aCons (eCall oSum (aCons (eSl (eVar 0) pNone (pSome (eC (.int 6)))) aNil)) aNil)) (eC (.int 1000003))))))
    [.dat (.scr ns), .dat (.int turn), .non, .non, .non] w = .nx [.dat (.scr ns), .dat (.int turn), .dat (.int own), .non, .non] w := by
  by_cases z : turn < ns.length
  · obtain ⟨n, e⟩ := at_in h0 z
    refine ⟨n, ?_⟩
    simp [sSet, Res.thn, eIf, bIf, eBin, Res.bind, eVar, eC, eCall, aCons, aNil, AR.cons, oLt, oOr, oRel, oI, oLen, oLen1, z, oIx, e, oInt]
  · have m1 : CMulW 6007 turn := mulSmall (by omega) (by omega) h0 (by omega)
    refine ⟨6007 * turn + 233 + (cutI ns none (some 6)).sum % 1000003, ?_⟩
    simp [sSet, Res.thn, eIf, bIf, eBin, Res.bind, eVar, eC, eCall, aCons, aNil, AR.cons, oLt, oOr, oRel, oI, oLen, oLen1, z, oInt, oAdd, oAddI, oMul, m1, oMod, oSum, oSum1, eSl, pNone, pSome, allInts_map]
theorem well2_ok (ns : List Int) (turn : Int) (w : Wl) (h0 : 0 ≤ turn) (h1 : turn < 1000) : ∃ a b, runN 5 g__law_well [.scr ns, .int turn] w = .ok (.lst [.int a, .int b, .int 0]) w ∧ Wk (10 ^ 8) [a, b, 0] := by
  obtain ⟨own, e1⟩ := own2_ok ns turn w h0 h1
  have m1 : CMulW 3251 turn := mulSmall (by omega) (by omega) h0 (by omega)
  obtain ⟨st, s4, l0, l1, e3⟩ := stir2_loop (cutI ns none (some 9) ++ [own]) (40009 + 3251 * turn) (.dat (.scr ns)) (.dat (.int turn)) (.dat (.int own)) .non w (by omega) (by omega)
  have e2 : (sSet 3 (eBin oAdd (eC (.int 40009)) (eBin oMul (eC (.int 3251)) (eVar 1)))) [.dat (.scr ns), .dat (.int turn), .dat (.int own), .non, .non] w = .nx [.dat (.scr ns), .dat (.int turn), .dat (.int own), .dat (.int (40009 + 3251 * turn)), .non] w := by
    simp [sSet, Res.thn, eBin, Res.bind, eVar, eC, oAdd, oOr, oAddI, oI, oMul, m1]
  have h9 : (cutI ns none (some 9)).length ≤ 9 := by
    unfold cutI
    rw [List.length_take]
    have : HT.sIx ns.length ns.length (some 9) ≤ 9 := by
      show (if (9 : Int) < 0 then ((9 : Int) + (ns.length : Int)).toNat else min (9 : Int).toNat ns.length) ≤ 9
      rw [if_neg (by omega)]
      exact Nat.min_le_left _ _
    omega
  have hl : (cutI ns none (some 9)).length + 1 ≤ sizeLine := Nat.le_trans (by omega) (show 10 ≤ sizeLine by decide)
  have eA : (eBin oAdd (eSl (eVar 0) pNone (pSome (eC (.int 9)))) (eLst (aCons (eVar 2) aNil))) [.dat (.scr ns), .dat (.int turn), .dat (.int own), .dat (.int (40009 + 3251 * turn)), .non] w = .ok (.lst ((cutI ns none (some 9) ++ [own]).map D.int)) w := by
    have s1 : 1 ≤ sizeLine := by decide
    simp [eBin, eSl, eLst, Res.bind, eVar, eC, pNone, pSome, aCons, aNil, AR.cons, oAdd, oOr, oAddI, oAddS, oAddT, oAddL, oI, s1, hl]
  have e4 : (sFor (gSeq (eBin oAdd (eSl (eVar 0) pNone (pSome (eC (.int 9)))) (eLst (aCons (eVar 2) aNil)))) (bName 4) gStir2) [.dat (.scr ns), .dat (.int turn), .dat (.int own), .dat (.int (40009 + 3251 * turn)), .non] w = .nx [.dat (.scr ns), .dat (.int turn), .dat (.int own), .dat (.int st), s4] w := by
    rw [← e3]
    simp only [sFor, AR.thn, gSeq, eA, D.items]
  have pw : CPow 10 16 := by decide
  have sz : 3 ≤ sizeLine := by decide
  have key : ∀ v : Int, (eIf (eOr (eBin oGe (eVar 2) (eBin oPow (eC (.int 10)) (eC (.int 16)))) (eBin oLe (eVar 2) (eBin oSub (eC (.int 0)) (eBin oPow (eC (.int 10)) (eC (.int 16)))))) (eCall oAbs (aCons (eVar 2) aNil)) (eC (.int 0))) [.dat (.scr ns), .dat (.int turn), .dat (.int own), .dat (.int st), s4] w = .ok (.int v) w →
      runN 5 g__law_well [.scr ns, .int turn] w = .ok (.lst [.int v, .int st, .int 0]) w := fun v ev => by
    unfold DL.runN
    have eS : ([D.scr ns, D.int turn].map Sl.dat ++ List.replicate (5 - [D.scr ns, D.int turn].length) Sl.non) = [.dat (.scr ns), .dat (.int turn), .non, .non, .non] := rfl
    rw [eS]
    unfold g__law_well
    have e4' := e4
    unfold gStir2 at e4'
    simp only [sSeq, Out.seq, e1, e2, e4']
    simp [sRetF, Res.thn, eLst, aCons, aNil, AR.cons, ev, eVar, eC, sz]
  by_cases z1 : (10000000000000000 : Int) ≤ own
  · refine ⟨own, st, key own ?_, _, _, _, rfl, by omega, l0, l1, by omega, by omega⟩
    simp [eIf, bIf, eBin, Res.bind, eVar, eC, eCall, aCons, aNil, AR.cons, oOr, oRel, oI, oAdd, oAddI, eOr, oGe, oLe, oPow, pw, oAbs, oSub, z1]
    omega
  · by_cases z2 : own ≤ -10000000000000000
    · refine ⟨-own, st, key (-own) ?_, _, _, _, rfl, by omega, l0, l1, by omega, by omega⟩
      simp [eIf, bIf, eBin, Res.bind, eVar, eC, eCall, aCons, aNil, AR.cons, oOr, oRel, oI, oAdd, oAddI, eOr, oGe, oLe, oPow, pw, oAbs, oSub, z1, z2]
      omega
    · refine ⟨0, st, key 0 ?_, _, _, _, rfl, by omega, l0, l1, by omega, by omega⟩
      simp [eIf, bIf, eBin, Res.bind, eVar, eC, eCall, aCons, aNil, AR.cons, oOr, oRel, oI, oAdd, oAddI, eOr, oGe, oLe, oPow, pw, oAbs, oSub, z1, z2]
/-! ### the law -/
def IsW (GW : List D → Wl → Res) : Prop := ∀ (ns : List Int) (turn : Int) (w : Wl), 0 ≤ turn → turn < 1000 → ∃ a b, GW [.scr ns, .int turn] w = .ok (.lst [.int a, .int b, .int 0]) w ∧ Wk (10 ^ 8) [a, b, 0]
theorem turn2_ok {GR GW : List D → Wl → Res} (hW : IsW GW) (hR : ∀ w, Wk (10 ^ 8) w → ∃ w', GR [.well] w = .ok (.bl true) w') (ns : List Int) (i : Int) (hi : 0 ≤ i) (hi2 : i < 1000) (w : Wl) :
    eTurn GR GW [.dat (.scr ns), .dat (.int i)] w = .ok (.bl true) w := by
  obtain ⟨a, b, e, k⟩ := hW ns i w hi hi2
  obtain ⟨w', eR⟩ := hR _ k
  simp [eTurn, eWell, aCons, aNil, AR.cons, eVar, e, allInts, eR]
theorem law2_ok {GR GW : List D → Wl → Res} (hW : IsW GW) (hR : ∀ w, Wk (10 ^ 8) w → ∃ w', GR [.well] w = .ok (.bl true) w') (ns : List Int) (w : Wl) :
    runG 2 (sRet (eCall oAll (aCons (eLc (gRng1 (aCons (eC (.int 2)) aNil)) (bName 1) eYes (eTurn GR GW) [1]) aNil))) [.scr ns] w = .ok (.bl true) w := by
  have t0 := turn2_ok hW hR ns 0 (by omega) (by omega) w
  have t1 := turn2_ok hW hR ns 1 (by omega) (by omega) w
  have eS : ([D.scr ns].map Sl.dat ++ List.replicate (2 - [D.scr ns].length) Sl.non) = [.dat (.scr ns), .non] := rfl
  have ew : wipeE [.dat (.scr ns), .non] [1] = [.dat (.scr ns), .non] := rfl
  have e1 : dInts 0 1 (2 : Int).toNat = [.int 0, .int 1] := rfl
  have sm : small 2 = true := rfl
  have sz : 2 ≤ sizeLine := by decide
  have el : lcG (bName 1) eYes (eTurn GR GW) [.dat (.scr ns), .non] [.int 0, .int 1] w = .ok [.bl true, .bl true] w := by
    simp [lcG, bName, eYes, t0, t1, AR.cons]
  unfold runG
  rw [eS]
  simp only [sRet, Res.thn, eCall, aCons, aNil, eLc, gRng1, eC, AR.cons, sm, if_true, e1, ew]
  simp [el, AR.cons, sz, oAll, oAll1, allBls]
end LV

/-! The second family of laws: fractions as rational numbers. -/
namespace LV
open PySem PySem.Spec L2 DL PF
open PyProof.Rows hiding St
theorem divInt_eq (n : Int) (m : Int) (hm : 0 < m) : (Rat.divInt n m).num = n / (Nat.gcd n.natAbs m.natAbs : Nat) ∧ ((Rat.divInt n m).den : Int) = m / (Nat.gcd n.natAbs m.natAbs : Nat) := by
  obtain ⟨k, rfl⟩ : ∃ k : Nat, m = k := ⟨m.toNat, by omega⟩
  have hk : k ≠ 0 := by omega
  rw [Rat.divInt_ofNat, Rat.mkRat_def, dif_neg hk, Rat.normalize_eq]
  dsimp only
  rw [Int.natAbs_natCast]
  exact ⟨rfl, by simp⟩
theorem low_loop {w : Wl} (d0 d1 : D) : ∀ (fu : Nat) (a b : Nat), b < fu → whileG (eBin oGt (eVar 3) (eC (.int 0))) (sPar 2 3 (aCons (eVar 3) (aCons (eBin oMod (eCall oInt (aCons (eVar 2) aNil)) (eVar 3)) aNil))) fu [.dat d0, .dat d1, .dat (.int a), .dat (.int b)] w = .nx [.dat d0, .dat d1, .dat (.int (Nat.gcd a b : Nat)), .dat (.int 0)] w
  | 0, a, b, h => by omega
  | fu + 1, a, b, h => by
    have e1 : (eBin oGt (eVar 3) (eC (.int 0))) [.dat d0, .dat d1, .dat (.int a), .dat (.int b)] w = .ok (.bl (decide ((0 : Int) < b))) w := rfl
    by_cases hb : b = 0
    · subst hb
      simp only [whileG, e1, Res.thn]
      simp
    · have hb2 : (0 : Int) < b := by omega
      have e2 : sPar 2 3 (aCons (eVar 3) (aCons (eBin oMod (eCall oInt (aCons (eVar 2) aNil)) (eVar 3)) aNil)) [.dat d0, .dat d1, .dat (.int a), .dat (.int b)] w = .nx [.dat d0, .dat d1, .dat (.int b), .dat (.int ((a % b : Nat)))] w := by
        have e3 : (aCons (eVar 3) (aCons (eBin oMod (eCall oInt (aCons (eVar 2) aNil)) (eVar 3)) aNil)) [.dat d0, .dat d1, .dat (.int a), .dat (.int b)] w = .ok [.int b, .int ((a % b : Nat))] w := by
          refine cons_ev rfl (one_ev ?_)
          refine (mod_ev (w1 := w) (w2 := w) (i := (a : Int)) (j := (b : Int)) rfl rfl hb2).trans ?_
          simp
        simp only [sPar, e3, AR.thn]
        rfl
      have ih := low_loop (w := w) d0 d1 fu b (a % b) (by have := Nat.mod_lt a (by omega : b > 0); omega)
      rw [decide_eq_true hb2] at e1
      simp only [whileG, e1, Res.thn, e2, ih]
      have : Nat.gcd b (a % b) = Nat.gcd a b := by
        rw [Nat.gcd_comm b (a % b), ← Nat.gcd_rec, Nat.gcd_comm]
      rw [this]
theorem low_ev {w : Wl} {B : Nat} (n m : Int) (hm : 0 < m) (hB : m.natAbs < 2 ^ B) (h : B < 9000) : G__law_low [.int n, .int m] w = .ok (encR (Rat.divInt n m)) w := by
  have e := low_loop (w := w) (.int n) (.int m) (m.natAbs + 1) n.natAbs m.natAbs (by omega)
  have hg : 0 < Nat.gcd n.natAbs m.natAbs := Nat.gcd_pos_of_pos_right _ (by omega)
  have hgB : (((Nat.gcd n.natAbs m.natAbs : Nat) : Int)).natAbs < 2 ^ B := by
    have := Nat.gcd_le_right n.natAbs (show 0 < m.natAbs by omega)
    rw [Int.natAbs_natCast]
    omega
  have ha : ∀ i : Int, (if i < 0 then -i else i) = (i.natAbs : Int) := fun i => by split <;> omega
  have e0 : sPar 2 3 (aCons (eCall oAbs (aCons (eVar 0) aNil)) (aCons (eCall oAbs (aCons (eVar 1) aNil)) aNil)) [.dat (.int n), .dat (.int m), .non, .non] w = .nx [.dat (.int n), .dat (.int m), .dat (.int n.natAbs), .dat (.int m.natAbs)] w := by
    show Out.nx [.dat (.int n), .dat (.int m), .dat (.int (if n < 0 then -n else n)), .dat (.int (if m < 0 then -m else m))] w = _
    rw [ha, ha]
  obtain ⟨q1, q2⟩ := divInt_eq n m hm
  unfold encR
  rw [q1, q2]
  refine run_rt ((seq_nx e0).trans ((seq_nx (en1 := [.dat (.int n), .dat (.int m), .dat (.int (Nat.gcd n.natAbs m.natAbs : Nat)), .dat (.int 0)]) (w1 := w) ?_).trans ((set_seq (w1 := w) (d := .int (Nat.gcd n.natAbs m.natAbs : Nat)) ?_).trans (ret_ev ?_))))
  · show whileG _ _ ((m.natAbs : Int).toNat + 1) _ w = _
    rw [Int.toNat_natCast]
    exact e
  · have e1 : (eBin oGt (eVar 1) (eC (.int 0))) [.dat (.int n), .dat (.int m), .dat (.int (Nat.gcd n.natAbs m.natAbs : Nat)), .dat (.int 0)] w = .ok (.bl (decide ((0 : Int) < m))) w := rfl
    rw [decide_eq_true hm] at e1
    simp only [eIf, bIf, e1, Res.bind]
    rfl
  · exact etup_ev (cons_ev (fdiv_ev (w1 := w) (w2 := w) rfl rfl (by omega) hgB h) (one_ev (fdiv_ev (w1 := w) (w2 := w) rfl rfl (by omega) hgB h))) (show 2 ≤ sizeLine by decide)
theorem den_pos (q : Rat) : (0 : Int) < (q.den : Nat) := by have := q.den_pos; omega
theorem den_ne (q : Rat) : ((q.den : Nat) : Int) ≠ 0 := by have := q.den_pos; omega
theorem mul_nat {a b : Int} {B C : Nat} (h1 : a.natAbs < 2 ^ B) (h2 : b.natAbs < 2 ^ C) : (a * b).natAbs < 2 ^ (B + C) := by
  rw [Int.natAbs_mul, Nat.pow_add]
  exact Nat.mul_lt_mul'' h1 h2
section
variable {w : Wl} {B C : Nat} {p q : Rat}
theorem add2_ev (hp : Rz B p) (hq : Rz C q) (h : B + C < 9000) : G__law_add [encR p, encR q] w = .ok (encR (p + q)) w := by
  have e : p + q = Rat.divInt (p.num * q.den + q.num * p.den) (p.den * q.den) := by
    have := Rat.divInt_add_divInt p.num q.num (den_ne p) (den_ne q)
    rwa [Rat.num_divInt_den, Rat.num_divInt_den] at this
  rw [e]
  refine run_rt (ret_ev ((efn_ev (ds := [.int (p.num * q.den + q.num * p.den), .int (p.den * q.den)]) (w1 := w) (cons_ev (w1 := w) ?_ (one_ev ?_)) rfl).trans (low_ev (B := B + C) _ _ (Int.mul_pos (den_pos p) (den_pos q)) (mul_nat hp.den hq.den) (by omega))))
  · exact add_ev (w1 := w) (mul_ev (w1 := w) (w2 := w) (i := p.num) (j := q.den) rfl rfl hp.num hq.den (by omega)) (mul_ev (w1 := w) (w2 := w) (i := q.num) (j := p.den) rfl rfl hq.num hp.den (by omega))
  · exact mul_ev (w1 := w) (w2 := w) (i := p.den) (j := q.den) rfl rfl hp.den hq.den (by omega)
theorem sub2_ev (hp : Rz B p) (hq : Rz C q) (h : B + C < 9000) : G__law_sub [encR p, encR q] w = .ok (encR (p - q)) w := by
  have e : p - q = Rat.divInt (p.num * q.den - q.num * p.den) (p.den * q.den) := by
    have := Rat.divInt_sub_divInt p.num q.num (den_ne p) (den_ne q)
    rwa [Rat.num_divInt_den, Rat.num_divInt_den] at this
  rw [e]
  refine run_rt (ret_ev ((efn_ev (ds := [.int (p.num * q.den - q.num * p.den), .int (p.den * q.den)]) (w1 := w) (cons_ev (w1 := w) ?_ (one_ev ?_)) rfl).trans (low_ev (B := B + C) _ _ (Int.mul_pos (den_pos p) (den_pos q)) (mul_nat hp.den hq.den) (by omega))))
  · exact (bin_ev (w1 := w) (mul_ev (w1 := w) (w2 := w) (i := p.num) (j := q.den) rfl rfl hp.num hq.den (by omega)) (mul_ev (w1 := w) (w2 := w) (i := q.num) (j := p.den) rfl rfl hq.num hp.den (by omega))).trans rfl
  · exact mul_ev (w1 := w) (w2 := w) (i := p.den) (j := q.den) rfl rfl hp.den hq.den (by omega)
theorem mul2_ev (hp : Rz B p) (hq : Rz C q) (h : B + C < 9000) : G__law_mul [encR p, encR q] w = .ok (encR (p * q)) w := by
  have e : p * q = Rat.divInt (p.num * q.num) (p.den * q.den) := by
    have := Rat.divInt_mul_divInt p.num q.num (d₁ := p.den) (d₂ := q.den)
    rwa [Rat.num_divInt_den, Rat.num_divInt_den] at this
  rw [e]
  refine run_rt (ret_ev ((efn_ev (ds := [.int (p.num * q.num), .int (p.den * q.den)]) (w1 := w) (cons_ev (w1 := w) ?_ (one_ev ?_)) rfl).trans (low_ev (B := B + C) _ _ (Int.mul_pos (den_pos p) (den_pos q)) (mul_nat hp.den hq.den) (by omega))))
  · exact mul_ev (w1 := w) (w2 := w) (i := p.num) (j := q.num) rfl rfl hp.num hq.num (by omega)
  · exact mul_ev (w1 := w) (w2 := w) (i := p.den) (j := q.den) rfl rfl hp.den hq.den (by omega)
theorem below_ev (hp : Rz B p) (hq : Rz C q) (h : B + C < 1000000) : G__law_below [encR p, encR q] w = .ok (.bl (decide (p < q))) w := by
  have e : decide (p < q) = decide (p.num * q.den < q.num * p.den) := by
    rw [decide_eq_decide]
    exact Rat.lt_iff p q
  rw [e]
  refine run_rt (ret_ev ((bin_ev (w1 := w) (mul_ev (w1 := w) (w2 := w) (i := p.num) (j := q.den) rfl rfl hp.num hq.den (by omega)) (mul_ev (w1 := w) (w2 := w) (i := q.num) (j := p.den) rfl rfl hq.num hp.den (by omega))).trans (oLt_int _ _)))
theorem div_num_le (n m : Int) (hm : 0 < m) : (Rat.divInt n m).num.natAbs ≤ n.natAbs ∧ ((Rat.divInt n m).den : Nat) ≤ m.natAbs := by
  obtain ⟨q1, q2⟩ := divInt_eq n m hm
  constructor
  · rw [q1, Int.natAbs_ediv_of_dvd (Int.ofNat_dvd_left.mpr (Nat.gcd_dvd_left _ _))]
    exact Nat.div_le_self _ _
  · have h1 : m / (Nat.gcd n.natAbs m.natAbs : Nat) ≤ m := Int.ediv_le_self _ (by omega)
    omega
end
end LV

set_option exponentiation.threshold 2000
/-! The program's functions on fractions, as rational numbers. -/
namespace LV
open PySem PySem.Spec L2 DL PF
open PyProof.Rows hiding St
theorem isR (q : Rat) : IsR (encR q) q := .inl rfl
theorem eqv_toP {x y z : D} (h : x.toP = y.toP) : x.eqv z = y.eqv z := by
  unfold D.eqv
  rw [h]
theorem toP_eqv {x y z : D} (h : x.toP = y.toP) : z.eqv x = z.eqv y := by
  unfold D.eqv
  rw [h]
section
variable {w w1 w2 : Wl} {B C : Nat} {p q : Rat} {d e : D} {en : List Sl} {g : EG}
theorem num_ev (h1 : g en w = .ok d w1) (h : IsR d q) : eBin oIx g (eC (.int 0)) en w = .ok (.int q.num) w1 := (bin_ev (w1 := w1) h1 rfl).trans (h.num w1)
theorem den_ev (h1 : g en w = .ok d w1) (h : IsR d q) : eBin oIx g (eC (.int 1)) en w = .ok (.int q.den) w1 := (bin_ev (w1 := w1) h1 rfl).trans (h.den w1)
theorem lowest_ev (n m : Int) (hm : 0 < m) (hB : m.natAbs < 2 ^ B) (h : B < 9000) : G_lowest [.int n, .int m] w = .ok (encR (Rat.divInt n m)) w := by
  have hg : 0 < Nat.gcd n.natAbs m.natAbs := Nat.gcd_pos_of_pos_right _ (by omega)
  have hgB : (((Nat.gcd n.natAbs m.natAbs : Nat) : Int)).natAbs < 2 ^ B := by
    have := Nat.gcd_le_right n.natAbs (show 0 < m.natAbs by omega)
    rw [Int.natAbs_natCast]
    omega
  obtain ⟨q1, q2⟩ := divInt_eq n m hm
  unfold encR
  rw [q1, q2]
  refine run_rt ((set_seq (w1 := w) (d := .int (Nat.gcd n.natAbs m.natAbs : Nat)) ?_).trans (ret_ev ?_))
  · exact (call_ev (ds := [.int n, .int m]) (w1 := w) rfl).trans rfl
  · exact etup_ev (cons_ev (fdiv_ev (w1 := w) (w2 := w) rfl rfl (by omega) hgB h) (one_ev (fdiv_ev (w1 := w) (w2 := w) rfl rfl (by omega) hgB h))) (show 2 ≤ sizeLine by decide)
theorem at_most_ev (ip : IsR d p) (iq : IsR e q) (hp : Rz B p) (hq : Rz C q) (h : B + C < 1000000) : G_is_at_most [d, e] w = .ok (.bl (decide (p ≤ q))) w := by
  have e0 : decide (p ≤ q) = decide (p.num * q.den ≤ q.num * p.den) := by
    rw [decide_eq_decide]
    exact Rat.le_iff p q
  rw [e0]
  exact run_rt (ret_ev (le_ev (w1 := w) (mul_ev (w1 := w) (w2 := w) (num_ev rfl ip) (den_ev rfl iq) hp.num hq.den (by omega)) (mul_ev (w1 := w) (w2 := w) (num_ev rfl iq) (den_ev rfl ip) hq.num hp.den (by omega))))
theorem eqs_rat : Eqs encR := fun p q => by
  have h := (Eqs.pair eqs_int eqs_int) (p.num, (p.den : Int)) (q.num, (q.den : Int))
  refine (show (encR p).eqv (encR q) = _ from h).trans ?_
  rw [decide_eq_decide]
  constructor
  · intro z
    rw [Prod.mk.injEq] at z
    exact Rat.ext z.1 (by omega)
  · intro z
    rw [z]
theorem eqR_ev (ip : IsR d p) (iq : IsR e q) : oEq d e w = .ok (.bl (decide (p = q))) w := by
  have h1 : d.sh = true := (ip.shp 0).sh
  have h2 : e.sh = true := (iq.shp 0).sh
  have h3 : d.eqv e = decide (p = q) := by
    rw [eqv_toP ip.toP, toP_eqv iq.toP]
    exact eqs_rat p q
  simp only [oEq, h1, h2, Bool.and_self, if_true, h3]
theorem shw_rat (h : Rz B q) (hB : B ≤ 1600) : Shw 1 975 (encR q) := by
  have hp : 2 ^ 1600 ≤ 10 ^ 482 := by decide +kernel
  have h1 : q.num.natAbs < 10 ^ 482 := Nat.lt_of_lt_of_le (Nat.lt_of_lt_of_le h.1 (Nat.pow_le_pow_right (by omega) hB)) hp
  have h2 : ((q.den : Nat) : Int).natAbs < 10 ^ 482 := Nat.lt_of_lt_of_le (Nat.lt_of_lt_of_le h.den (Nat.pow_le_pow_right (by omega) hB)) hp
  exact (shw_tup (shw_two (shw_int h1 (by decide) (by decide) 0) (shw_int h2 (by decide) (by decide) 0))).mono (Nat.le_refl _) (by simp)
end
/-! sizes -/
theorem rz_of {q : Rat} {B : Nat} (n m : Int) (hm : 0 < m) (e : q = Rat.divInt n m) (hn : n.natAbs < 2 ^ B) (hd : m.natAbs < 2 ^ B) : Rz B q := by
  obtain ⟨h1, h2⟩ := div_num_le n m hm
  rw [e]
  exact ⟨Nat.lt_of_le_of_lt h1 hn, Nat.lt_of_le_of_lt h2 hd⟩
/-- between 0 and 1, with a denominator that divides m -/
theorem rz_unit {q : Rat} {B : Nat} (m : Nat) (hm : 0 < m) (hB : m < 2 ^ B) (h0 : 0 ≤ q) (h1 : q ≤ 1) (n : Int) (e : q * m = n) : Rz B q := by
  have hmq : (m : Rat) ≠ 0 := by
    intro z
    have : m = 0 := by exact_mod_cast z
    omega
  have e2 : q = Rat.divInt n m := by
    rw [Rat.divInt_eq_div, ← e]
    have : ((m : Int) : Rat) = (m : Rat) := Rat.intCast_natCast m
    rw [this]
    grind
  have hm0 : (0 : Rat) ≤ (m : Rat) := by exact_mod_cast Nat.zero_le m
  have n0 : (0 : Int) ≤ n := by
    have : (0 : Rat) ≤ (n : Rat) := by rw [← e]; exact Rat.mul_nonneg h0 hm0
    exact_mod_cast this
  have n1 : n ≤ m := by
    have : (n : Rat) ≤ ((m : Int) : Rat) := by
      rw [← e, Rat.intCast_natCast]
      have := Rat.mul_le_mul_of_nonneg_right h1 hm0
      rwa [Rat.one_mul] at this
    exact_mod_cast this
  exact rz_of n m (by omega) e2 (by omega) (by omega)
end LV

/-! The second family of laws: one of some things. -/
namespace LV
open PySem PySem.Spec L2 DL PF
open PyProof.Rows hiding St
/-! all sets -/
def rows (n : Nat) : List IS := (upto n).foldl (fun f x => f ++ f.map fun r => r ++ [x]) [[]]
theorem all_sets_of {w : Wl} {n : Nat} (hm : (sFor (gSeq (eVar 0)) (bName 2) (sSet 1 (eBin oAdd (eVar 1) (eLc (gSeq (eVar 1)) (bName 3) eYes (eBin oAdd (eVar 3) (eTup (aCons (eVar 2) aNil))) [3])))) [.dat (.lst ((upto n).map .int)), .dat (.lst [.tup []]), .non, .non] w = .nx [.dat (.lst ((upto n).map .int)), .dat (.lst ((rows n).map encI)), .dat (.int ((n : Int) - 1)), .non] w)
    (hr : ∃ r, (rows n).map encI = D.tup [] :: r) (hs : srtE ((rows n).map encI) = true) (hz : (rows n).length ≤ sizeLine) (hp : (rows n).Perm ([] :: ssets n)) (ho : (([] :: ssets n).map encI).Pairwise fun a b => PySem.W.dataLe false D.toP a b = true ∧ PySem.W.dataLe false D.toP b a = false) :
    G__law_sets_of [.lst ((upto n).map .int)] w = .ok (.lst ((ssets n).map encI)) w := by
  have e2 : sortD ((rows n).map encI) = ([] :: ssets n).map encI := sortD_eq _ _ (hp.map encI) ho
  obtain ⟨r, hr⟩ := hr
  refine run_rt ((set_seq (w1 := w) (d := .lst [.tup []]) rfl).trans ((seq_nx hm).trans (ret_ev ?_)))
  have e3 : (eCall oSortedE (aCons (eVar 1) aNil)) [.dat (.lst ((upto n).map .int)), .dat (.lst ((rows n).map encI)), .dat (.int ((n : Int) - 1)), .non] w = .ok (.lst (([] :: ssets n).map encI)) w := by
    refine (call_ev (ds := [.lst ((rows n).map encI)]) (w1 := w) rfl).trans ?_
    have hz2 : (D.tup [] :: r).length ≤ sizeLine := by rw [← hr, List.length_map]; exact hz
    rw [hr] at hs e2 ⊢
    simp only [oSortedE, hs, hz2, decide_true, Bool.and_self, if_true, e2]
  simp only [eSl, e3, Res.bind]
  have hc : DL.cutD (([] :: ssets n).map encI) (some 1) none = (ssets n).map encI := by
    have h1 : HT.sIx (([] :: ssets n).map encI).length 0 (some 1) = 1 := by
      show (if (1 : Int) < 0 then ((1 : Int) + ((([] :: ssets n).map encI).length : Nat)).toNat else min (1 : Int).toNat (([] :: ssets n).map encI).length) = 1
      rw [if_neg (by omega), List.length_map, List.length_cons]
      show min 1 ((ssets n).length + 1) = 1
      omega
    have h2 : HT.sIx (([] :: ssets n).map encI).length (([] :: ssets n).map encI).length none = (([] :: ssets n).map encI).length := rfl
    unfold DL.cutD
    rw [h1, h2, List.map_cons, List.drop_one, List.tail_cons]
    exact List.take_of_length_le (by rw [List.length_cons]; omega)
  show Res.ok (.lst (DL.cutD (([] :: ssets n).map encI) (some 1) none)) w = _
  rw [hc]
theorem sets_of_ev {w : Wl} (n : Nat) (h1 : 1 ≤ n) (h2 : n ≤ 5) : G__law_sets_of [.lst ((upto n).map .int)] w = .ok (.lst ((ssets n).map encI)) w := by
  have : n = 1 ∨ n = 2 ∨ n = 3 ∨ n = 4 ∨ n = 5 := by omega
  rcases this with rfl | rfl | rfl | rfl | rfl
  · exact all_sets_of rfl ⟨_, rfl⟩ (by decide +kernel) (by decide +kernel) (by decide +kernel) (by decide +kernel)
  · exact all_sets_of rfl ⟨_, rfl⟩ (by decide +kernel) (by decide +kernel) (by decide +kernel) (by decide +kernel)
  · exact all_sets_of rfl ⟨_, rfl⟩ (by decide +kernel) (by decide +kernel) (by decide +kernel) (by decide +kernel)
  · exact all_sets_of rfl ⟨_, rfl⟩ (by decide +kernel) (by decide +kernel) (by decide +kernel) (by decide +kernel)
  · exact all_sets_of rfl ⟨_, rfl⟩ (by decide +kernel) (by decide +kernel) (by decide +kernel) (by decide +kernel)
theorem lstRg_ev {w : Wl} {en : List Sl} {i n : Nat} (h : en[i]? = some (.dat (.int n))) (hn : n ≤ 1000) : eLstRg1 (eVar i) en w = .ok (.lst ((upto n).map .int)) w := by
  have e : eVar i en w = .ok (.int n) w := by simp only [eVar, h]
  have hb : (n : Int) ≤ 16777216 ∧ -16777216 ≤ (n : Int) := by omega
  have e2 : dInts 0 1 (n : Int).toNat = (upto n).map D.int := by
    unfold dInts upto
    rw [List.map_map, Int.toNat_natCast]
    refine List.map_congr_left fun i _ => ?_
    show D.int (0 + (i : Int) * 1) = D.int i
    congr 1
    omega
  simp only [eLstRg1, e, Res.bind]
  rw [if_pos hb, e2]
theorem all_sets_ev {w : Wl} (n : Nat) (h1 : 1 ≤ n) (h2 : n ≤ 5) : G__law_all_sets [.int n] w = .ok (.lst ((ssets n).map encI)) w :=
  run_rt (ret_ev ((efn_ev (ds := [.lst ((upto n).map .int)]) (w1 := w) (one_ev (lstRg_ev rfl (by omega))) rfl).trans (sets_of_ev n h1 h2)))
/-! a drawn order -/
end LV

namespace K41
open PySem PySem.Spec L2 DL PF LV
open PyProof.Rows hiding St
structure Txt (K : PySem.W.Frag) (TT : List (Addr × Str)) (mg : Str → Option Value) (base : Heap) : Prop where
  f__law_draw : ∃ fd, FunD K "_law_draw" "_law_draw" (defArgs s__law_draw) (defBody s__law_draw) (defScope s__law_draw) [] [] (He.ga K "_law_draw") fd
  g__law_draw : mg "_law_draw" = some (.ref (He.ga K "_law_draw"))
  f__law_pick : ∃ fd, FunD K "_law_pick" "_law_pick" (defArgs s__law_pick) (defBody s__law_pick) (defScope s__law_pick) [] [] (He.ga K "_law_pick") fd
  g__law_pick : mg "_law_pick" = some (.ref (He.ga K "_law_pick"))
  f__law_low : ∃ fd, FunD K "_law_low" "_law_low" (defArgs s__law_low) (defBody s__law_low) (defScope s__law_low) [] [] (He.ga K "_law_low") fd
  g__law_low : mg "_law_low" = some (.ref (He.ga K "_law_low"))
  f__law_any_part : ∃ fd, FunD K "_law_any_part" "_law_any_part" (defArgs s__law_any_part) (defBody s__law_any_part) (defScope s__law_any_part) [] [] (He.ga K "_law_any_part") fd
  g__law_any_part : mg "_law_any_part" = some (.ref (He.ga K "_law_any_part"))
  f__law_sub : ∃ fd, FunD K "_law_sub" "_law_sub" (defArgs s__law_sub) (defBody s__law_sub) (defScope s__law_sub) [] [] (He.ga K "_law_sub") fd
  g__law_sub : mg "_law_sub" = some (.ref (He.ga K "_law_sub"))
  f__law_add : ∃ fd, FunD K "_law_add" "_law_add" (defArgs s__law_add) (defBody s__law_add) (defScope s__law_add) [] [] (He.ga K "_law_add") fd
  g__law_add : mg "_law_add" = some (.ref (He.ga K "_law_add"))
  f__law_mark : ∃ fd, FunD K "_law_mark" "_law_mark" (defArgs s__law_mark) (defBody s__law_mark) (defScope s__law_mark) [] [] (He.ga K "_law_mark") fd
  g__law_mark : mg "_law_mark" = some (.ref (He.ga K "_law_mark"))
  f__law_marks : ∃ fd, FunD K "_law_marks" "_law_marks" (defArgs s__law_marks) (defBody s__law_marks) (defScope s__law_marks) [] [] (He.ga K "_law_marks") fd
  g__law_marks : mg "_law_marks" = some (.ref (He.ga K "_law_marks"))
  f__law_below : ∃ fd, FunD K "_law_below" "_law_below" (defArgs s__law_below) (defBody s__law_below) (defScope s__law_below) [] [] (He.ga K "_law_below") fd
  g__law_below : mg "_law_below" = some (.ref (He.ga K "_law_below"))
  f__law_is_in : ∃ fd, FunD K "_law_is_in" "_law_is_in" (defArgs s__law_is_in) (defBody s__law_is_in) (defScope s__law_is_in) [] [] (He.ga K "_law_is_in") fd
  g__law_is_in : mg "_law_is_in" = some (.ref (He.ga K "_law_is_in"))
  f__law_greater : ∃ fd, FunD K "_law_greater" "_law_greater" (defArgs s__law_greater) (defBody s__law_greater) (defScope s__law_greater) [] [] (He.ga K "_law_greater") fd
  g__law_greater : mg "_law_greater" = some (.ref (He.ga K "_law_greater"))
  f__law_worth_at : ∃ fd, FunD K "_law_worth_at" "_law_worth_at" (defArgs s__law_worth_at) (defBody s__law_worth_at) (defScope s__law_worth_at) [] [] (He.ga K "_law_worth_at") fd
  g__law_worth_at : mg "_law_worth_at" = some (.ref (He.ga K "_law_worth_at"))
  f__law_level : ∃ fd, FunD K "_law_level" "_law_level" (defArgs s__law_level) (defBody s__law_level) (defScope s__law_level) [] [] (He.ga K "_law_level") fd
  g__law_level : mg "_law_level" = some (.ref (He.ga K "_law_level"))
  f__law_low_level : ∃ fd, FunD K "_law_low_level" "_law_low_level" (defArgs s__law_low_level) (defBody s__law_low_level) (defScope s__law_low_level) [] [] (He.ga K "_law_low_level") fd
  g__law_low_level : mg "_law_low_level" = some (.ref (He.ga K "_law_low_level"))
  f__law_mul : ∃ fd, FunD K "_law_mul" "_law_mul" (defArgs s__law_mul) (defBody s__law_mul) (defScope s__law_mul) [] [] (He.ga K "_law_mul") fd
  g__law_mul : mg "_law_mul" = some (.ref (He.ga K "_law_mul"))
  f__law_steps : ∃ fd, FunD K "_law_steps" "_law_steps" (defArgs s__law_steps) (defBody s__law_steps) (defScope s__law_steps) [] [] (He.ga K "_law_steps") fd
  g__law_steps : mg "_law_steps" = some (.ref (He.ga K "_law_steps"))
  f__law_order : ∃ fd, FunD K "_law_order" "_law_order" (defArgs s__law_order) (defBody s__law_order) (defScope s__law_order) [] [] (He.ga K "_law_order") fd
  g__law_order : mg "_law_order" = some (.ref (He.ga K "_law_order"))
  f__law_stepped : ∃ fd, FunD K "_law_stepped" "_law_stepped" (defArgs s__law_stepped) (defBody s__law_stepped) (defScope s__law_stepped) [] [] (He.ga K "_law_stepped") fd
  g__law_stepped : mg "_law_stepped" = some (.ref (He.ga K "_law_stepped"))
  f__law_share : ∃ fd, FunD K "_law_share" "_law_share" (defArgs s__law_share) (defBody s__law_share) (defScope s__law_share) [] [] (He.ga K "_law_share") fd
  g__law_share : mg "_law_share" = some (.ref (He.ga K "_law_share"))
  f_is_row : ∃ fd, FunD K "is_row" "is_row" (defArgs s_is_row) (defBody s_is_row) (defScope s_is_row) [] [] (He.ga K "is_row") fd
  g_is_row : mg "is_row" = some (.ref (He.ga K "is_row"))
  f_is_whole : ∃ fd, FunD K "is_whole" "is_whole" (defArgs s_is_whole) (defBody s_is_whole) (defScope s_is_whole) [] [] (He.ga K "is_whole") fd
  g_is_whole : mg "is_whole" = some (.ref (He.ga K "is_whole"))
  f_is_fraction : ∃ fd, FunD K "is_fraction" "is_fraction" (defArgs s_is_fraction) (defBody s_is_fraction) (defScope s_is_fraction) [] [] (He.ga K "is_fraction") fd
  g_is_fraction : mg "is_fraction" = some (.ref (He.ga K "is_fraction"))
  f_is_number : ∃ fd, FunD K "is_number" "is_number" (defArgs s_is_number) (defBody s_is_number) (defScope s_is_number) [] [] (He.ga K "is_number") fd
  g_is_number : mg "is_number" = some (.ref (He.ga K "is_number"))
  f_is_at_most : ∃ fd, FunD K "is_at_most" "is_at_most" (defArgs s_is_at_most) (defBody s_is_at_most) (defScope s_is_at_most) [] [] (He.ga K "is_at_most") fd
  g_is_at_most : mg "is_at_most" = some (.ref (He.ga K "is_at_most"))
  f_check_limits : ∃ fd, FunD K "check_limits" "check_limits" (defArgs s_check_limits) (defBody s_check_limits) (defScope s_check_limits) [] [] (He.ga K "check_limits") fd
  g_check_limits : mg "check_limits" = some (.ref (He.ga K "check_limits"))
  f_is_count : ∃ fd, FunD K "is_count" "is_count" (defArgs s_is_count) (defBody s_is_count) (defScope s_is_count) [] [] (He.ga K "is_count") fd
  g_is_count : mg "is_count" = some (.ref (He.ga K "is_count"))
  f_tells_count : ∃ fd, FunD K "tells_count" "tells_count" (defArgs s_tells_count) (defBody s_tells_count) (defScope s_tells_count) [] [] (He.ga K "tells_count") fd
  g_tells_count : mg "tells_count" = some (.ref (He.ga K "tells_count"))
  f_check_leading_limits : ∃ fd, FunD K "check_leading_limits" "check_leading_limits" (defArgs s_check_leading_limits) (defBody s_check_leading_limits) (defScope s_check_leading_limits) [] [] (He.ga K "check_leading_limits") fd
  g_check_leading_limits : mg "check_leading_limits" = some (.ref (He.ga K "check_leading_limits"))
  f_is_ascending : ∃ fd, FunD K "is_ascending" "is_ascending" (defArgs s_is_ascending) (defBody s_is_ascending) (defScope s_is_ascending) [] [] (He.ga K "is_ascending") fd
  g_is_ascending : mg "is_ascending" = some (.ref (He.ga K "is_ascending"))
  f_is_index : ∃ fd, FunD K "is_index" "is_index" (defArgs s_is_index) (defBody s_is_index) (defScope s_is_index) [] [] (He.ga K "is_index") fd
  g_is_index : mg "is_index" = some (.ref (He.ga K "is_index"))
  f_is_set : ∃ fd, FunD K "is_set" "is_set" (defArgs s_is_set) (defBody s_is_set) (defScope s_is_set) [] [] (He.ga K "is_set") fd
  g_is_set : mg "is_set" = some (.ref (He.ga K "is_set"))
  f_check_set : ∃ fd, FunD K "check_set" "check_set" (defArgs s_check_set) (defBody s_check_set) (defScope s_check_set) [] [] (He.ga K "check_set") fd
  g_check_set : mg "check_set" = some (.ref (He.ga K "check_set"))
  f_all_sets : ∃ fd, FunD K "all_sets" "all_sets" (defArgs s_all_sets) (defBody s_all_sets) (defScope s_all_sets) [] [] (He.ga K "all_sets") fd
  g_all_sets : mg "all_sets" = some (.ref (He.ga K "all_sets"))
  f_is_part : ∃ fd, FunD K "is_part" "is_part" (defArgs s_is_part) (defBody s_is_part) (defScope s_is_part) [] [] (He.ga K "is_part") fd
  g_is_part : mg "is_part" = some (.ref (He.ga K "is_part"))
  f_alike : ∃ fd, FunD K "alike" "alike" (defArgs s_alike) (defBody s_alike) (defScope s_alike) [] [] (He.ga K "alike") fd
  g_alike : mg "alike" = some (.ref (He.ga K "alike"))
  f_lowest : ∃ fd, FunD K "lowest" "lowest" (defArgs s_lowest) (defBody s_lowest) (defScope s_lowest) [] [] (He.ga K "lowest") fd
  g_lowest : mg "lowest" = some (.ref (He.ga K "lowest"))
  f_share_worth : ∃ fd, FunD K "share_worth" "share_worth" (defArgs s_share_worth) (defBody s_share_worth) (defScope s_share_worth) [] [] (He.ga K "share_worth") fd
  g_share_worth : mg "share_worth" = some (.ref (He.ga K "share_worth"))
  f_worths_against : ∃ fd, FunD K "worths_against" "worths_against" (defArgs s_worths_against) (defBody s_worths_against) (defScope s_worths_against) [] [] (He.ga K "worths_against") fd
  g_worths_against : mg "worths_against" = some (.ref (He.ga K "worths_against"))
  f_share_worths : ∃ fd, FunD K "share_worths" "share_worths" (defArgs s_share_worths) (defBody s_share_worths) (defScope s_share_worths) [] [] (He.ga K "share_worths") fd
  g_share_worths : mg "share_worths" = some (.ref (He.ga K "share_worths"))
  f__law_sets_of : ∃ fd, FunD K "_law_sets_of" "_law_sets_of" (defArgs s__law_sets_of) (defBody s__law_sets_of) (defScope s__law_sets_of) [] [] (He.ga K "_law_sets_of") fd
  g__law_sets_of : mg "_law_sets_of" = some (.ref (He.ga K "_law_sets_of"))
  f__law_edge : ∃ fd, FunD K "_law_edge" "_law_edge" (defArgs s__law_edge) (defBody s__law_edge) (defScope s__law_edge) [] [] (He.ga K "_law_edge") fd
  g__law_edge : mg "_law_edge" = some (.ref (He.ga K "_law_edge"))
  f__law_worths : ∃ fd, FunD K "_law_worths" "_law_worths" (defArgs s__law_worths) (defBody s__law_worths) (defScope s__law_worths) [] [] (He.ga K "_law_worths") fd
  g__law_worths : mg "_law_worths" = some (.ref (He.ga K "_law_worths"))
  f__law_all_sets : ∃ fd, FunD K "_law_all_sets" "_law_all_sets" (defArgs s__law_all_sets) (defBody s__law_all_sets) (defScope s__law_all_sets) [] [] (He.ga K "_law_all_sets") fd
  g__law_all_sets : mg "_law_all_sets" = some (.ref (He.ga K "_law_all_sets"))
  f_first_wrong : ∃ fd, FunD K "first_wrong" "first_wrong" (defArgs s_first_wrong) (defBody s_first_wrong) (defScope s_first_wrong) [] [] (He.ga K "first_wrong") fd
  g_first_wrong : mg "first_wrong" = some (.ref (He.ga K "first_wrong"))
  f_check_numbers : ∃ fd, FunD K "check_numbers" "check_numbers" (defArgs s_check_numbers) (defBody s_check_numbers) (defScope s_check_numbers) [] [] (He.ga K "check_numbers") fd
  g_check_numbers : mg "check_numbers" = some (.ref (He.ga K "check_numbers"))
  f_check_leading_numbers : ∃ fd, FunD K "check_leading_numbers" "check_leading_numbers" (defArgs s_check_leading_numbers) (defBody s_check_leading_numbers) (defScope s_check_leading_numbers) [] [] (He.ga K "check_leading_numbers") fd
  g_check_leading_numbers : mg "check_leading_numbers" = some (.ref (He.ga K "check_leading_numbers"))
  f_up_to : ∃ fd, FunD K "up_to" "up_to" (defArgs s_up_to) (defBody s_up_to) (defScope s_up_to) [] [] (He.ga K "up_to") fd
  g_up_to : mg "up_to" = some (.ref (He.ga K "up_to"))
  f_called_up : ∃ fd, FunD K "called_up" "called_up" (defArgs s_called_up) (defBody s_called_up) (defScope s_called_up) [] [] (He.ga K "called_up") fd
  g_called_up : mg "called_up" = some (.ref (He.ga K "called_up"))
  f_share : ∃ fd, FunD K "share" "share" (defArgs s_share) (defBody s_share) (defScope s_share) [] [] (He.ga K "share") fd
  g_share : mg "share" = some (.ref (He.ga K "share"))
  f__law_greatest : ∃ fd, FunD K "_law_greatest" "_law_greatest" (defArgs s__law_greatest) (defBody s__law_greatest) (defScope s__law_greatest) [] [] (He.ga K "_law_greatest") fd
  g__law_greatest : mg "_law_greatest" = some (.ref (He.ga K "_law_greatest"))
  f__law_right : ∃ fd, FunD K "_law_right" "_law_right" (defArgs s__law_right) (defBody s__law_right) (defScope s__law_right) [] [] (He.ga K "_law_right") fd
  g__law_right : mg "_law_right" = some (.ref (He.ga K "_law_right"))
  f__law_well : ∃ fd, FunD K "_law_well" "_law_well" (defArgs s__law_well) (defBody s__law_well) (defScope s__law_well) [] [] (He.ga K "_law_well") fd
  g__law_well : mg "_law_well" = some (.ref (He.ga K "_law_well"))
  f_law : ∃ fd, FunD K "law" "law" (defArgs s_law) (defBody s_law) (defScope s_law) [] [] (He.ga K "law") fd
  g_law : mg "law" = some (.ref (He.ga K "law"))
  k_NIL : mg "NIL" = some (.ref (He.ga K "NIL")) ∧ ConT K (He.ga K "NIL") [0, 1]
  k_ONE : mg "ONE" = some (.ref (He.ga K "ONE")) ∧ ConT K (He.ga K "ONE") [1, 1]
  z_abs : mg "abs" = none
  z_all : mg "all" = none
  z_divmod : mg "divmod" = none
  z_enumerate : mg "enumerate" = none
  z_int : mg "int" = none
  z_len : mg "len" = none
  z_list : mg "list" = none
  z_range : mg "range" = none
  z_repr : mg "repr" = none
  z_sorted : mg "sorted" = none
  z_sum : mg "sum" = none
  z_tuple : mg "tuple" = none
  z_type : mg "type" = none
  z_zip : mg "zip" = none
  m_gcd : mg "gcd" = some (.builtin "math.gcd")
  c_MOST_COUNT : ∃ t, mg "MOST_COUNT" = some (.int 5 t)
variable {P : Program} {w : World} {K : Kt} {mg : Str → Option Value} {base : Heap}
theorem sc__law_draw : FnScope ["well", "size", "digit", "mixed"] ["well", "size"] (defScope s__law_draw) := ⟨rfl, rfl, rfl, by decide +kernel, rfl, by decide +kernel, by decide +kernel⟩
abbrev cx__law_draw (P : Program) (w : World) (K : PySem.W.Frag) (mg : Str → Option Value) (base : Heap) (cdv : Value) (A : Around) (outer : List Env) (s : Shared) (H : Hp) (E : XK) : Cx := cxOf (L2.CX P w) P w K mg base ["well", "size", "digit", "mixed"] "_law_draw" (defScope s__law_draw) (He.ga K "_law_draw") cdv A outer s H E
theorem fg__law_draw (T : Txt K.K K.T mg base) {fd : FuncData} (F : FunD K.K "_law_draw" "_law_draw" (defArgs s__law_draw) (defBody s__law_draw) (defScope s__law_draw) [] [] (He.ga K.K "_law_draw") fd) : FG P w K mg base 1 (He.ga K "_law_draw") fd ["well", "size"] (spD K 2 G__law_draw) := by
  refine fg_of F sc__law_draw (fun ds w h => rfl) (fun cdv hcv A outer s H E hr => ?_)
  have nd := (sc__law_draw).nd
  have tk : Takes (cx__law_draw P w K.K mg base cdv A outer s H E) (We E) := takes_of rfl rfl rfl rfl
  have hpo : PassesOwn (model P w) (cx__law_draw P w K.K mg base cdv A outer s H E).A (cx__law_draw P w K.K mg base cdv A outer s H E).env (cx__law_draw P w K.K mg base cdv A outer s H E).xe := passes_of (X := cx__law_draw P w K.K mg base cdv A outer s H E) rfl
  exact ⟨_, (dss_cons (ds_if (dt_gt (de_ix (de_var 0) de_int) de_int) (dss_cons (ds_take 0 2 nd rfl (by rfl) T.z_divmod de_int (de_ix (de_var 0) de_int) (de_var 1))
    (dss_one (ds_ret (de_var 2)))) dss_nil)
    (dss_cons (ds_put 0 (de_add (de_ix (de_var 0) de_int) de_int) de_int)
    (dss_cons (ds_set 3 nd (de_mod (de_intOf (by rfl) T.z_int (dq_cons (de_add (de_add (de_mul (de_ix (de_var 0) de_int) de_int) (de_mul (de_ix (de_var 0) de_int) de_int)) de_int) da_nil)) de_int))
    (dss_cons (ds_put 0 (de_mod (de_intOf (by rfl) T.z_int (dq_cons (de_add (de_mul (de_var 3) (de_add (de_mul de_int (de_fdiv (de_var 3) de_int)) de_int)) (de_ix (de_var 0) de_int)) da_nil)) de_int) de_int)
    (dss_one (ds_ret (de_mod (de_intOf (by rfl) T.z_int (dq_cons (de_fdiv (de_ix (de_var 0) de_int) de_int) da_nil)) (de_var 1))))))))⟩
theorem cl__law_draw (T : Txt K.K K.T mg base) : Cl P w K mg base 1 "_law_draw" 2 G__law_draw := by
  obtain ⟨fd, F⟩ := T.f__law_draw
  exact ⟨fd, _, fg__law_draw T F, T.g__law_draw, F.kp, FunD.bindsN (ps := ["well", "size"]) F fun _ _ _ _ _ _ us hl => match us, hl with | [_, _], _ => rfl⟩
theorem sc__law_pick : FnScope ["well", "some"] ["well", "some"] (defScope s__law_pick) := ⟨rfl, rfl, rfl, by decide +kernel, rfl, by decide +kernel, by decide +kernel⟩
abbrev cx__law_pick (P : Program) (w : World) (K : PySem.W.Frag) (mg : Str → Option Value) (base : Heap) (cdv : Value) (A : Around) (outer : List Env) (s : Shared) (H : Hp) (E : XK) : Cx := cxOf (L2.CX P w) P w K mg base ["well", "some"] "_law_pick" (defScope s__law_pick) (He.ga K "_law_pick") cdv A outer s H E
theorem fg__law_pick (T : Txt K.K K.T mg base) {fd : FuncData} (F : FunD K.K "_law_pick" "_law_pick" (defArgs s__law_pick) (defBody s__law_pick) (defScope s__law_pick) [] [] (He.ga K.K "_law_pick") fd) : FG P w K mg base 2 (He.ga K "_law_pick") fd ["well", "some"] (spD K 2 G__law_pick) := by
  refine fg_of F sc__law_pick (fun ds w h => rfl) (fun cdv hcv A outer s H E hr => ?_)
  have nd := (sc__law_pick).nd
  have tk : Takes (cx__law_pick P w K.K mg base cdv A outer s H E) (We E) := takes_of rfl rfl rfl rfl
  have hpo : PassesOwn (model P w) (cx__law_pick P w K.K mg base cdv A outer s H E).A (cx__law_pick P w K.K mg base cdv A outer s H E).env (cx__law_pick P w K.K mg base cdv A outer s H E).xe := passes_of (X := cx__law_pick P w K.K mg base cdv A outer s H E) rfl
  exact ⟨_, (dss_one (ds_ret (de_ix (de_var 1) (de_c (cl__law_draw T) hr tk (by decide) (by rfl) (da_cons (de_var 0) (da_cons (de_len (by rfl) T.z_len (dq_cons (de_var 1) da_nil)) da_nil))))))⟩
theorem cl__law_pick (T : Txt K.K K.T mg base) : Cl P w K mg base 2 "_law_pick" 2 G__law_pick := by
  obtain ⟨fd, F⟩ := T.f__law_pick
  exact ⟨fd, _, fg__law_pick T F, T.g__law_pick, F.kp, FunD.bindsN (ps := ["well", "some"]) F fun _ _ _ _ _ _ us hl => match us, hl with | [_, _], _ => rfl⟩
theorem sc__law_low : FnScope ["top", "under", "one", "two"] ["top", "under"] (defScope s__law_low) := ⟨rfl, rfl, rfl, by decide +kernel, rfl, by decide +kernel, by decide +kernel⟩
abbrev cx__law_low (P : Program) (w : World) (K : PySem.W.Frag) (mg : Str → Option Value) (base : Heap) (cdv : Value) (A : Around) (outer : List Env) (s : Shared) (H : Hp) (E : XK) : Cx := cxOf (L2.CX P w) P w K mg base ["top", "under", "one", "two"] "_law_low" (defScope s__law_low) (He.ga K "_law_low") cdv A outer s H E
theorem fg__law_low (T : Txt K.K K.T mg base) {fd : FuncData} (F : FunD K.K "_law_low" "_law_low" (defArgs s__law_low) (defBody s__law_low) (defScope s__law_low) [] [] (He.ga K.K "_law_low") fd) : FG P w K mg base 1 (He.ga K "_law_low") fd ["top", "under"] (spD K 2 G__law_low) := by
  refine fg_of F sc__law_low (fun ds w h => rfl) (fun cdv hcv A outer s H E hr => ?_)
  have nd := (sc__law_low).nd
  have tk : Takes (cx__law_low P w K.K mg base cdv A outer s H E) (We E) := takes_of rfl rfl rfl rfl
  have hpo : PassesOwn (model P w) (cx__law_low P w K.K mg base cdv A outer s H E).A (cx__law_low P w K.K mg base cdv A outer s H E).env (cx__law_low P w K.K mg base cdv A outer s H E).xe := passes_of (X := cx__law_low P w K.K mg base cdv A outer s H E) rfl
  exact ⟨_, (dss_cons (ds_par 2 3 rfl nd (da_cons (de_abs (by rfl) T.z_abs (dq_cons (de_var 0) da_nil)) (da_cons (de_abs (by rfl) T.z_abs (dq_cons (de_var 1) da_nil)) da_nil)))
    (dss_cons (ds_while (fuInt 3) hpo (dt_gt (de_var 3) de_int) (dss_one (ds_par 2 3 rfl nd (da_cons (de_var 3) (da_cons (de_mod (de_intOf (by rfl) T.z_int (dq_cons (de_var 2) da_nil)) (de_var 3)) da_nil)))))
    (dss_cons (ds_set 2 nd (de_if (dt_gt (de_var 1) de_int) (de_var 2) (de_sub de_int (de_var 2))))
    (dss_one (ds_ret (de_tup (da_cons (de_fdiv (de_var 0) (de_var 2)) (da_cons (de_fdiv (de_var 1) (de_var 2)) da_nil))))))))⟩
theorem cl__law_low (T : Txt K.K K.T mg base) : Cl P w K mg base 1 "_law_low" 2 G__law_low := by
  obtain ⟨fd, F⟩ := T.f__law_low
  exact ⟨fd, _, fg__law_low T F, T.g__law_low, F.kp, FunD.bindsN (ps := ["top", "under"]) F fun _ _ _ _ _ _ us hl => match us, hl with | [_, _], _ => rfl⟩
theorem sc__law_any_part : FnScope ["well", "under"] ["well"] (defScope s__law_any_part) := ⟨rfl, rfl, rfl, by decide +kernel, rfl, by decide +kernel, by decide +kernel⟩
abbrev cx__law_any_part (P : Program) (w : World) (K : PySem.W.Frag) (mg : Str → Option Value) (base : Heap) (cdv : Value) (A : Around) (outer : List Env) (s : Shared) (H : Hp) (E : XK) : Cx := cxOf (L2.CX P w) P w K mg base ["well", "under"] "_law_any_part" (defScope s__law_any_part) (He.ga K "_law_any_part") cdv A outer s H E
theorem fg__law_any_part (T : Txt K.K K.T mg base) {fd : FuncData} (F : FunD K.K "_law_any_part" "_law_any_part" (defArgs s__law_any_part) (defBody s__law_any_part) (defScope s__law_any_part) [] [] (He.ga K.K "_law_any_part") fd) : FG P w K mg base 3 (He.ga K "_law_any_part") fd ["well"] (spD K 1 G__law_any_part) := by
  refine fg_of F sc__law_any_part (fun ds w h => rfl) (fun cdv hcv A outer s H E hr => ?_)
  have nd := (sc__law_any_part).nd
  have tk : Takes (cx__law_any_part P w K.K mg base cdv A outer s H E) (We E) := takes_of rfl rfl rfl rfl
  have hpo : PassesOwn (model P w) (cx__law_any_part P w K.K mg base cdv A outer s H E).A (cx__law_any_part P w K.K mg base cdv A outer s H E).env (cx__law_any_part P w K.K mg base cdv A outer s H E).xe := passes_of (X := cx__law_any_part P w K.K mg base cdv A outer s H E) rfl
  exact ⟨_, (dss_cons (ds_set 1 nd (de_c (cl__law_pick T) hr tk (by decide) (by rfl) (da_cons (de_var 0) (da_cons (de_tup (da_cons de_int (da_cons de_int (da_cons de_int (da_cons de_int (da_cons de_int (da_cons de_int (da_cons de_int (da_cons de_int (da_cons de_int (da_cons (de_pow de_int de_int) da_nil))))))))))) da_nil))))
    (dss_one (ds_ret (de_c (cl__law_low T) hr tk (by decide) (by rfl) (da_cons (de_c (cl__law_draw T) hr tk (by decide) (by rfl) (da_cons (de_var 0) (da_cons (de_add (de_var 1) de_int) da_nil))) (da_cons (de_var 1) da_nil))))))⟩
theorem cl__law_any_part (T : Txt K.K K.T mg base) : Cl P w K mg base 3 "_law_any_part" 1 G__law_any_part := by
  obtain ⟨fd, F⟩ := T.f__law_any_part
  exact ⟨fd, _, fg__law_any_part T F, T.g__law_any_part, F.kp, FunD.bindsN (ps := ["well"]) F fun _ _ _ _ _ _ us hl => match us, hl with | [_], _ => rfl⟩
theorem sc__law_sub : FnScope ["one", "two"] ["one", "two"] (defScope s__law_sub) := ⟨rfl, rfl, rfl, by decide +kernel, rfl, by decide +kernel, by decide +kernel⟩
abbrev cx__law_sub (P : Program) (w : World) (K : PySem.W.Frag) (mg : Str → Option Value) (base : Heap) (cdv : Value) (A : Around) (outer : List Env) (s : Shared) (H : Hp) (E : XK) : Cx := cxOf (L2.CX P w) P w K mg base ["one", "two"] "_law_sub" (defScope s__law_sub) (He.ga K "_law_sub") cdv A outer s H E
theorem fg__law_sub (T : Txt K.K K.T mg base) {fd : FuncData} (F : FunD K.K "_law_sub" "_law_sub" (defArgs s__law_sub) (defBody s__law_sub) (defScope s__law_sub) [] [] (He.ga K.K "_law_sub") fd) : FG P w K mg base 2 (He.ga K "_law_sub") fd ["one", "two"] (spD K 2 G__law_sub) := by
  refine fg_of F sc__law_sub (fun ds w h => rfl) (fun cdv hcv A outer s H E hr => ?_)
  have nd := (sc__law_sub).nd
  have tk : Takes (cx__law_sub P w K.K mg base cdv A outer s H E) (We E) := takes_of rfl rfl rfl rfl
  have hpo : PassesOwn (model P w) (cx__law_sub P w K.K mg base cdv A outer s H E).A (cx__law_sub P w K.K mg base cdv A outer s H E).env (cx__law_sub P w K.K mg base cdv A outer s H E).xe := passes_of (X := cx__law_sub P w K.K mg base cdv A outer s H E) rfl
  exact ⟨_, (dss_one (ds_ret (de_c (cl__law_low T) hr tk (by decide) (by rfl) (da_cons (de_sub (de_mul (de_ix (de_var 0) de_int) (de_ix (de_var 1) de_int)) (de_mul (de_ix (de_var 1) de_int) (de_ix (de_var 0) de_int))) (da_cons (de_mul (de_ix (de_var 0) de_int) (de_ix (de_var 1) de_int)) da_nil)))))⟩
theorem cl__law_sub (T : Txt K.K K.T mg base) : Cl P w K mg base 2 "_law_sub" 2 G__law_sub := by
  obtain ⟨fd, F⟩ := T.f__law_sub
  exact ⟨fd, _, fg__law_sub T F, T.g__law_sub, F.kp, FunD.bindsN (ps := ["one", "two"]) F fun _ _ _ _ _ _ us hl => match us, hl with | [_, _], _ => rfl⟩
theorem sc__law_add : FnScope ["one", "two"] ["one", "two"] (defScope s__law_add) := ⟨rfl, rfl, rfl, by decide +kernel, rfl, by decide +kernel, by decide +kernel⟩
abbrev cx__law_add (P : Program) (w : World) (K : PySem.W.Frag) (mg : Str → Option Value) (base : Heap) (cdv : Value) (A : Around) (outer : List Env) (s : Shared) (H : Hp) (E : XK) : Cx := cxOf (L2.CX P w) P w K mg base ["one", "two"] "_law_add" (defScope s__law_add) (He.ga K "_law_add") cdv A outer s H E
theorem fg__law_add (T : Txt K.K K.T mg base) {fd : FuncData} (F : FunD K.K "_law_add" "_law_add" (defArgs s__law_add) (defBody s__law_add) (defScope s__law_add) [] [] (He.ga K.K "_law_add") fd) : FG P w K mg base 2 (He.ga K "_law_add") fd ["one", "two"] (spD K 2 G__law_add) := by
  refine fg_of F sc__law_add (fun ds w h => rfl) (fun cdv hcv A outer s H E hr => ?_)
  have nd := (sc__law_add).nd
  have tk : Takes (cx__law_add P w K.K mg base cdv A outer s H E) (We E) := takes_of rfl rfl rfl rfl
  have hpo : PassesOwn (model P w) (cx__law_add P w K.K mg base cdv A outer s H E).A (cx__law_add P w K.K mg base cdv A outer s H E).env (cx__law_add P w K.K mg base cdv A outer s H E).xe := passes_of (X := cx__law_add P w K.K mg base cdv A outer s H E) rfl
  exact ⟨_, (dss_one (ds_ret (de_c (cl__law_low T) hr tk (by decide) (by rfl) (da_cons (de_add (de_mul (de_ix (de_var 0) de_int) (de_ix (de_var 1) de_int)) (de_mul (de_ix (de_var 1) de_int) (de_ix (de_var 0) de_int))) (da_cons (de_mul (de_ix (de_var 0) de_int) (de_ix (de_var 1) de_int)) da_nil)))))⟩
theorem cl__law_add (T : Txt K.K K.T mg base) : Cl P w K mg base 2 "_law_add" 2 G__law_add := by
  obtain ⟨fd, F⟩ := T.f__law_add
  exact ⟨fd, _, fg__law_add T F, T.g__law_add, F.kp, FunD.bindsN (ps := ["one", "two"]) F fun _ _ _ _ _ _ us hl => match us, hl with | [_, _], _ => rfl⟩
theorem sc__law_mark : FnScope ["well", "near", "way", "cut", "by", "found"] ["well", "near"] (defScope s__law_mark) := ⟨rfl, rfl, rfl, by decide +kernel, rfl, by decide +kernel, by decide +kernel⟩
abbrev cx__law_mark (P : Program) (w : World) (K : PySem.W.Frag) (mg : Str → Option Value) (base : Heap) (cdv : Value) (A : Around) (outer : List Env) (s : Shared) (H : Hp) (E : XK) : Cx := cxOf (L2.CX P w) P w K mg base ["well", "near", "way", "cut", "by", "found"] "_law_mark" (defScope s__law_mark) (He.ga K "_law_mark") cdv A outer s H E
theorem fg__law_mark (T : Txt K.K K.T mg base) {fd : FuncData} (F : FunD K.K "_law_mark" "_law_mark" (defArgs s__law_mark) (defBody s__law_mark) (defScope s__law_mark) [] [] (He.ga K.K "_law_mark") fd) : FG P w K mg base 4 (He.ga K "_law_mark") fd ["well", "near"] (spD K 2 G__law_mark) := by
  refine fg_of F sc__law_mark (fun ds w h => rfl) (fun cdv hcv A outer s H E hr => ?_)
  have nd := (sc__law_mark).nd
  have tk : Takes (cx__law_mark P w K.K mg base cdv A outer s H E) (We E) := takes_of rfl rfl rfl rfl
  have hpo : PassesOwn (model P w) (cx__law_mark P w K.K mg base cdv A outer s H E).A (cx__law_mark P w K.K mg base cdv A outer s H E).env (cx__law_mark P w K.K mg base cdv A outer s H E).xe := passes_of (X := cx__law_mark P w K.K mg base cdv A outer s H E) rfl
  exact ⟨_, (dss_cons (ds_set 2 nd (de_c (cl__law_draw T) hr tk (by decide) (by rfl) (da_cons (de_var 0) (da_cons de_int da_nil))))
    (dss_cons (ds_if (DW.dt (dw_or (dt_lt hr.u (de_var 2) de_int) (dw_or1 (dt_eq hr.u (de_var 1) (de_lst da_nil))))) (dss_one (ds_ret (de_c (cl__law_any_part T) hr tk (by decide) (by rfl) (da_cons (de_var 0) da_nil)))) dss_nil)
    (dss_cons (ds_set 3 nd (de_c (cl__law_pick T) hr tk (by decide) (by rfl) (da_cons (de_var 0) (da_cons (de_var 1) da_nil))))
    (dss_cons (ds_if (dt_lt hr.u (de_var 2) de_int) (dss_one (ds_ret (de_var 3))) dss_nil)
    (dss_cons (ds_set 4 nd (de_c (cl__law_pick T) hr tk (by decide) (by rfl) (da_cons (de_var 0) (da_cons (de_tup (da_cons (de_tup (da_cons de_int (da_cons de_int da_nil))) (da_cons (de_tup (da_cons de_int (da_cons (de_pow de_int de_int) da_nil))) (da_cons (de_tup (da_cons de_int (da_cons (de_pow de_int de_int) da_nil))) da_nil)))) da_nil))))
    (dss_cons (ds_set 5 nd (de_if (dt_eq hr.u (de_var 2) de_int) (de_c (cl__law_sub T) hr tk (by decide) (by rfl) (da_cons (de_var 3) (da_cons (de_var 4) da_nil))) (de_c (cl__law_add T) hr tk (by decide) (by rfl) (da_cons (de_var 3) (da_cons (de_var 4) da_nil)))))
    (dss_one (ds_ret (de_if (dt_lele de_int (de_ix (de_var 5) de_int) (de_ix (de_var 5) de_int)) (de_var 5) (de_var 3))))))))))⟩
theorem cl__law_mark (T : Txt K.K K.T mg base) : Cl P w K mg base 4 "_law_mark" 2 G__law_mark := by
  obtain ⟨fd, F⟩ := T.f__law_mark
  exact ⟨fd, _, fg__law_mark T F, T.g__law_mark, F.kp, FunD.bindsN (ps := ["well", "near"]) F fun _ _ _ _ _ _ us hl => match us, hl with | [_, _], _ => rfl⟩
theorem sc__law_marks : FnScope ["well", "many", "near", "found", "k", "one"] ["well", "many", "near"] (defScope s__law_marks) := ⟨rfl, rfl, rfl, by decide +kernel, rfl, by decide +kernel, by decide +kernel⟩
abbrev cx__law_marks (P : Program) (w : World) (K : PySem.W.Frag) (mg : Str → Option Value) (base : Heap) (cdv : Value) (A : Around) (outer : List Env) (s : Shared) (H : Hp) (E : XK) : Cx := cxOf (L2.CX P w) P w K mg base ["well", "many", "near", "found", "k", "one"] "_law_marks" (defScope s__law_marks) (He.ga K "_law_marks") cdv A outer s H E
theorem fg__law_marks (T : Txt K.K K.T mg base) {fd : FuncData} (F : FunD K.K "_law_marks" "_law_marks" (defArgs s__law_marks) (defBody s__law_marks) (defScope s__law_marks) [] [] (He.ga K.K "_law_marks") fd) : FG P w K mg base 5 (He.ga K "_law_marks") fd ["well", "many", "near"] (spD K 3 G__law_marks) := by
  refine fg_of F sc__law_marks (fun ds w h => rfl) (fun cdv hcv A outer s H E hr => ?_)
  have nd := (sc__law_marks).nd
  have tk : Takes (cx__law_marks P w K.K mg base cdv A outer s H E) (We E) := takes_of rfl rfl rfl rfl
  have hpo : PassesOwn (model P w) (cx__law_marks P w K.K mg base cdv A outer s H E).A (cx__law_marks P w K.K mg base cdv A outer s H E).env (cx__law_marks P w K.K mg base cdv A outer s H E).xe := passes_of (X := cx__law_marks P w K.K mg base cdv A outer s H E) rfl
  exact ⟨_, (dss_cons (ds_own 3 nd (de_lst da_nil))
    (dss_cons (ds_for hpo rfl (di_range1 (by rfl) T.z_range (dq_cons (de_var 1) da_nil)) (dg_name 4 nd) (dss_cons (ds_set 5 nd (de_c (cl__law_mark T) hr tk (by decide) (by rfl) (da_cons (de_var 0) (da_cons (de_var 2) da_nil))))
    (dss_one (ds_app 3 (de_if (DW.dt (dw_and (dt_gt (de_var 4) de_int) (dw_and1 (dt_eq hr.u (de_c (cl__law_draw T) hr tk (by decide) (by rfl) (da_cons (de_var 0) (da_cons de_int da_nil))) de_int)))) (de_ix (de_own 3) de_int) (de_var 5))))))
    (dss_one (ds_ret (de_tuple (by rfl) T.z_tuple (dq_cons (de_own 3) da_nil))))))⟩
theorem cl__law_marks (T : Txt K.K K.T mg base) : Cl P w K mg base 5 "_law_marks" 3 G__law_marks := by
  obtain ⟨fd, F⟩ := T.f__law_marks
  exact ⟨fd, _, fg__law_marks T F, T.g__law_marks, F.kp, FunD.bindsN (ps := ["well", "many", "near"]) F fun _ _ _ _ _ _ us hl => match us, hl with | [_, _, _], _ => rfl⟩
theorem sc__law_below : FnScope ["one", "two"] ["one", "two"] (defScope s__law_below) := ⟨rfl, rfl, rfl, by decide +kernel, rfl, by decide +kernel, by decide +kernel⟩
abbrev cx__law_below (P : Program) (w : World) (K : PySem.W.Frag) (mg : Str → Option Value) (base : Heap) (cdv : Value) (A : Around) (outer : List Env) (s : Shared) (H : Hp) (E : XK) : Cx := cxOf (L2.CX P w) P w K mg base ["one", "two"] "_law_below" (defScope s__law_below) (He.ga K "_law_below") cdv A outer s H E
theorem fg__law_below (T : Txt K.K K.T mg base) {fd : FuncData} (F : FunD K.K "_law_below" "_law_below" (defArgs s__law_below) (defBody s__law_below) (defScope s__law_below) [] [] (He.ga K.K "_law_below") fd) : FG P w K mg base 1 (He.ga K "_law_below") fd ["one", "two"] (spD K 2 G__law_below) := by
  refine fg_of F sc__law_below (fun ds w h => rfl) (fun cdv hcv A outer s H E hr => ?_)
  have nd := (sc__law_below).nd
  have tk : Takes (cx__law_below P w K.K mg base cdv A outer s H E) (We E) := takes_of rfl rfl rfl rfl
  have hpo : PassesOwn (model P w) (cx__law_below P w K.K mg base cdv A outer s H E).A (cx__law_below P w K.K mg base cdv A outer s H E).env (cx__law_below P w K.K mg base cdv A outer s H E).xe := passes_of (X := cx__law_below P w K.K mg base cdv A outer s H E) rfl
  exact ⟨_, (dss_one (ds_ret (de_lt hr.u (de_mul (de_ix (de_var 0) de_int) (de_ix (de_var 1) de_int)) (de_mul (de_ix (de_var 1) de_int) (de_ix (de_var 0) de_int)))))⟩
theorem cl__law_below (T : Txt K.K K.T mg base) : Cl P w K mg base 1 "_law_below" 2 G__law_below := by
  obtain ⟨fd, F⟩ := T.f__law_below
  exact ⟨fd, _, fg__law_below T F, T.g__law_below, F.kp, FunD.bindsN (ps := ["one", "two"]) F fun _ _ _ _ _ _ us hl => match us, hl with | [_, _], _ => rfl⟩
theorem sc__law_is_in : FnScope ["seen", "edge", "mark", "cut"] ["seen", "edge"] (defScope s__law_is_in) := ⟨rfl, rfl, rfl, by decide +kernel, rfl, by decide +kernel, by decide +kernel⟩
abbrev cx__law_is_in (P : Program) (w : World) (K : PySem.W.Frag) (mg : Str → Option Value) (base : Heap) (cdv : Value) (A : Around) (outer : List Env) (s : Shared) (H : Hp) (E : XK) : Cx := cxOf (L2.CX P w) P w K mg base ["seen", "edge", "mark", "cut"] "_law_is_in" (defScope s__law_is_in) (He.ga K "_law_is_in") cdv A outer s H E
theorem fg__law_is_in (T : Txt K.K K.T mg base) {fd : FuncData} (F : FunD K.K "_law_is_in" "_law_is_in" (defArgs s__law_is_in) (defBody s__law_is_in) (defScope s__law_is_in) [] [] (He.ga K.K "_law_is_in") fd) : FG P w K mg base 2 (He.ga K "_law_is_in") fd ["seen", "edge"] (spD K 2 G__law_is_in) := by
  refine fg_of F sc__law_is_in (fun ds w h => rfl) (fun cdv hcv A outer s H E hr => ?_)
  have nd := (sc__law_is_in).nd
  have tk : Takes (cx__law_is_in P w K.K mg base cdv A outer s H E) (We E) := takes_of rfl rfl rfl rfl
  have hpo : PassesOwn (model P w) (cx__law_is_in P w K.K mg base cdv A outer s H E).A (cx__law_is_in P w K.K mg base cdv A outer s H E).env (cx__law_is_in P w K.K mg base cdv A outer s H E).xe := passes_of (X := cx__law_is_in P w K.K mg base cdv A outer s H E) rfl
  exact ⟨_, (dss_cons (ds_for hpo rfl (di_zip (by rfl) T.z_zip (da_cons (de_var 0) (da_cons (de_var 1) da_nil))) (dg_tup rfl (dgs_cons (dg_name 2 nd) (dgs_cons (dg_name 3 nd) dgs_nil)) 2) (dss_one (ds_if (DW.dt (dw_and (dt_isnot (de_var 3) de_non) (dw_and1 (dt_truth (de_c (cl__law_below T) hr tk (by decide) (by rfl) (da_cons (de_var 3) (da_cons (de_var 2) da_nil))))))) (dss_one (ds_ret de_bl)) dss_nil)))
    (dss_one (ds_ret de_bl)))⟩
theorem cl__law_is_in (T : Txt K.K K.T mg base) : Cl P w K mg base 2 "_law_is_in" 2 G__law_is_in := by
  obtain ⟨fd, F⟩ := T.f__law_is_in
  exact ⟨fd, _, fg__law_is_in T F, T.g__law_is_in, F.kp, FunD.bindsN (ps := ["seen", "edge"]) F fun _ _ _ _ _ _ us hl => match us, hl with | [_, _], _ => rfl⟩
theorem sc__law_greater : FnScope ["one", "two"] ["one", "two"] (defScope s__law_greater) := ⟨rfl, rfl, rfl, by decide +kernel, rfl, by decide +kernel, by decide +kernel⟩
abbrev cx__law_greater (P : Program) (w : World) (K : PySem.W.Frag) (mg : Str → Option Value) (base : Heap) (cdv : Value) (A : Around) (outer : List Env) (s : Shared) (H : Hp) (E : XK) : Cx := cxOf (L2.CX P w) P w K mg base ["one", "two"] "_law_greater" (defScope s__law_greater) (He.ga K "_law_greater") cdv A outer s H E
theorem fg__law_greater (T : Txt K.K K.T mg base) {fd : FuncData} (F : FunD K.K "_law_greater" "_law_greater" (defArgs s__law_greater) (defBody s__law_greater) (defScope s__law_greater) [] [] (He.ga K.K "_law_greater") fd) : FG P w K mg base 2 (He.ga K "_law_greater") fd ["one", "two"] (spD K 2 G__law_greater) := by
  refine fg_of F sc__law_greater (fun ds w h => rfl) (fun cdv hcv A outer s H E hr => ?_)
  have nd := (sc__law_greater).nd
  have tk : Takes (cx__law_greater P w K.K mg base cdv A outer s H E) (We E) := takes_of rfl rfl rfl rfl
  have hpo : PassesOwn (model P w) (cx__law_greater P w K.K mg base cdv A outer s H E).A (cx__law_greater P w K.K mg base cdv A outer s H E).env (cx__law_greater P w K.K mg base cdv A outer s H E).xe := passes_of (X := cx__law_greater P w K.K mg base cdv A outer s H E) rfl
  exact ⟨_, (dss_one (ds_ret (de_if (dt_truth (de_c (cl__law_below T) hr tk (by decide) (by rfl) (da_cons (de_var 0) (da_cons (de_var 1) da_nil)))) (de_var 1) (de_var 0))))⟩
theorem cl__law_greater (T : Txt K.K K.T mg base) : Cl P w K mg base 2 "_law_greater" 2 G__law_greater := by
  obtain ⟨fd, F⟩ := T.f__law_greater
  exact ⟨fd, _, fg__law_greater T F, T.g__law_greater, F.kp, FunD.bindsN (ps := ["one", "two"]) F fun _ _ _ _ _ _ us hl => match us, hl with | [_, _], _ => rfl⟩
theorem sc__law_worth_at : FnScope ["worths", "seen", "found", "edge", "cut"] ["worths", "seen"] (defScope s__law_worth_at) := ⟨rfl, rfl, rfl, by decide +kernel, rfl, by decide +kernel, by decide +kernel⟩
abbrev cx__law_worth_at (P : Program) (w : World) (K : PySem.W.Frag) (mg : Str → Option Value) (base : Heap) (cdv : Value) (A : Around) (outer : List Env) (s : Shared) (H : Hp) (E : XK) : Cx := cxOf (L2.CX P w) P w K mg base ["worths", "seen", "found", "edge", "cut"] "_law_worth_at" (defScope s__law_worth_at) (He.ga K "_law_worth_at") cdv A outer s H E
def g__law_worth_at : SG :=
  (sSeq (sSet 2 (eTup (aCons (eC (.int 0)) (aCons (eC (.int 1)) aNil))))
  (sSeq (sFor (gSeq (eVar 0)) (bTupN 2 (bCons (bName 3) (bCons (bName 4) bNil))) (sSet 2 (eIf (eUn oTru (eFn 2 G__law_is_in (aCons (eVar 1) (aCons (eVar 3) aNil)))) (eFn 2 G__law_greater (aCons (eVar 2) (aCons (eVar 4) aNil))) (eVar 2))))
  (sRet (eVar 2))))
def G__law_worth_at : List D → Wl → Res := fun ds w => runG 5 g__law_worth_at ds w
theorem fg__law_worth_at (T : Txt K.K K.T mg base) {fd : FuncData} (F : FunD K.K "_law_worth_at" "_law_worth_at" (defArgs s__law_worth_at) (defBody s__law_worth_at) (defScope s__law_worth_at) [] [] (He.ga K.K "_law_worth_at") fd) : FG P w K mg base 3 (He.ga K "_law_worth_at") fd ["worths", "seen"] (spD K 2 G__law_worth_at) := by
  refine fg_of F sc__law_worth_at (fun ds w h => rfl) (fun cdv hcv A outer s H E hr => ?_)
  have nd := (sc__law_worth_at).nd
  have tk : Takes (cx__law_worth_at P w K.K mg base cdv A outer s H E) (We E) := takes_of rfl rfl rfl rfl
  have hpo : PassesOwn (model P w) (cx__law_worth_at P w K.K mg base cdv A outer s H E).A (cx__law_worth_at P w K.K mg base cdv A outer s H E).env (cx__law_worth_at P w K.K mg base cdv A outer s H E).xe := passes_of (X := cx__law_worth_at P w K.K mg base cdv A outer s H E) rfl
  exact ⟨_, (dss_cons (ds_set 2 nd (de_tup (da_cons de_int (da_cons de_int da_nil))))
    (dss_cons (ds_for hpo rfl (di_seq (de_var 0)) (dg_tup rfl (dgs_cons (dg_name 3 nd) (dgs_cons (dg_name 4 nd) dgs_nil)) 2) (dss_one (ds_set 2 nd (de_if (dt_truth (de_c (cl__law_is_in T) hr tk (by decide) (by rfl) (da_cons (de_var 1) (da_cons (de_var 3) da_nil)))) (de_c (cl__law_greater T) hr tk (by decide) (by rfl) (da_cons (de_var 2) (da_cons (de_var 4) da_nil))) (de_var 2)))))
    (dss_one (ds_ret (de_var 2)))))⟩
theorem cl__law_worth_at (T : Txt K.K K.T mg base) : Cl P w K mg base 3 "_law_worth_at" 2 G__law_worth_at := by
  obtain ⟨fd, F⟩ := T.f__law_worth_at
  exact ⟨fd, _, fg__law_worth_at T F, T.g__law_worth_at, F.kp, FunD.bindsN (ps := ["worths", "seen"]) F fun _ _ _ _ _ _ us hl => match us, hl with | [_, _], _ => rfl⟩
theorem sc__law_level : FnScope ["well", "way", "under"] ["well"] (defScope s__law_level) := ⟨rfl, rfl, rfl, by decide +kernel, rfl, by decide +kernel, by decide +kernel⟩
abbrev cx__law_level (P : Program) (w : World) (K : PySem.W.Frag) (mg : Str → Option Value) (base : Heap) (cdv : Value) (A : Around) (outer : List Env) (s : Shared) (H : Hp) (E : XK) : Cx := cxOf (L2.CX P w) P w K mg base ["well", "way", "under"] "_law_level" (defScope s__law_level) (He.ga K "_law_level") cdv A outer s H E
theorem fg__law_level (T : Txt K.K K.T mg base) {fd : FuncData} (F : FunD K.K "_law_level" "_law_level" (defArgs s__law_level) (defBody s__law_level) (defScope s__law_level) [] [] (He.ga K.K "_law_level") fd) : FG P w K mg base 3 (He.ga K "_law_level") fd ["well"] (spD K 1 G__law_level) := by
  refine fg_of F sc__law_level (fun ds w h => rfl) (fun cdv hcv A outer s H E hr => ?_)
  have nd := (sc__law_level).nd
  have tk : Takes (cx__law_level P w K.K mg base cdv A outer s H E) (We E) := takes_of rfl rfl rfl rfl
  have hpo : PassesOwn (model P w) (cx__law_level P w K.K mg base cdv A outer s H E).A (cx__law_level P w K.K mg base cdv A outer s H E).env (cx__law_level P w K.K mg base cdv A outer s H E).xe := passes_of (X := cx__law_level P w K.K mg base cdv A outer s H E) rfl
  exact ⟨_, (dss_cons (ds_set 1 nd (de_c (cl__law_draw T) hr tk (by decide) (by rfl) (da_cons (de_var 0) (da_cons de_int da_nil))))
    (dss_cons (ds_if (dt_lt hr.u (de_var 1) de_int) (dss_one (ds_ret (de_c (cl__law_pick T) hr tk (by decide) (by rfl) (da_cons (de_var 0) (da_cons (de_tup (da_cons (de_tup (da_cons de_int (da_cons de_int da_nil))) (da_cons (de_tup (da_cons de_int (da_cons de_int da_nil))) (da_cons (de_tup (da_cons de_int (da_cons de_int da_nil))) (da_cons (de_tup (da_cons de_int (da_cons de_int da_nil))) (da_cons (de_tup (da_cons de_int (da_cons de_int da_nil))) (da_cons (de_tup (da_cons de_int (da_cons de_int da_nil))) (da_cons (de_tup (da_cons de_int (da_cons de_int da_nil))) da_nil)))))))) da_nil))))) dss_nil)
    (dss_cons (ds_set 2 nd (de_c (cl__law_pick T) hr tk (by decide) (by rfl) (da_cons (de_var 0) (da_cons (de_tup (da_cons de_int (da_cons de_int (da_cons de_int (da_cons de_int (da_cons (de_pow de_int de_int) da_nil)))))) da_nil))))
    (dss_one (ds_ret (de_c (cl__law_low T) hr tk (by decide) (by rfl) (da_cons (de_add de_int (de_c (cl__law_draw T) hr tk (by decide) (by rfl) (da_cons (de_var 0) (da_cons (de_var 2) da_nil)))) (da_cons (de_var 2) da_nil))))))))⟩
theorem cl__law_level (T : Txt K.K K.T mg base) : Cl P w K mg base 3 "_law_level" 1 G__law_level := by
  obtain ⟨fd, F⟩ := T.f__law_level
  exact ⟨fd, _, fg__law_level T F, T.g__law_level, F.kp, FunD.bindsN (ps := ["well"]) F fun _ _ _ _ _ _ us hl => match us, hl with | [_], _ => rfl⟩
theorem sc__law_low_level : FnScope ["well", "found"] ["well"] (defScope s__law_low_level) := ⟨rfl, rfl, rfl, by decide +kernel, rfl, by decide +kernel, by decide +kernel⟩
abbrev cx__law_low_level (P : Program) (w : World) (K : PySem.W.Frag) (mg : Str → Option Value) (base : Heap) (cdv : Value) (A : Around) (outer : List Env) (s : Shared) (H : Hp) (E : XK) : Cx := cxOf (L2.CX P w) P w K mg base ["well", "found"] "_law_low_level" (defScope s__law_low_level) (He.ga K "_law_low_level") cdv A outer s H E
theorem fg__law_low_level (T : Txt K.K K.T mg base) {fd : FuncData} (F : FunD K.K "_law_low_level" "_law_low_level" (defArgs s__law_low_level) (defBody s__law_low_level) (defScope s__law_low_level) [] [] (He.ga K.K "_law_low_level") fd) : FG P w K mg base 4 (He.ga K "_law_low_level") fd ["well"] (spD K 1 G__law_low_level) := by
  refine fg_of F sc__law_low_level (fun ds w h => rfl) (fun cdv hcv A outer s H E hr => ?_)
  have nd := (sc__law_low_level).nd
  have tk : Takes (cx__law_low_level P w K.K mg base cdv A outer s H E) (We E) := takes_of rfl rfl rfl rfl
  have hpo : PassesOwn (model P w) (cx__law_low_level P w K.K mg base cdv A outer s H E).A (cx__law_low_level P w K.K mg base cdv A outer s H E).env (cx__law_low_level P w K.K mg base cdv A outer s H E).xe := passes_of (X := cx__law_low_level P w K.K mg base cdv A outer s H E) rfl
  exact ⟨_, (dss_cons (ds_set 1 nd (de_c (cl__law_level T) hr tk (by decide) (by rfl) (da_cons (de_var 0) da_nil)))
    (dss_one (ds_ret (de_if (dt_ne hr.u (de_var 1) (de_tup (da_cons de_int (da_cons de_int da_nil)))) (de_var 1) (de_tup (da_cons de_int (da_cons de_int da_nil)))))))⟩
theorem cl__law_low_level (T : Txt K.K K.T mg base) : Cl P w K mg base 4 "_law_low_level" 1 G__law_low_level := by
  obtain ⟨fd, F⟩ := T.f__law_low_level
  exact ⟨fd, _, fg__law_low_level T F, T.g__law_low_level, F.kp, FunD.bindsN (ps := ["well"]) F fun _ _ _ _ _ _ us hl => match us, hl with | [_], _ => rfl⟩
theorem sc__law_mul : FnScope ["one", "two"] ["one", "two"] (defScope s__law_mul) := ⟨rfl, rfl, rfl, by decide +kernel, rfl, by decide +kernel, by decide +kernel⟩
abbrev cx__law_mul (P : Program) (w : World) (K : PySem.W.Frag) (mg : Str → Option Value) (base : Heap) (cdv : Value) (A : Around) (outer : List Env) (s : Shared) (H : Hp) (E : XK) : Cx := cxOf (L2.CX P w) P w K mg base ["one", "two"] "_law_mul" (defScope s__law_mul) (He.ga K "_law_mul") cdv A outer s H E
theorem fg__law_mul (T : Txt K.K K.T mg base) {fd : FuncData} (F : FunD K.K "_law_mul" "_law_mul" (defArgs s__law_mul) (defBody s__law_mul) (defScope s__law_mul) [] [] (He.ga K.K "_law_mul") fd) : FG P w K mg base 2 (He.ga K "_law_mul") fd ["one", "two"] (spD K 2 G__law_mul) := by
  refine fg_of F sc__law_mul (fun ds w h => rfl) (fun cdv hcv A outer s H E hr => ?_)
  have nd := (sc__law_mul).nd
  have tk : Takes (cx__law_mul P w K.K mg base cdv A outer s H E) (We E) := takes_of rfl rfl rfl rfl
  have hpo : PassesOwn (model P w) (cx__law_mul P w K.K mg base cdv A outer s H E).A (cx__law_mul P w K.K mg base cdv A outer s H E).env (cx__law_mul P w K.K mg base cdv A outer s H E).xe := passes_of (X := cx__law_mul P w K.K mg base cdv A outer s H E) rfl
  exact ⟨_, (dss_one (ds_ret (de_c (cl__law_low T) hr tk (by decide) (by rfl) (da_cons (de_mul (de_ix (de_var 0) de_int) (de_ix (de_var 1) de_int)) (da_cons (de_mul (de_ix (de_var 0) de_int) (de_ix (de_var 1) de_int)) da_nil)))))⟩
theorem cl__law_mul (T : Txt K.K K.T mg base) : Cl P w K mg base 2 "_law_mul" 2 G__law_mul := by
  obtain ⟨fd, F⟩ := T.f__law_mul
  exact ⟨fd, _, fg__law_mul T F, T.g__law_mul, F.kp, FunD.bindsN (ps := ["one", "two"]) F fun _ _ _ _ _ _ us hl => match us, hl with | [_, _], _ => rfl⟩
theorem sc__law_steps : FnScope ["well", "many", "way", "under", "level", "k", "wide", "tops", "top"] ["well", "many"] (defScope s__law_steps) := ⟨rfl, rfl, rfl, by decide +kernel, rfl, by decide +kernel, by decide +kernel⟩
abbrev cx__law_steps (P : Program) (w : World) (K : PySem.W.Frag) (mg : Str → Option Value) (base : Heap) (cdv : Value) (A : Around) (outer : List Env) (s : Shared) (H : Hp) (E : XK) : Cx := cxOf (L2.CX P w) P w K mg base ["well", "many", "way", "under", "level", "k", "wide", "tops", "top"] "_law_steps" (defScope s__law_steps) (He.ga K "_law_steps") cdv A outer s H E
theorem fg__law_steps (T : Txt K.K K.T mg base) {fd : FuncData} (F : FunD K.K "_law_steps" "_law_steps" (defArgs s__law_steps) (defBody s__law_steps) (defScope s__law_steps) [] [] (He.ga K.K "_law_steps") fd) : FG P w K mg base 5 (He.ga K "_law_steps") fd ["well", "many"] (spD K 2 G__law_steps) := by
  refine fg_of F sc__law_steps (fun ds w h => rfl) (fun cdv hcv A outer s H E hr => ?_)
  have nd := (sc__law_steps).nd
  have tk : Takes (cx__law_steps P w K.K mg base cdv A outer s H E) (We E) := takes_of rfl rfl rfl rfl
  have hpo : PassesOwn (model P w) (cx__law_steps P w K.K mg base cdv A outer s H E).A (cx__law_steps P w K.K mg base cdv A outer s H E).env (cx__law_steps P w K.K mg base cdv A outer s H E).xe := passes_of (X := cx__law_steps P w K.K mg base cdv A outer s H E) rfl
  exact ⟨_, (dss_cons (ds_asg (de_tup (da_cons (de_c (cl__law_draw T) hr tk (by decide) (by rfl) (da_cons (de_var 0) (da_cons de_int da_nil))) (da_cons (de_c (cl__law_pick T) hr tk (by decide) (by rfl) (da_cons (de_var 0) (da_cons (de_tup (da_cons de_int (da_cons de_int (da_cons de_int (da_cons de_int (da_cons de_int da_nil)))))) da_nil))) da_nil))) (dg_tup rfl (dgs_cons (dg_name 2 nd) (dgs_cons (dg_name 3 nd) dgs_nil)) 2))
    (dss_cons (ds_if (dt_eq hr.u (de_var 2) de_int) (dss_cons (ds_set 4 nd (de_c (cl__law_low_level T) hr tk (by decide) (by rfl) (da_cons (de_var 0) da_nil)))
    (dss_one (ds_ret (de_tuple (by rfl) T.z_tuple (dq_cons (de_lc (own := [("k", 5)]) rfl nd (di_range1 (by rfl) T.z_range (dq_cons (de_var 1) da_nil)) (blkOk_by (by rfl)) (fun _ _ _ _ _ => (dg_name 5 nd)) (fun _ _ _ _ _ => (de_c (cl__law_mul T) hr takes0 (by decide) (by rfl) (da_cons (de_var 4) (da_cons (de_c (cl__law_low T) hr takes0 (by decide) (by rfl) (da_cons (de_add (de_var 5) de_int) (da_cons (de_var 1) da_nil))) da_nil))))) da_nil))))) dss_nil)
    (dss_cons (ds_if (dt_eq hr.u (de_var 2) de_int) (dss_cons (ds_set 4 nd (de_c (cl__law_low_level T) hr tk (by decide) (by rfl) (da_cons (de_var 0) da_nil)))
    (dss_one (ds_ret (de_tuple (by rfl) T.z_tuple (dq_cons (de_lc (own := [("k", 5)]) rfl nd (di_range1 (by rfl) T.z_range (dq_cons (de_var 1) da_nil)) (blkOk_by (by rfl)) (fun _ _ _ _ _ => (dg_name 5 nd)) (fun _ _ _ _ _ => (de_c (cl__law_mul T) hr takes0 (by decide) (by rfl) (da_cons (de_var 4) (da_cons (de_c (cl__law_low T) hr takes0 (by decide) (by rfl) (da_cons de_int (da_cons (de_sub (de_var 1) (de_var 5)) da_nil))) da_nil))))) da_nil))))) dss_nil)
    (dss_cons (ds_set 6 nd (de_c (cl__law_pick T) hr tk (by decide) (by rfl) (da_cons (de_var 0) (da_cons (de_tup (da_cons (de_var 3) (da_cons (de_var 3) (da_cons (de_add de_int (de_fdiv (de_var 3) de_int)) (da_cons (de_add de_int (de_fdiv (de_var 3) de_int)) (da_cons de_int da_nil)))))) da_nil))))
    (dss_cons (ds_set 7 nd (de_sortedT hr (by rfl) T.z_sorted (dq_cons (de_lc (own := [("k", 5)]) rfl nd (di_range1 (by rfl) T.z_range (dq_cons (de_var 1) da_nil)) (blkOk_by (by rfl)) (fun _ _ _ _ _ => (dg_name 5 nd)) (fun _ _ _ _ _ => (de_c (cl__law_draw T) hr takes0 (by decide) (by rfl) (da_cons (de_var 0) (da_cons (de_var 6) da_nil))))) da_nil)))
    (dss_one (ds_ret (de_tuple (by rfl) T.z_tuple (dq_cons (de_lc (own := [("top", 8)]) rfl nd (di_seq (de_var 7)) (blkOk_by (by rfl)) (fun _ _ _ _ _ => (dg_name 8 nd)) (fun _ _ _ _ _ => (de_c (cl__law_low T) hr takes0 (by decide) (by rfl) (da_cons (de_var 8) (da_cons (de_var 3) da_nil))))) da_nil)))))))))⟩
theorem cl__law_steps (T : Txt K.K K.T mg base) : Cl P w K mg base 5 "_law_steps" 2 G__law_steps := by
  obtain ⟨fd, F⟩ := T.f__law_steps
  exact ⟨fd, _, fg__law_steps T F, T.g__law_steps, F.kp, FunD.bindsN (ps := ["well", "many"]) F fun _ _ _ _ _ _ us hl => match us, hl with | [_, _], _ => rfl⟩
theorem sc__law_order : FnScope ["seen", "found", "k", "at", "each"] ["seen"] (defScope s__law_order) := ⟨rfl, rfl, rfl, by decide +kernel, rfl, by decide +kernel, by decide +kernel⟩
abbrev cx__law_order (P : Program) (w : World) (K : PySem.W.Frag) (mg : Str → Option Value) (base : Heap) (cdv : Value) (A : Around) (outer : List Env) (s : Shared) (H : Hp) (E : XK) : Cx := cxOf (L2.CX P w) P w K mg base ["seen", "found", "k", "at", "each"] "_law_order" (defScope s__law_order) (He.ga K "_law_order") cdv A outer s H E
theorem fg__law_order (T : Txt K.K K.T mg base) {fd : FuncData} (F : FunD K.K "_law_order" "_law_order" (defArgs s__law_order) (defBody s__law_order) (defScope s__law_order) [] [] (He.ga K.K "_law_order") fd) : FG P w K mg base 2 (He.ga K "_law_order") fd ["seen"] (spD K 1 G__law_order) := by
  refine fg_of F sc__law_order (fun ds w h => rfl) (fun cdv hcv A outer s H E hr => ?_)
  have nd := (sc__law_order).nd
  have tk : Takes (cx__law_order P w K.K mg base cdv A outer s H E) (We E) := takes_of rfl rfl rfl rfl
  have hpo : PassesOwn (model P w) (cx__law_order P w K.K mg base cdv A outer s H E).A (cx__law_order P w K.K mg base cdv A outer s H E).env (cx__law_order P w K.K mg base cdv A outer s H E).xe := passes_of (X := cx__law_order P w K.K mg base cdv A outer s H E) rfl
  exact ⟨_, (dss_cons (ds_set 1 nd (de_lst da_nil))
    (dss_cons (ds_for hpo rfl (di_range1 (by rfl) T.z_range (dq_cons (de_len (by rfl) T.z_len (dq_cons (de_var 0) da_nil)) da_nil)) (dg_name 2 nd) (dss_cons (ds_set 3 nd (de_len (by rfl) T.z_len (dq_cons (de_lcIf (own := [("each", 4)]) rfl nd (di_seq (de_var 1)) (blkOk_by (by rfl)) (fun _ _ _ _ _ => (dg_name 4 nd)) (fun _ _ _ _ _ => (dt_not (dt_truth (de_c (cl__law_below T) hr takes0 (by decide) (by rfl) (da_cons (de_ix (de_var 0) (de_var 2)) (da_cons (de_ix (de_var 0) (de_var 4)) da_nil)))))) (fun _ _ _ _ _ => (de_var 4))) da_nil)))
    (dss_one (ds_set 1 nd (de_add (de_add (de_slice (de_var 1) dp_none (dp_some (de_var 3))) (de_lst (da_cons (de_var 2) da_nil))) (de_slice (de_var 1) (dp_some (de_var 3)) dp_none))))))
    (dss_one (ds_ret (de_var 1)))))⟩
theorem cl__law_order (T : Txt K.K K.T mg base) : Cl P w K mg base 2 "_law_order" 1 G__law_order := by
  obtain ⟨fd, F⟩ := T.f__law_order
  exact ⟨fd, _, fg__law_order T F, T.g__law_order, F.kp, FunD.bindsN (ps := ["seen"]) F fun _ _ _ _ _ _ us hl => match us, hl with | [_], _ => rfl⟩
theorem sc__law_stepped : FnScope ["seen", "steps", "is_up", "order", "most", "k"] ["seen", "steps", "is_up"] (defScope s__law_stepped) := ⟨rfl, rfl, rfl, by decide +kernel, rfl, by decide +kernel, by decide +kernel⟩
abbrev cx__law_stepped (P : Program) (w : World) (K : PySem.W.Frag) (mg : Str → Option Value) (base : Heap) (cdv : Value) (A : Around) (outer : List Env) (s : Shared) (H : Hp) (E : XK) : Cx := cxOf (L2.CX P w) P w K mg base ["seen", "steps", "is_up", "order", "most", "k"] "_law_stepped" (defScope s__law_stepped) (He.ga K "_law_stepped") cdv A outer s H E
theorem fg__law_stepped (T : Txt K.K K.T mg base) {fd : FuncData} (F : FunD K.K "_law_stepped" "_law_stepped" (defArgs s__law_stepped) (defBody s__law_stepped) (defScope s__law_stepped) [] [] (He.ga K.K "_law_stepped") fd) : FG P w K mg base 3 (He.ga K "_law_stepped") fd ["seen", "steps", "is_up"] (spD K 3 G__law_stepped) := by
  refine fg_of F sc__law_stepped (fun ds w h => rfl) (fun cdv hcv A outer s H E hr => ?_)
  have nd := (sc__law_stepped).nd
  have tk : Takes (cx__law_stepped P w K.K mg base cdv A outer s H E) (We E) := takes_of rfl rfl rfl rfl
  have hpo : PassesOwn (model P w) (cx__law_stepped P w K.K mg base cdv A outer s H E).A (cx__law_stepped P w K.K mg base cdv A outer s H E).env (cx__law_stepped P w K.K mg base cdv A outer s H E).xe := passes_of (X := cx__law_stepped P w K.K mg base cdv A outer s H E) rfl
  exact ⟨_, (dss_cons (ds_par 3 4 rfl nd (da_cons (de_c (cl__law_order T) hr tk (by decide) (by rfl) (da_cons (de_var 0) da_nil)) (da_cons de_int da_nil)))
    (dss_cons (ds_for hpo rfl (di_range1 (by rfl) T.z_range (dq_cons (de_len (by rfl) T.z_len (dq_cons (de_var 0) da_nil)) da_nil)) (dg_name 5 nd) (dss_one (ds_if (DW.dt (dw_and (dt_not (dt_truth (de_c (cl__law_below T) hr tk (by decide) (by rfl) (da_cons (de_ix (de_var 1) (de_var 5)) (da_cons (de_ix (de_var 0) (de_ix (de_var 3) (de_var 5))) da_nil))))) (dw_and1 (DW.dt (dw_or (dt_truth (de_var 2)) (dw_or1 (dt_eq hr.u (de_var 4) (de_var 5)))))))) (dss_one (ds_set 4 nd (de_add (de_var 5) de_int))) dss_nil)))
    (dss_one (ds_ret (de_tuple (by rfl) T.z_tuple (dq_cons (de_sortedT hr (by rfl) T.z_sorted (dq_cons (de_slice (de_var 3) dp_none (dp_some (de_var 4))) da_nil)) da_nil))))))⟩
theorem cl__law_stepped (T : Txt K.K K.T mg base) : Cl P w K mg base 3 "_law_stepped" 3 G__law_stepped := by
  obtain ⟨fd, F⟩ := T.f__law_stepped
  exact ⟨fd, _, fg__law_stepped T F, T.g__law_stepped, F.kp, FunD.bindsN (ps := ["seen", "steps", "is_up"]) F fun _ _ _ _ _ _ us hl => match us, hl with | [_, _, _], _ => rfl⟩
theorem sc__law_share : FnScope ["seen", "steps", "part", "got", "k"] ["seen", "steps", "part"] (defScope s__law_share) := ⟨rfl, rfl, rfl, by decide +kernel, rfl, by decide +kernel, by decide +kernel⟩
abbrev cx__law_share (P : Program) (w : World) (K : PySem.W.Frag) (mg : Str → Option Value) (base : Heap) (cdv : Value) (A : Around) (outer : List Env) (s : Shared) (H : Hp) (E : XK) : Cx := cxOf (L2.CX P w) P w K mg base ["seen", "steps", "part", "got", "k"] "_law_share" (defScope s__law_share) (He.ga K "_law_share") cdv A outer s H E
theorem fg__law_share (T : Txt K.K K.T mg base) {fd : FuncData} (F : FunD K.K "_law_share" "_law_share" (defArgs s__law_share) (defBody s__law_share) (defScope s__law_share) [] [] (He.ga K.K "_law_share") fd) : FG P w K mg base 4 (He.ga K "_law_share") fd ["seen", "steps", "part"] (spD K 3 G__law_share) := by
  refine fg_of F sc__law_share (fun ds w h => rfl) (fun cdv hcv A outer s H E hr => ?_)
  have nd := (sc__law_share).nd
  have tk : Takes (cx__law_share P w K.K mg base cdv A outer s H E) (We E) := takes_of rfl rfl rfl rfl
  have hpo : PassesOwn (model P w) (cx__law_share P w K.K mg base cdv A outer s H E).A (cx__law_share P w K.K mg base cdv A outer s H E).env (cx__law_share P w K.K mg base cdv A outer s H E).xe := passes_of (X := cx__law_share P w K.K mg base cdv A outer s H E) rfl
  exact ⟨_, (dss_cons (ds_set 3 nd (de_c (cl__law_stepped T) hr tk (by decide) (by rfl) (da_cons (de_var 0) (da_cons (de_var 1) (da_cons de_bl da_nil)))))
    (dss_one (ds_ret (de_if (dt_ne hr.u (de_var 3) (de_tup da_nil)) (de_c (cl__law_low T) hr tk (by decide) (by rfl) (da_cons (de_len (by rfl) T.z_len (dq_cons (de_lcIf (own := [("k", 4)]) rfl nd (di_seq (de_var 3)) (blkOk_by (by rfl)) (fun _ _ _ _ _ => (dg_name 4 nd)) (fun _ _ _ _ _ => (dt_in hr.u (de_var 4) (de_var 2))) (fun _ _ _ _ _ => (de_var 4))) da_nil)) (da_cons (de_len (by rfl) T.z_len (dq_cons (de_var 3) da_nil)) da_nil))) (de_tup (da_cons de_int (da_cons de_int da_nil)))))))⟩
theorem cl__law_share (T : Txt K.K K.T mg base) : Cl P w K mg base 4 "_law_share" 3 G__law_share := by
  obtain ⟨fd, F⟩ := T.f__law_share
  exact ⟨fd, _, fg__law_share T F, T.g__law_share, F.kp, FunD.bindsN (ps := ["seen", "steps", "part"]) F fun _ _ _ _ _ _ us hl => match us, hl with | [_, _, _], _ => rfl⟩
theorem sc_is_row : FnScope ["value", "many"] ["value", "many"] (defScope s_is_row) := ⟨rfl, rfl, rfl, by decide +kernel, rfl, by decide +kernel, by decide +kernel⟩
abbrev cx_is_row (P : Program) (w : World) (K : PySem.W.Frag) (mg : Str → Option Value) (base : Heap) (cdv : Value) (A : Around) (outer : List Env) (s : Shared) (H : Hp) (E : XK) : Cx := cxOf (L2.CX P w) P w K mg base ["value", "many"] "is_row" (defScope s_is_row) (He.ga K "is_row") cdv A outer s H E
theorem fg_is_row (T : Txt K.K K.T mg base) {fd : FuncData} (F : FunD K.K "is_row" "is_row" (defArgs s_is_row) (defBody s_is_row) (defScope s_is_row) [] [] (He.ga K.K "is_row") fd) : FG P w K mg base 1 (He.ga K "is_row") fd ["value", "many"] (spD K 2 G_is_row) := by
  refine fg_of F sc_is_row (fun ds w h => rfl) (fun cdv hcv A outer s H E hr => ?_)
  have nd := (sc_is_row).nd
  have tk : Takes (cx_is_row P w K.K mg base cdv A outer s H E) (We E) := takes_of rfl rfl rfl rfl
  have hpo : PassesOwn (model P w) (cx_is_row P w K.K mg base cdv A outer s H E).A (cx_is_row P w K.K mg base cdv A outer s H E).env (cx_is_row P w K.K mg base cdv A outer s H E).xe := passes_of (X := cx_is_row P w K.K mg base cdv A outer s H E) rfl
  exact ⟨_, (dss_one (ds_ret (de_and (de_is (de_type (by rfl) T.z_type (dq_cons (de_var 0) da_nil)) (de_ty (by rfl) T.z_tuple (by decide +kernel))) (de_one (de_eq hr.u (de_len (by rfl) T.z_len (dq_cons (de_var 0) da_nil)) (de_var 1))))))⟩
theorem cl_is_row (T : Txt K.K K.T mg base) : Cl P w K mg base 1 "is_row" 2 G_is_row := by
  obtain ⟨fd, F⟩ := T.f_is_row
  exact ⟨fd, _, fg_is_row T F, T.g_is_row, F.kp, FunD.bindsN (ps := ["value", "many"]) F fun _ _ _ _ _ _ us hl => match us, hl with | [_, _], _ => rfl⟩
theorem sc_is_whole : FnScope ["value"] ["value"] (defScope s_is_whole) := ⟨rfl, rfl, rfl, by decide +kernel, rfl, by decide +kernel, by decide +kernel⟩
abbrev cx_is_whole (P : Program) (w : World) (K : PySem.W.Frag) (mg : Str → Option Value) (base : Heap) (cdv : Value) (A : Around) (outer : List Env) (s : Shared) (H : Hp) (E : XK) : Cx := cxOf (L2.CX P w) P w K mg base ["value"] "is_whole" (defScope s_is_whole) (He.ga K "is_whole") cdv A outer s H E
theorem fg_is_whole (T : Txt K.K K.T mg base) {fd : FuncData} (F : FunD K.K "is_whole" "is_whole" (defArgs s_is_whole) (defBody s_is_whole) (defScope s_is_whole) [] [] (He.ga K.K "is_whole") fd) : FG P w K mg base 1 (He.ga K "is_whole") fd ["value"] (spD K 1 G_is_whole) := by
  refine fg_of F sc_is_whole (fun ds w h => rfl) (fun cdv hcv A outer s H E hr => ?_)
  have nd := (sc_is_whole).nd
  have tk : Takes (cx_is_whole P w K.K mg base cdv A outer s H E) (We E) := takes_of rfl rfl rfl rfl
  have hpo : PassesOwn (model P w) (cx_is_whole P w K.K mg base cdv A outer s H E).A (cx_is_whole P w K.K mg base cdv A outer s H E).env (cx_is_whole P w K.K mg base cdv A outer s H E).xe := passes_of (X := cx_is_whole P w K.K mg base cdv A outer s H E) rfl
  exact ⟨_, (dss_one (ds_ret (de_is (de_type (by rfl) T.z_type (dq_cons (de_var 0) da_nil)) (de_ty (by rfl) T.z_int (by decide +kernel)))))⟩
theorem cl_is_whole (T : Txt K.K K.T mg base) : Cl P w K mg base 1 "is_whole" 1 G_is_whole := by
  obtain ⟨fd, F⟩ := T.f_is_whole
  exact ⟨fd, _, fg_is_whole T F, T.g_is_whole, F.kp, FunD.bindsN (ps := ["value"]) F fun _ _ _ _ _ _ us hl => match us, hl with | [_], _ => rfl⟩
theorem sc_is_fraction : FnScope ["value", "top", "bottom"] ["value"] (defScope s_is_fraction) := ⟨rfl, rfl, rfl, by decide +kernel, rfl, by decide +kernel, by decide +kernel⟩
abbrev cx_is_fraction (P : Program) (w : World) (K : PySem.W.Frag) (mg : Str → Option Value) (base : Heap) (cdv : Value) (A : Around) (outer : List Env) (s : Shared) (H : Hp) (E : XK) : Cx := cxOf (L2.CX P w) P w K mg base ["value", "top", "bottom"] "is_fraction" (defScope s_is_fraction) (He.ga K "is_fraction") cdv A outer s H E
theorem fg_is_fraction (T : Txt K.K K.T mg base) {fd : FuncData} (F : FunD K.K "is_fraction" "is_fraction" (defArgs s_is_fraction) (defBody s_is_fraction) (defScope s_is_fraction) [] [] (He.ga K.K "is_fraction") fd) : FG P w K mg base 2 (He.ga K "is_fraction") fd ["value"] (spD K 1 G_is_fraction) := by
  refine fg_of F sc_is_fraction (fun ds w h => rfl) (fun cdv hcv A outer s H E hr => ?_)
  have nd := (sc_is_fraction).nd
  have tk : Takes (cx_is_fraction P w K.K mg base cdv A outer s H E) (We E) := takes_of rfl rfl rfl rfl
  have hpo : PassesOwn (model P w) (cx_is_fraction P w K.K mg base cdv A outer s H E).A (cx_is_fraction P w K.K mg base cdv A outer s H E).env (cx_is_fraction P w K.K mg base cdv A outer s H E).xe := passes_of (X := cx_is_fraction P w K.K mg base cdv A outer s H E) rfl
  exact ⟨_, (dss_cons (ds_if (dt_not (dt_truth (de_c (cl_is_row T) hr tk (by decide) (by rfl) (da_cons (de_var 0) (da_cons de_int da_nil))))) (dss_one (ds_ret de_bl)) dss_nil)
    (dss_cons (ds_asg (de_var 0) (dg_tup rfl (dgs_cons (dg_name 1 nd) (dgs_cons (dg_name 2 nd) dgs_nil)) 2))
    (dss_one (ds_ret (de_and (de_c (cl_is_whole T) hr tk (by decide) (by rfl) (da_cons (de_var 1) da_nil)) (de_and (de_c (cl_is_whole T) hr tk (by decide) (by rfl) (da_cons (de_var 2) da_nil)) (de_and (de_gt (de_var 2) de_int) (de_one (de_eq hr.u (de_gcd (by rfl) T.m_gcd (dq_cons (de_var 1) (dq_cons (de_var 2) da_nil))) de_int)))))))))⟩
theorem cl_is_fraction (T : Txt K.K K.T mg base) : Cl P w K mg base 2 "is_fraction" 1 G_is_fraction := by
  obtain ⟨fd, F⟩ := T.f_is_fraction
  exact ⟨fd, _, fg_is_fraction T F, T.g_is_fraction, F.kp, FunD.bindsN (ps := ["value"]) F fun _ _ _ _ _ _ us hl => match us, hl with | [_], _ => rfl⟩
theorem sc_is_number : FnScope ["value"] ["value"] (defScope s_is_number) := ⟨rfl, rfl, rfl, by decide +kernel, rfl, by decide +kernel, by decide +kernel⟩
abbrev cx_is_number (P : Program) (w : World) (K : PySem.W.Frag) (mg : Str → Option Value) (base : Heap) (cdv : Value) (A : Around) (outer : List Env) (s : Shared) (H : Hp) (E : XK) : Cx := cxOf (L2.CX P w) P w K mg base ["value"] "is_number" (defScope s_is_number) (He.ga K "is_number") cdv A outer s H E
theorem fg_is_number (T : Txt K.K K.T mg base) {fd : FuncData} (F : FunD K.K "is_number" "is_number" (defArgs s_is_number) (defBody s_is_number) (defScope s_is_number) [] [] (He.ga K.K "is_number") fd) : FG P w K mg base 3 (He.ga K "is_number") fd ["value"] (spD K 1 G_is_number) := by
  refine fg_of F sc_is_number (fun ds w h => rfl) (fun cdv hcv A outer s H E hr => ?_)
  have nd := (sc_is_number).nd
  have tk : Takes (cx_is_number P w K.K mg base cdv A outer s H E) (We E) := takes_of rfl rfl rfl rfl
  have hpo : PassesOwn (model P w) (cx_is_number P w K.K mg base cdv A outer s H E).A (cx_is_number P w K.K mg base cdv A outer s H E).env (cx_is_number P w K.K mg base cdv A outer s H E).xe := passes_of (X := cx_is_number P w K.K mg base cdv A outer s H E) rfl
  exact ⟨_, (dss_one (ds_ret (de_and (de_c (cl_is_fraction T) hr tk (by decide) (by rfl) (da_cons (de_var 0) da_nil)) (de_one (de_lele de_int (de_ix (de_var 0) de_int) (de_ix (de_var 0) de_int))))))⟩
theorem cl_is_number (T : Txt K.K K.T mg base) : Cl P w K mg base 3 "is_number" 1 G_is_number := by
  obtain ⟨fd, F⟩ := T.f_is_number
  exact ⟨fd, _, fg_is_number T F, T.g_is_number, F.kp, FunD.bindsN (ps := ["value"]) F fun _ _ _ _ _ _ us hl => match us, hl with | [_], _ => rfl⟩
theorem sc_is_at_most : FnScope ["one", "other"] ["one", "other"] (defScope s_is_at_most) := ⟨rfl, rfl, rfl, by decide +kernel, rfl, by decide +kernel, by decide +kernel⟩
abbrev cx_is_at_most (P : Program) (w : World) (K : PySem.W.Frag) (mg : Str → Option Value) (base : Heap) (cdv : Value) (A : Around) (outer : List Env) (s : Shared) (H : Hp) (E : XK) : Cx := cxOf (L2.CX P w) P w K mg base ["one", "other"] "is_at_most" (defScope s_is_at_most) (He.ga K "is_at_most") cdv A outer s H E
theorem fg_is_at_most (T : Txt K.K K.T mg base) {fd : FuncData} (F : FunD K.K "is_at_most" "is_at_most" (defArgs s_is_at_most) (defBody s_is_at_most) (defScope s_is_at_most) [] [] (He.ga K.K "is_at_most") fd) : FG P w K mg base 1 (He.ga K "is_at_most") fd ["one", "other"] (spD K 2 G_is_at_most) := by
  refine fg_of F sc_is_at_most (fun ds w h => rfl) (fun cdv hcv A outer s H E hr => ?_)
  have nd := (sc_is_at_most).nd
  have tk : Takes (cx_is_at_most P w K.K mg base cdv A outer s H E) (We E) := takes_of rfl rfl rfl rfl
  have hpo : PassesOwn (model P w) (cx_is_at_most P w K.K mg base cdv A outer s H E).A (cx_is_at_most P w K.K mg base cdv A outer s H E).env (cx_is_at_most P w K.K mg base cdv A outer s H E).xe := passes_of (X := cx_is_at_most P w K.K mg base cdv A outer s H E) rfl
  exact ⟨_, (dss_one (ds_ret (de_le (de_mul (de_ix (de_var 0) de_int) (de_ix (de_var 1) de_int)) (de_mul (de_ix (de_var 1) de_int) (de_ix (de_var 0) de_int)))))⟩
theorem cl_is_at_most (T : Txt K.K K.T mg base) : Cl P w K mg base 1 "is_at_most" 2 G_is_at_most := by
  obtain ⟨fd, F⟩ := T.f_is_at_most
  exact ⟨fd, _, fg_is_at_most T F, T.g_is_at_most, F.kp, FunD.bindsN (ps := ["one", "other"]) F fun _ _ _ _ _ _ us hl => match us, hl with | [_, _], _ => rfl⟩
theorem sc_check_limits : FnScope ["count", "limits", "at", "limit"] ["count", "limits"] (defScope s_check_limits) := ⟨rfl, rfl, rfl, by decide +kernel, rfl, by decide +kernel, by decide +kernel⟩
abbrev cx_check_limits (P : Program) (w : World) (K : PySem.W.Frag) (mg : Str → Option Value) (base : Heap) (cdv : Value) (A : Around) (outer : List Env) (s : Shared) (H : Hp) (E : XK) : Cx := cxOf (L2.CX P w) P w K mg base ["count", "limits", "at", "limit"] "check_limits" (defScope s_check_limits) (He.ga K "check_limits") cdv A outer s H E
theorem fg_check_limits (T : Txt K.K K.T mg base) {fd : FuncData} (F : FunD K.K "check_limits" "check_limits" (defArgs s_check_limits) (defBody s_check_limits) (defScope s_check_limits) [] [] (He.ga K.K "check_limits") fd) : FG P w K mg base 4 (He.ga K "check_limits") fd ["count", "limits"] (spD K 2 G_check_limits) := by
  refine fg_of F sc_check_limits (fun ds w h => rfl) (fun cdv hcv A outer s H E hr => ?_)
  have nd := (sc_check_limits).nd
  have tk : Takes (cx_check_limits P w K.K mg base cdv A outer s H E) (We E) := takes_of rfl rfl rfl rfl
  have hpo : PassesOwn (model P w) (cx_check_limits P w K.K mg base cdv A outer s H E).A (cx_check_limits P w K.K mg base cdv A outer s H E).env (cx_check_limits P w K.K mg base cdv A outer s H E).xe := passes_of (X := cx_check_limits P w K.K mg base cdv A outer s H E) rfl
  exact ⟨_, (dss_cons (ds_if (dt_not (dt_truth (de_c (cl_is_row T) hr tk (by decide) (by rfl) (da_cons (de_var 1) (da_cons (de_var 0) da_nil))))) (dss_one (ds_never)) dss_nil)
    (dss_one (ds_for hpo rfl (di_enum (by rfl) T.z_enumerate (da_cons (de_var 1) da_nil)) (dg_tup rfl (dgs_cons (dg_name 2 nd) (dgs_cons (dg_name 3 nd) dgs_nil)) 2) (dss_one (ds_if (DW.dt (dw_or (dt_not (dt_truth (de_c (cl_is_number T) hr tk (by decide) (by rfl) (da_cons (de_var 3) da_nil)))) (dw_or (dt_eq hr.u (de_var 3) (de_con (by rfl) T.k_ONE)) (dw_or1 (DW.dt (dw_and (dt_gt (de_var 2) de_int) (dw_and1 (dt_not (dt_truth (de_c (cl_is_at_most T) hr tk (by decide) (by rfl) (da_cons (de_ix (de_var 1) (de_sub (de_var 2) de_int)) (da_cons (de_var 3) da_nil)))))))))))) (dss_one (ds_never)) dss_nil)))))⟩
theorem cl_check_limits (T : Txt K.K K.T mg base) : Cl P w K mg base 4 "check_limits" 2 G_check_limits := by
  obtain ⟨fd, F⟩ := T.f_check_limits
  exact ⟨fd, _, fg_check_limits T F, T.g_check_limits, F.kp, FunD.bindsN (ps := ["count", "limits"]) F fun _ _ _ _ _ _ us hl => match us, hl with | [_, _], _ => rfl⟩
theorem sc_is_count : FnScope ["value"] ["value"] (defScope s_is_count) := ⟨rfl, rfl, rfl, by decide +kernel, rfl, by decide +kernel, by decide +kernel⟩
abbrev cx_is_count (P : Program) (w : World) (K : PySem.W.Frag) (mg : Str → Option Value) (base : Heap) (cdv : Value) (A : Around) (outer : List Env) (s : Shared) (H : Hp) (E : XK) : Cx := cxOf (L2.CX P w) P w K mg base ["value"] "is_count" (defScope s_is_count) (He.ga K "is_count") cdv A outer s H E
theorem fg_is_count (T : Txt K.K K.T mg base) {fd : FuncData} (F : FunD K.K "is_count" "is_count" (defArgs s_is_count) (defBody s_is_count) (defScope s_is_count) [] [] (He.ga K.K "is_count") fd) : FG P w K mg base 2 (He.ga K "is_count") fd ["value"] (spD K 1 G_is_count) := by
  refine fg_of F sc_is_count (fun ds w h => rfl) (fun cdv hcv A outer s H E hr => ?_)
  have nd := (sc_is_count).nd
  have tk : Takes (cx_is_count P w K.K mg base cdv A outer s H E) (We E) := takes_of rfl rfl rfl rfl
  have hpo : PassesOwn (model P w) (cx_is_count P w K.K mg base cdv A outer s H E).A (cx_is_count P w K.K mg base cdv A outer s H E).env (cx_is_count P w K.K mg base cdv A outer s H E).xe := passes_of (X := cx_is_count P w K.K mg base cdv A outer s H E) rfl
  exact ⟨_, (dss_one (ds_ret (de_and (de_c (cl_is_whole T) hr tk (by decide) (by rfl) (da_cons (de_var 0) da_nil)) (de_one (de_lele de_int (de_var 0) (de_gint (by rfl) T.c_MOST_COUNT))))))⟩
theorem cl_is_count (T : Txt K.K K.T mg base) : Cl P w K mg base 2 "is_count" 1 G_is_count := by
  obtain ⟨fd, F⟩ := T.f_is_count
  exact ⟨fd, _, fg_is_count T F, T.g_is_count, F.kp, FunD.bindsN (ps := ["value"]) F fun _ _ _ _ _ _ us hl => match us, hl with | [_], _ => rfl⟩
theorem sc_tells_count : FnScope ["value"] ["value"] (defScope s_tells_count) := ⟨rfl, rfl, rfl, by decide +kernel, rfl, by decide +kernel, by decide +kernel⟩
abbrev cx_tells_count (P : Program) (w : World) (K : PySem.W.Frag) (mg : Str → Option Value) (base : Heap) (cdv : Value) (A : Around) (outer : List Env) (s : Shared) (H : Hp) (E : XK) : Cx := cxOf (L2.CX P w) P w K mg base ["value"] "tells_count" (defScope s_tells_count) (He.ga K "tells_count") cdv A outer s H E
theorem fg_tells_count (T : Txt K.K K.T mg base) {fd : FuncData} (F : FunD K.K "tells_count" "tells_count" (defArgs s_tells_count) (defBody s_tells_count) (defScope s_tells_count) [] [] (He.ga K.K "tells_count") fd) : FG P w K mg base 3 (He.ga K "tells_count") fd ["value"] (spD K 1 G_tells_count) := by
  refine fg_of F sc_tells_count (fun ds w h => rfl) (fun cdv hcv A outer s H E hr => ?_)
  have nd := (sc_tells_count).nd
  have tk : Takes (cx_tells_count P w K.K mg base cdv A outer s H E) (We E) := takes_of rfl rfl rfl rfl
  have hpo : PassesOwn (model P w) (cx_tells_count P w K.K mg base cdv A outer s H E).A (cx_tells_count P w K.K mg base cdv A outer s H E).env (cx_tells_count P w K.K mg base cdv A outer s H E).xe := passes_of (X := cx_tells_count P w K.K mg base cdv A outer s H E) rfl
  exact ⟨_, (dss_one (ds_ret (de_and (de_is (de_type (by rfl) T.z_type (dq_cons (de_var 0) da_nil)) (de_ty (by rfl) T.z_tuple (by decide +kernel))) (de_one (de_c (cl_is_count T) hr tk (by decide) (by rfl) (da_cons (de_len (by rfl) T.z_len (dq_cons (de_var 0) da_nil)) da_nil))))))⟩
theorem cl_tells_count (T : Txt K.K K.T mg base) : Cl P w K mg base 3 "tells_count" 1 G_tells_count := by
  obtain ⟨fd, F⟩ := T.f_tells_count
  exact ⟨fd, _, fg_tells_count T F, T.g_tells_count, F.kp, FunD.bindsN (ps := ["value"]) F fun _ _ _ _ _ _ us hl => match us, hl with | [_], _ => rfl⟩
theorem sc_check_leading_limits : FnScope ["limits"] ["limits"] (defScope s_check_leading_limits) := ⟨rfl, rfl, rfl, by decide +kernel, rfl, by decide +kernel, by decide +kernel⟩
abbrev cx_check_leading_limits (P : Program) (w : World) (K : PySem.W.Frag) (mg : Str → Option Value) (base : Heap) (cdv : Value) (A : Around) (outer : List Env) (s : Shared) (H : Hp) (E : XK) : Cx := cxOf (L2.CX P w) P w K mg base ["limits"] "check_leading_limits" (defScope s_check_leading_limits) (He.ga K "check_leading_limits") cdv A outer s H E
theorem fg_check_leading_limits (T : Txt K.K K.T mg base) {fd : FuncData} (F : FunD K.K "check_leading_limits" "check_leading_limits" (defArgs s_check_leading_limits) (defBody s_check_leading_limits) (defScope s_check_leading_limits) [] [] (He.ga K.K "check_leading_limits") fd) : FG P w K mg base 5 (He.ga K "check_leading_limits") fd ["limits"] (spD K 1 G_check_leading_limits) := by
  refine fg_of F sc_check_leading_limits (fun ds w h => rfl) (fun cdv hcv A outer s H E hr => ?_)
  have nd := (sc_check_leading_limits).nd
  have tk : Takes (cx_check_leading_limits P w K.K mg base cdv A outer s H E) (We E) := takes_of rfl rfl rfl rfl
  have hpo : PassesOwn (model P w) (cx_check_leading_limits P w K.K mg base cdv A outer s H E).A (cx_check_leading_limits P w K.K mg base cdv A outer s H E).env (cx_check_leading_limits P w K.K mg base cdv A outer s H E).xe := passes_of (X := cx_check_leading_limits P w K.K mg base cdv A outer s H E) rfl
  exact ⟨_, (dss_cons (ds_if (dt_not (dt_truth (de_c (cl_tells_count T) hr tk (by decide) (by rfl) (da_cons (de_var 0) da_nil)))) (dss_one (ds_never)) dss_nil)
    (dss_one (ds_drop (de_c (cl_check_limits T) hr tk (by decide) (by rfl) (da_cons (de_len (by rfl) T.z_len (dq_cons (de_var 0) da_nil)) (da_cons (de_var 0) da_nil))))))⟩
theorem cl_check_leading_limits (T : Txt K.K K.T mg base) : Cl P w K mg base 5 "check_leading_limits" 1 G_check_leading_limits := by
  obtain ⟨fd, F⟩ := T.f_check_leading_limits
  exact ⟨fd, _, fg_check_leading_limits T F, T.g_check_leading_limits, F.kp, FunD.bindsN (ps := ["limits"]) F fun _ _ _ _ _ _ us hl => match us, hl with | [_], _ => rfl⟩
theorem sc_is_ascending : FnScope ["row", "one", "other"] ["row"] (defScope s_is_ascending) := ⟨rfl, rfl, rfl, by decide +kernel, rfl, by decide +kernel, by decide +kernel⟩
abbrev cx_is_ascending (P : Program) (w : World) (K : PySem.W.Frag) (mg : Str → Option Value) (base : Heap) (cdv : Value) (A : Around) (outer : List Env) (s : Shared) (H : Hp) (E : XK) : Cx := cxOf (L2.CX P w) P w K mg base ["row", "one", "other"] "is_ascending" (defScope s_is_ascending) (He.ga K "is_ascending") cdv A outer s H E
theorem fg_is_ascending (T : Txt K.K K.T mg base) {fd : FuncData} (F : FunD K.K "is_ascending" "is_ascending" (defArgs s_is_ascending) (defBody s_is_ascending) (defScope s_is_ascending) [] [] (He.ga K.K "is_ascending") fd) : FG P w K mg base 1 (He.ga K "is_ascending") fd ["row"] (spD K 1 G_is_ascending) := by
  refine fg_of F sc_is_ascending (fun ds w h => rfl) (fun cdv hcv A outer s H E hr => ?_)
  have nd := (sc_is_ascending).nd
  have tk : Takes (cx_is_ascending P w K.K mg base cdv A outer s H E) (We E) := takes_of rfl rfl rfl rfl
  have hpo : PassesOwn (model P w) (cx_is_ascending P w K.K mg base cdv A outer s H E).A (cx_is_ascending P w K.K mg base cdv A outer s H E).env (cx_is_ascending P w K.K mg base cdv A outer s H E).xe := passes_of (X := cx_is_ascending P w K.K mg base cdv A outer s H E) rfl
  exact ⟨_, (dss_one (ds_ret (de_all rfl (by rfl) T.z_all (dq_cons (de_lc (own := [("one", 1), ("other", 2)]) rfl nd (di_zip (by rfl) T.z_zip (dq_cons (de_var 0) (dq_cons (de_slice (de_var 0) (dp_some de_int) dp_none) da_nil))) (blkOk_by (by rfl)) (fun _ _ _ _ _ => (dg_tup rfl (dgs_cons (dg_name 1 nd) (dgs_cons (dg_name 2 nd) dgs_nil)) 2)) (fun _ _ _ _ _ => (de_lt hr.u (de_var 1) (de_var 2)))) da_nil))))⟩
theorem cl_is_ascending (T : Txt K.K K.T mg base) : Cl P w K mg base 1 "is_ascending" 1 G_is_ascending := by
  obtain ⟨fd, F⟩ := T.f_is_ascending
  exact ⟨fd, _, fg_is_ascending T F, T.g_is_ascending, F.kp, FunD.bindsN (ps := ["row"]) F fun _ _ _ _ _ _ us hl => match us, hl with | [_], _ => rfl⟩
theorem sc_is_index : FnScope ["count", "value"] ["count", "value"] (defScope s_is_index) := ⟨rfl, rfl, rfl, by decide +kernel, rfl, by decide +kernel, by decide +kernel⟩
abbrev cx_is_index (P : Program) (w : World) (K : PySem.W.Frag) (mg : Str → Option Value) (base : Heap) (cdv : Value) (A : Around) (outer : List Env) (s : Shared) (H : Hp) (E : XK) : Cx := cxOf (L2.CX P w) P w K mg base ["count", "value"] "is_index" (defScope s_is_index) (He.ga K "is_index") cdv A outer s H E
theorem fg_is_index (T : Txt K.K K.T mg base) {fd : FuncData} (F : FunD K.K "is_index" "is_index" (defArgs s_is_index) (defBody s_is_index) (defScope s_is_index) [] [] (He.ga K.K "is_index") fd) : FG P w K mg base 2 (He.ga K "is_index") fd ["count", "value"] (spD K 2 G_is_index) := by
  refine fg_of F sc_is_index (fun ds w h => rfl) (fun cdv hcv A outer s H E hr => ?_)
  have nd := (sc_is_index).nd
  have tk : Takes (cx_is_index P w K.K mg base cdv A outer s H E) (We E) := takes_of rfl rfl rfl rfl
  have hpo : PassesOwn (model P w) (cx_is_index P w K.K mg base cdv A outer s H E).A (cx_is_index P w K.K mg base cdv A outer s H E).env (cx_is_index P w K.K mg base cdv A outer s H E).xe := passes_of (X := cx_is_index P w K.K mg base cdv A outer s H E) rfl
  exact ⟨_, (dss_one (ds_ret (de_and (de_c (cl_is_whole T) hr tk (by decide) (by rfl) (da_cons (de_var 1) da_nil)) (de_one (de_lelt de_int (de_var 1) (de_var 0))))))⟩
theorem cl_is_index (T : Txt K.K K.T mg base) : Cl P w K mg base 2 "is_index" 2 G_is_index := by
  obtain ⟨fd, F⟩ := T.f_is_index
  exact ⟨fd, _, fg_is_index T F, T.g_is_index, F.kp, FunD.bindsN (ps := ["count", "value"]) F fun _ _ _ _ _ _ us hl => match us, hl with | [_, _], _ => rfl⟩
theorem sc_is_set : FnScope ["count", "value", "each"] ["count", "value"] (defScope s_is_set) := ⟨rfl, rfl, rfl, by decide +kernel, rfl, by decide +kernel, by decide +kernel⟩
abbrev cx_is_set (P : Program) (w : World) (K : PySem.W.Frag) (mg : Str → Option Value) (base : Heap) (cdv : Value) (A : Around) (outer : List Env) (s : Shared) (H : Hp) (E : XK) : Cx := cxOf (L2.CX P w) P w K mg base ["count", "value", "each"] "is_set" (defScope s_is_set) (He.ga K "is_set") cdv A outer s H E
theorem fg_is_set (T : Txt K.K K.T mg base) {fd : FuncData} (F : FunD K.K "is_set" "is_set" (defArgs s_is_set) (defBody s_is_set) (defScope s_is_set) [] [] (He.ga K.K "is_set") fd) : FG P w K mg base 3 (He.ga K "is_set") fd ["count", "value"] (spD K 2 G_is_set) := by
  refine fg_of F sc_is_set (fun ds w h => rfl) (fun cdv hcv A outer s H E hr => ?_)
  have nd := (sc_is_set).nd
  have tk : Takes (cx_is_set P w K.K mg base cdv A outer s H E) (We E) := takes_of rfl rfl rfl rfl
  have hpo : PassesOwn (model P w) (cx_is_set P w K.K mg base cdv A outer s H E).A (cx_is_set P w K.K mg base cdv A outer s H E).env (cx_is_set P w K.K mg base cdv A outer s H E).xe := passes_of (X := cx_is_set P w K.K mg base cdv A outer s H E) rfl
  exact ⟨_, (dss_cons (ds_if (DW.dt (dw_or (dt_isnot (de_type (by rfl) T.z_type (dq_cons (de_var 1) da_nil)) (de_ty (by rfl) T.z_tuple (by decide +kernel))) (dw_or1 (dt_eq hr.u (de_len (by rfl) T.z_len (dq_cons (de_var 1) da_nil)) de_int)))) (dss_one (ds_ret de_bl)) dss_nil)
    (dss_one (ds_ret (de_and (de_all rfl (by rfl) T.z_all (dq_cons (de_lc (own := [("each", 2)]) rfl nd (di_seq (de_var 1)) (blkOk_by (by rfl)) (fun _ _ _ _ _ => (dg_name 2 nd)) (fun _ _ _ _ _ => (de_c (cl_is_index T) hr takes0 (by decide) (by rfl) (da_cons (de_var 0) (da_cons (de_var 2) da_nil))))) da_nil)) (de_one (de_c (cl_is_ascending T) hr tk (by decide) (by rfl) (da_cons (de_var 1) da_nil)))))))⟩
theorem cl_is_set (T : Txt K.K K.T mg base) : Cl P w K mg base 3 "is_set" 2 G_is_set := by
  obtain ⟨fd, F⟩ := T.f_is_set
  exact ⟨fd, _, fg_is_set T F, T.g_is_set, F.kp, FunD.bindsN (ps := ["count", "value"]) F fun _ _ _ _ _ _ us hl => match us, hl with | [_, _], _ => rfl⟩
theorem sc_check_set : FnScope ["count", "group"] ["count", "group"] (defScope s_check_set) := ⟨rfl, rfl, rfl, by decide +kernel, rfl, by decide +kernel, by decide +kernel⟩
abbrev cx_check_set (P : Program) (w : World) (K : PySem.W.Frag) (mg : Str → Option Value) (base : Heap) (cdv : Value) (A : Around) (outer : List Env) (s : Shared) (H : Hp) (E : XK) : Cx := cxOf (L2.CX P w) P w K mg base ["count", "group"] "check_set" (defScope s_check_set) (He.ga K "check_set") cdv A outer s H E
theorem fg_check_set (T : Txt K.K K.T mg base) {fd : FuncData} (F : FunD K.K "check_set" "check_set" (defArgs s_check_set) (defBody s_check_set) (defScope s_check_set) [] [] (He.ga K.K "check_set") fd) : FG P w K mg base 4 (He.ga K "check_set") fd ["count", "group"] (spD K 2 G_check_set) := by
  refine fg_of F sc_check_set (fun ds w h => rfl) (fun cdv hcv A outer s H E hr => ?_)
  have nd := (sc_check_set).nd
  have tk : Takes (cx_check_set P w K.K mg base cdv A outer s H E) (We E) := takes_of rfl rfl rfl rfl
  have hpo : PassesOwn (model P w) (cx_check_set P w K.K mg base cdv A outer s H E).A (cx_check_set P w K.K mg base cdv A outer s H E).env (cx_check_set P w K.K mg base cdv A outer s H E).xe := passes_of (X := cx_check_set P w K.K mg base cdv A outer s H E) rfl
  exact ⟨_, (dss_one (ds_if (dt_not (dt_truth (de_c (cl_is_set T) hr tk (by decide) (by rfl) (da_cons (de_var 0) (da_cons (de_var 1) da_nil))))) (dss_one (ds_never)) dss_nil))⟩
theorem cl_check_set (T : Txt K.K K.T mg base) : Cl P w K mg base 4 "check_set" 2 G_check_set := by
  obtain ⟨fd, F⟩ := T.f_check_set
  exact ⟨fd, _, fg_check_set T F, T.g_check_set, F.kp, FunD.bindsN (ps := ["count", "group"]) F fun _ _ _ _ _ _ us hl => match us, hl with | [_, _], _ => rfl⟩
theorem sc_all_sets : FnScope ["count", "picks", "at", "pick"] ["count"] (defScope s_all_sets) := ⟨rfl, rfl, rfl, by decide +kernel, rfl, by decide +kernel, by decide +kernel⟩
abbrev cx_all_sets (P : Program) (w : World) (K : PySem.W.Frag) (mg : Str → Option Value) (base : Heap) (cdv : Value) (A : Around) (outer : List Env) (s : Shared) (H : Hp) (E : XK) : Cx := cxOf (L2.CX P w) P w K mg base ["count", "picks", "at", "pick"] "all_sets" (defScope s_all_sets) (He.ga K "all_sets") cdv A outer s H E
theorem fg_all_sets (T : Txt K.K K.T mg base) {fd : FuncData} (F : FunD K.K "all_sets" "all_sets" (defArgs s_all_sets) (defBody s_all_sets) (defScope s_all_sets) [] [] (He.ga K.K "all_sets") fd) : FG P w K mg base 1 (He.ga K "all_sets") fd ["count"] (spD K 1 G_all_sets) := by
  refine fg_of F sc_all_sets (fun ds w h => rfl) (fun cdv hcv A outer s H E hr => ?_)
  have nd := (sc_all_sets).nd
  have tk : Takes (cx_all_sets P w K.K mg base cdv A outer s H E) (We E) := takes_of rfl rfl rfl rfl
  have hpo : PassesOwn (model P w) (cx_all_sets P w K.K mg base cdv A outer s H E).A (cx_all_sets P w K.K mg base cdv A outer s H E).env (cx_all_sets P w K.K mg base cdv A outer s H E).xe := passes_of (X := cx_all_sets P w K.K mg base cdv A outer s H E) rfl
  exact ⟨_, (dss_cons (ds_set 1 nd (de_rngV (by rfl) T.z_range (dq_cons de_int (dq_cons (de_shl de_int (de_var 0)) da_nil))))
    (dss_one (ds_ret (de_tuple (by rfl) T.z_tuple (dq_cons (de_sortedT hr (by rfl) T.z_sorted (dq_cons (de_lc (own := [("pick", 3)]) rfl nd (di_rngV (de_var 1)) (blkOk_by (by rfl)) (fun _ _ _ _ _ => (dg_name 3 nd)) (fun _ _ _ _ _ => (de_tuple (by rfl) T.z_tuple (dq_cons (de_lcIf (own := [("at", 2)]) rfl nd (di_range1 (by rfl) T.z_range (dq_cons (de_var 0) da_nil)) (blkOk_by (by rfl)) (fun _ _ _ _ _ => (dg_name 2 nd)) (fun _ _ _ _ _ => (dt_truth (de_band (de_shr (de_var 3) (de_var 2)) de_int))) (fun _ _ _ _ _ => (de_var 2))) da_nil)))) da_nil)) da_nil)))))⟩
theorem cl_all_sets (T : Txt K.K K.T mg base) : Cl P w K mg base 1 "all_sets" 1 G_all_sets := by
  obtain ⟨fd, F⟩ := T.f_all_sets
  exact ⟨fd, _, fg_all_sets T F, T.g_all_sets, F.kp, FunD.bindsN (ps := ["count"]) F fun _ _ _ _ _ _ us hl => match us, hl with | [_], _ => rfl⟩
theorem sc_is_part : FnScope ["lot", "other", "at"] ["lot", "other"] (defScope s_is_part) := ⟨rfl, rfl, rfl, by decide +kernel, rfl, by decide +kernel, by decide +kernel⟩
abbrev cx_is_part (P : Program) (w : World) (K : PySem.W.Frag) (mg : Str → Option Value) (base : Heap) (cdv : Value) (A : Around) (outer : List Env) (s : Shared) (H : Hp) (E : XK) : Cx := cxOf (L2.CX P w) P w K mg base ["lot", "other", "at"] "is_part" (defScope s_is_part) (He.ga K "is_part") cdv A outer s H E
theorem fg_is_part (T : Txt K.K K.T mg base) {fd : FuncData} (F : FunD K.K "is_part" "is_part" (defArgs s_is_part) (defBody s_is_part) (defScope s_is_part) [] [] (He.ga K.K "is_part") fd) : FG P w K mg base 1 (He.ga K "is_part") fd ["lot", "other"] (spD K 2 G_is_part) := by
  refine fg_of F sc_is_part (fun ds w h => rfl) (fun cdv hcv A outer s H E hr => ?_)
  have nd := (sc_is_part).nd
  have tk : Takes (cx_is_part P w K.K mg base cdv A outer s H E) (We E) := takes_of rfl rfl rfl rfl
  have hpo : PassesOwn (model P w) (cx_is_part P w K.K mg base cdv A outer s H E).A (cx_is_part P w K.K mg base cdv A outer s H E).env (cx_is_part P w K.K mg base cdv A outer s H E).xe := passes_of (X := cx_is_part P w K.K mg base cdv A outer s H E) rfl
  exact ⟨_, (dss_one (ds_ret (de_all rfl (by rfl) T.z_all (dq_cons (de_lc (own := [("at", 2)]) rfl nd (di_seq (de_var 0)) (blkOk_by (by rfl)) (fun _ _ _ _ _ => (dg_name 2 nd)) (fun _ _ _ _ _ => (de_in hr.u (de_var 2) (de_var 1)))) da_nil))))⟩
theorem cl_is_part (T : Txt K.K K.T mg base) : Cl P w K mg base 1 "is_part" 2 G_is_part := by
  obtain ⟨fd, F⟩ := T.f_is_part
  exact ⟨fd, _, fg_is_part T F, T.g_is_part, F.kp, FunD.bindsN (ps := ["lot", "other"]) F fun _ _ _ _ _ _ us hl => match us, hl with | [_, _], _ => rfl⟩
theorem sc_alike : FnScope ["count", "group", "limit", "at"] ["count", "group", "limit"] (defScope s_alike) := ⟨rfl, rfl, rfl, by decide +kernel, rfl, by decide +kernel, by decide +kernel⟩
abbrev cx_alike (P : Program) (w : World) (K : PySem.W.Frag) (mg : Str → Option Value) (base : Heap) (cdv : Value) (A : Around) (outer : List Env) (s : Shared) (H : Hp) (E : XK) : Cx := cxOf (L2.CX P w) P w K mg base ["count", "group", "limit", "at"] "alike" (defScope s_alike) (He.ga K "alike") cdv A outer s H E
theorem fg_alike (T : Txt K.K K.T mg base) {fd : FuncData} (F : FunD K.K "alike" "alike" (defArgs s_alike) (defBody s_alike) (defScope s_alike) [] [] (He.ga K.K "alike") fd) : FG P w K mg base 1 (He.ga K "alike") fd ["count", "group", "limit"] (spD K 3 G_alike) := by
  refine fg_of F sc_alike (fun ds w h => rfl) (fun cdv hcv A outer s H E hr => ?_)
  have nd := (sc_alike).nd
  have tk : Takes (cx_alike P w K.K mg base cdv A outer s H E) (We E) := takes_of rfl rfl rfl rfl
  have hpo : PassesOwn (model P w) (cx_alike P w K.K mg base cdv A outer s H E).A (cx_alike P w K.K mg base cdv A outer s H E).env (cx_alike P w K.K mg base cdv A outer s H E).xe := passes_of (X := cx_alike P w K.K mg base cdv A outer s H E) rfl
  exact ⟨_, (dss_one (ds_ret (de_tuple (by rfl) T.z_tuple (dq_cons (de_lc (own := [("at", 3)]) rfl nd (di_range1 (by rfl) T.z_range (dq_cons (de_var 0) da_nil)) (blkOk_by (by rfl)) (fun _ _ _ _ _ => (dg_name 3 nd)) (fun _ _ _ _ _ => (de_if (dt_in hr.u (de_var 3) (de_var 1)) (de_var 2) de_non))) da_nil))))⟩
theorem cl_alike (T : Txt K.K K.T mg base) : Cl P w K mg base 1 "alike" 3 G_alike := by
  obtain ⟨fd, F⟩ := T.f_alike
  exact ⟨fd, _, fg_alike T F, T.g_alike, F.kp, FunD.bindsN (ps := ["count", "group", "limit"]) F fun _ _ _ _ _ _ us hl => match us, hl with | [_, _, _], _ => rfl⟩
theorem sc_lowest : FnScope ["top", "bottom", "common"] ["top", "bottom"] (defScope s_lowest) := ⟨rfl, rfl, rfl, by decide +kernel, rfl, by decide +kernel, by decide +kernel⟩
abbrev cx_lowest (P : Program) (w : World) (K : PySem.W.Frag) (mg : Str → Option Value) (base : Heap) (cdv : Value) (A : Around) (outer : List Env) (s : Shared) (H : Hp) (E : XK) : Cx := cxOf (L2.CX P w) P w K mg base ["top", "bottom", "common"] "lowest" (defScope s_lowest) (He.ga K "lowest") cdv A outer s H E
theorem fg_lowest (T : Txt K.K K.T mg base) {fd : FuncData} (F : FunD K.K "lowest" "lowest" (defArgs s_lowest) (defBody s_lowest) (defScope s_lowest) [] [] (He.ga K.K "lowest") fd) : FG P w K mg base 1 (He.ga K "lowest") fd ["top", "bottom"] (spD K 2 G_lowest) := by
  refine fg_of F sc_lowest (fun ds w h => rfl) (fun cdv hcv A outer s H E hr => ?_)
  have nd := (sc_lowest).nd
  have tk : Takes (cx_lowest P w K.K mg base cdv A outer s H E) (We E) := takes_of rfl rfl rfl rfl
  have hpo : PassesOwn (model P w) (cx_lowest P w K.K mg base cdv A outer s H E).A (cx_lowest P w K.K mg base cdv A outer s H E).env (cx_lowest P w K.K mg base cdv A outer s H E).xe := passes_of (X := cx_lowest P w K.K mg base cdv A outer s H E) rfl
  exact ⟨_, (dss_cons (ds_set 2 nd (de_gcd (by rfl) T.m_gcd (dq_cons (de_var 0) (dq_cons (de_var 1) da_nil))))
    (dss_one (ds_ret (de_tup (da_cons (de_fdiv (de_var 0) (de_var 2)) (da_cons (de_fdiv (de_var 1) (de_var 2)) da_nil))))))⟩
theorem cl_lowest (T : Txt K.K K.T mg base) : Cl P w K mg base 1 "lowest" 2 G_lowest := by
  obtain ⟨fd, F⟩ := T.f_lowest
  exact ⟨fd, _, fg_lowest T F, T.g_lowest, F.kp, FunD.bindsN (ps := ["top", "bottom"]) F fun _ _ _ _ _ _ us hl => match us, hl with | [_, _], _ => rfl⟩
theorem sc_share_worth : FnScope ["limits", "group", "others", "calls"] ["limits", "group", "others"] (defScope s_share_worth) := ⟨rfl, rfl, rfl, by decide +kernel, rfl, by decide +kernel, by decide +kernel⟩
abbrev cx_share_worth (P : Program) (w : World) (K : PySem.W.Frag) (mg : Str → Option Value) (base : Heap) (cdv : Value) (A : Around) (outer : List Env) (s : Shared) (H : Hp) (E : XK) : Cx := cxOf (L2.CX P w) P w K mg base ["limits", "group", "others", "calls"] "share_worth" (defScope s_share_worth) (He.ga K "share_worth") cdv A outer s H E
theorem fg_share_worth (T : Txt K.K K.T mg base) {fd : FuncData} (F : FunD K.K "share_worth" "share_worth" (defArgs s_share_worth) (defBody s_share_worth) (defScope s_share_worth) [] [] (He.ga K.K "share_worth") fd) : FG P w K mg base 2 (He.ga K "share_worth") fd ["limits", "group", "others"] (spD K 3 G_share_worth) := by
  refine fg_of F sc_share_worth (fun ds w h => rfl) (fun cdv hcv A outer s H E hr => ?_)
  have nd := (sc_share_worth).nd
  have tk : Takes (cx_share_worth P w K.K mg base cdv A outer s H E) (We E) := takes_of rfl rfl rfl rfl
  have hpo : PassesOwn (model P w) (cx_share_worth P w K.K mg base cdv A outer s H E).A (cx_share_worth P w K.K mg base cdv A outer s H E).env (cx_share_worth P w K.K mg base cdv A outer s H E).xe := passes_of (X := cx_share_worth P w K.K mg base cdv A outer s H E) rfl
  exact ⟨_, (dss_cons (ds_set 3 nd (de_add (de_len (by rfl) T.z_len (dq_cons (de_var 1) da_nil)) (de_var 2)))
    (dss_one (ds_ret (de_tup (da_cons (de_c (cl_alike T) hr tk (by decide) (by rfl) (da_cons (de_len (by rfl) T.z_len (dq_cons (de_var 0) da_nil)) (da_cons (de_var 1) (da_cons (de_ix (de_var 0) (de_sub (de_var 3) de_int)) da_nil)))) (da_cons (de_c (cl_lowest T) hr tk (by decide) (by rfl) (da_cons (de_len (by rfl) T.z_len (dq_cons (de_var 1) da_nil)) (da_cons (de_var 3) da_nil))) da_nil))))))⟩
theorem cl_share_worth (T : Txt K.K K.T mg base) : Cl P w K mg base 2 "share_worth" 3 G_share_worth := by
  obtain ⟨fd, F⟩ := T.f_share_worth
  exact ⟨fd, _, fg_share_worth T F, T.g_share_worth, F.kp, FunD.bindsN (ps := ["limits", "group", "others"]) F fun _ _ _ _ _ _ us hl => match us, hl with | [_, _, _], _ => rfl⟩
theorem sc_worths_against : FnScope ["limits", "lot", "count", "groups", "group", "others"] ["limits", "lot"] (defScope s_worths_against) := ⟨rfl, rfl, rfl, by decide +kernel, rfl, by decide +kernel, by decide +kernel⟩
abbrev cx_worths_against (P : Program) (w : World) (K : PySem.W.Frag) (mg : Str → Option Value) (base : Heap) (cdv : Value) (A : Around) (outer : List Env) (s : Shared) (H : Hp) (E : XK) : Cx := cxOf (L2.CX P w) P w K mg base ["limits", "lot", "count", "groups", "group", "others"] "worths_against" (defScope s_worths_against) (He.ga K "worths_against") cdv A outer s H E
def g_worths_against : SG :=
  (sSeq (sSet 2 (eCall oLen (aCons (eVar 0) aNil)))
  (sSeq (sSet 3 (eLc (gSeq (eFn 1 G_all_sets (aCons (eVar 2) aNil))) (bName 4) (eUn oTru (eFn 2 G_is_part (aCons (eVar 4) (aCons (eVar 1) aNil)))) (eVar 4) [4]))
  (sRet (eCall oTup (aCons (eLc2 (gRng1 (aCons (eBin oAdd (eBin oSub (eVar 2) (eCall oLen (aCons (eVar 1) aNil))) (eC (.int 1))) aNil)) (bName 5) (gSeq (eVar 3)) (bName 4) (eFn 3 G_share_worth (aCons (eVar 0) (aCons (eVar 4) (aCons (eVar 5) aNil)))) [5, 4] [4]) aNil)))))
def G_worths_against : List D → Wl → Res := fun ds w => runG 6 g_worths_against ds w
theorem fg_worths_against (T : Txt K.K K.T mg base) {fd : FuncData} (F : FunD K.K "worths_against" "worths_against" (defArgs s_worths_against) (defBody s_worths_against) (defScope s_worths_against) [] [] (He.ga K.K "worths_against") fd) : FG P w K mg base 3 (He.ga K "worths_against") fd ["limits", "lot"] (spD K 2 G_worths_against) := by
  refine fg_of F sc_worths_against (fun ds w h => rfl) (fun cdv hcv A outer s H E hr => ?_)
  have nd := (sc_worths_against).nd
  have tk : Takes (cx_worths_against P w K.K mg base cdv A outer s H E) (We E) := takes_of rfl rfl rfl rfl
  have hpo : PassesOwn (model P w) (cx_worths_against P w K.K mg base cdv A outer s H E).A (cx_worths_against P w K.K mg base cdv A outer s H E).env (cx_worths_against P w K.K mg base cdv A outer s H E).xe := passes_of (X := cx_worths_against P w K.K mg base cdv A outer s H E) rfl
  exact ⟨_, (dss_cons (ds_set 2 nd (de_len (by rfl) T.z_len (dq_cons (de_var 0) da_nil)))
    (dss_cons (ds_set 3 nd (de_lcIf (own := [("group", 4)]) rfl nd (di_seq (de_c (cl_all_sets T) hr tk (by decide) (by rfl) (da_cons (de_var 2) da_nil))) (blkOk_by (by rfl)) (fun _ _ _ _ _ => (dg_name 4 nd)) (fun _ _ _ _ _ => (dt_truth (de_c (cl_is_part T) hr takes0 (by decide) (by rfl) (da_cons (de_var 4) (da_cons (de_var 1) da_nil))))) (fun _ _ _ _ _ => (de_var 4))))
    (dss_one (ds_ret (de_tuple (by rfl) T.z_tuple (dq_cons (de_lc2 (own := [("others", 5), ("group", 4)]) rfl nd (di_range1 (by rfl) T.z_range (dq_cons (de_add (de_sub (de_var 2) (de_len (by rfl) T.z_len (dq_cons (de_var 1) da_nil))) de_int) da_nil)) (blkOk_by (by rfl)) (fun _ _ _ _ _ => (dg_name 5 nd)) (fun _ _ _ _ _ => (di_seq (de_var 3))) (fun _ _ _ _ _ => (dg_name 4 nd)) (fun _ _ _ _ _ => (de_c (cl_share_worth T) hr takes0 (by decide) (by rfl) (da_cons (de_var 0) (da_cons (de_var 4) (da_cons (de_var 5) da_nil))))) [4]) da_nil))))))⟩
theorem cl_worths_against (T : Txt K.K K.T mg base) : Cl P w K mg base 3 "worths_against" 2 G_worths_against := by
  obtain ⟨fd, F⟩ := T.f_worths_against
  exact ⟨fd, _, fg_worths_against T F, T.g_worths_against, F.kp, FunD.bindsN (ps := ["limits", "lot"]) F fun _ _ _ _ _ _ us hl => match us, hl with | [_, _], _ => rfl⟩
theorem sc_share_worths : FnScope ["limits", "lot"] ["limits", "lot"] (defScope s_share_worths) := ⟨rfl, rfl, rfl, by decide +kernel, rfl, by decide +kernel, by decide +kernel⟩
abbrev cx_share_worths (P : Program) (w : World) (K : PySem.W.Frag) (mg : Str → Option Value) (base : Heap) (cdv : Value) (A : Around) (outer : List Env) (s : Shared) (H : Hp) (E : XK) : Cx := cxOf (L2.CX P w) P w K mg base ["limits", "lot"] "share_worths" (defScope s_share_worths) (He.ga K "share_worths") cdv A outer s H E
def g_share_worths : SG :=
  (sSeq (sDrop (eFn 1 G_check_leading_limits (aCons (eVar 0) aNil)))
  (sSeq (sDrop (eFn 2 G_check_set (aCons (eCall oLen (aCons (eVar 0) aNil)) (aCons (eVar 1) aNil))))
  (sRet (eFn 2 G_worths_against (aCons (eVar 0) (aCons (eVar 1) aNil))))))
def G_share_worths : List D → Wl → Res := fun ds w => runG 2 g_share_worths ds w
theorem fg_share_worths (T : Txt K.K K.T mg base) {fd : FuncData} (F : FunD K.K "share_worths" "share_worths" (defArgs s_share_worths) (defBody s_share_worths) (defScope s_share_worths) [] [] (He.ga K.K "share_worths") fd) : FG P w K mg base 6 (He.ga K "share_worths") fd ["limits", "lot"] (spD K 2 G_share_worths) := by
  refine fg_of F sc_share_worths (fun ds w h => rfl) (fun cdv hcv A outer s H E hr => ?_)
  have nd := (sc_share_worths).nd
  have tk : Takes (cx_share_worths P w K.K mg base cdv A outer s H E) (We E) := takes_of rfl rfl rfl rfl
  have hpo : PassesOwn (model P w) (cx_share_worths P w K.K mg base cdv A outer s H E).A (cx_share_worths P w K.K mg base cdv A outer s H E).env (cx_share_worths P w K.K mg base cdv A outer s H E).xe := passes_of (X := cx_share_worths P w K.K mg base cdv A outer s H E) rfl
  exact ⟨_, (dss_cons (ds_drop (de_c (cl_check_leading_limits T) hr tk (by decide) (by rfl) (da_cons (de_var 0) da_nil)))
    (dss_cons (ds_drop (de_c (cl_check_set T) hr tk (by decide) (by rfl) (da_cons (de_len (by rfl) T.z_len (dq_cons (de_var 0) da_nil)) (da_cons (de_var 1) da_nil))))
    (dss_one (ds_ret (de_c (cl_worths_against T) hr tk (by decide) (by rfl) (da_cons (de_var 0) (da_cons (de_var 1) da_nil)))))))⟩
theorem cl_share_worths (T : Txt K.K K.T mg base) : Cl P w K mg base 6 "share_worths" 2 G_share_worths := by
  obtain ⟨fd, F⟩ := T.f_share_worths
  exact ⟨fd, _, fg_share_worths T F, T.g_share_worths, F.kp, FunD.bindsN (ps := ["limits", "lot"]) F fun _ _ _ _ _ _ us hl => match us, hl with | [_, _], _ => rfl⟩
theorem ck_share_worths_0_lot_limits (T : Txt K.K K.T mg base) : ClK P w K mg base 6 "share_worths" 2 G_share_worths 0 ["lot", "limits"] [1, 0] := by
  obtain ⟨fd, F⟩ := T.f_share_worths
  exact ⟨fd, _, fg_share_worths T F, T.g_share_worths, F.kp, FunD.kb (ps := ["limits", "lot"]) F fun _ _ _ _ _ _ us ws h1 h2 => match us, ws, h1, h2 with | [], [_, _], _, _ => rfl⟩
theorem sc__law_sets_of : FnScope ["some", "found", "each", "row"] ["some"] (defScope s__law_sets_of) := ⟨rfl, rfl, rfl, by decide +kernel, rfl, by decide +kernel, by decide +kernel⟩
abbrev cx__law_sets_of (P : Program) (w : World) (K : PySem.W.Frag) (mg : Str → Option Value) (base : Heap) (cdv : Value) (A : Around) (outer : List Env) (s : Shared) (H : Hp) (E : XK) : Cx := cxOf (L2.CX P w) P w K mg base ["some", "found", "each", "row"] "_law_sets_of" (defScope s__law_sets_of) (He.ga K "_law_sets_of") cdv A outer s H E
theorem fg__law_sets_of (T : Txt K.K K.T mg base) {fd : FuncData} (F : FunD K.K "_law_sets_of" "_law_sets_of" (defArgs s__law_sets_of) (defBody s__law_sets_of) (defScope s__law_sets_of) [] [] (He.ga K.K "_law_sets_of") fd) : FG P w K mg base 1 (He.ga K "_law_sets_of") fd ["some"] (spD K 1 G__law_sets_of) := by
  refine fg_of F sc__law_sets_of (fun ds w h => rfl) (fun cdv hcv A outer s H E hr => ?_)
  have nd := (sc__law_sets_of).nd
  have tk : Takes (cx__law_sets_of P w K.K mg base cdv A outer s H E) (We E) := takes_of rfl rfl rfl rfl
  have hpo : PassesOwn (model P w) (cx__law_sets_of P w K.K mg base cdv A outer s H E).A (cx__law_sets_of P w K.K mg base cdv A outer s H E).env (cx__law_sets_of P w K.K mg base cdv A outer s H E).xe := passes_of (X := cx__law_sets_of P w K.K mg base cdv A outer s H E) rfl
  exact ⟨_, (dss_cons (ds_set 1 nd (de_lst (da_cons (de_tup da_nil) da_nil)))
    (dss_cons (ds_for hpo rfl (di_seq (de_var 0)) (dg_name 2 nd) (dss_one (ds_set 1 nd (de_add (de_var 1) (de_lc (own := [("row", 3)]) rfl nd (di_seq (de_var 1)) (blkOk_by (by rfl)) (fun _ _ _ _ _ => (dg_name 3 nd)) (fun _ _ _ _ _ => (de_add (de_var 3) (de_tup (da_cons (de_var 2) da_nil)))))))))
    (dss_one (ds_ret (de_slice (de_sortedE hr (by rfl) T.z_sorted (dq_cons (de_var 1) da_nil)) (dp_some de_int) dp_none)))))⟩
theorem cl__law_sets_of (T : Txt K.K K.T mg base) : Cl P w K mg base 1 "_law_sets_of" 1 G__law_sets_of := by
  obtain ⟨fd, F⟩ := T.f__law_sets_of
  exact ⟨fd, _, fg__law_sets_of T F, T.g__law_sets_of, F.kp, FunD.bindsN (ps := ["some"]) F fun _ _ _ _ _ _ us hl => match us, hl with | [_], _ => rfl⟩
theorem sc__law_edge : FnScope ["many", "some", "cut", "k"] ["many", "some", "cut"] (defScope s__law_edge) := ⟨rfl, rfl, rfl, by decide +kernel, rfl, by decide +kernel, by decide +kernel⟩
abbrev cx__law_edge (P : Program) (w : World) (K : PySem.W.Frag) (mg : Str → Option Value) (base : Heap) (cdv : Value) (A : Around) (outer : List Env) (s : Shared) (H : Hp) (E : XK) : Cx := cxOf (L2.CX P w) P w K mg base ["many", "some", "cut", "k"] "_law_edge" (defScope s__law_edge) (He.ga K "_law_edge") cdv A outer s H E
theorem fg__law_edge (T : Txt K.K K.T mg base) {fd : FuncData} (F : FunD K.K "_law_edge" "_law_edge" (defArgs s__law_edge) (defBody s__law_edge) (defScope s__law_edge) [] [] (He.ga K.K "_law_edge") fd) : FG P w K mg base 1 (He.ga K "_law_edge") fd ["many", "some", "cut"] (spD K 3 G__law_edge) := by
  refine fg_of F sc__law_edge (fun ds w h => rfl) (fun cdv hcv A outer s H E hr => ?_)
  have nd := (sc__law_edge).nd
  have tk : Takes (cx__law_edge P w K.K mg base cdv A outer s H E) (We E) := takes_of rfl rfl rfl rfl
  have hpo : PassesOwn (model P w) (cx__law_edge P w K.K mg base cdv A outer s H E).A (cx__law_edge P w K.K mg base cdv A outer s H E).env (cx__law_edge P w K.K mg base cdv A outer s H E).xe := passes_of (X := cx__law_edge P w K.K mg base cdv A outer s H E) rfl
  exact ⟨_, (dss_one (ds_ret (de_tuple (by rfl) T.z_tuple (dq_cons (de_lc (own := [("k", 3)]) rfl nd (di_range1 (by rfl) T.z_range (dq_cons (de_var 0) da_nil)) (blkOk_by (by rfl)) (fun _ _ _ _ _ => (dg_name 3 nd)) (fun _ _ _ _ _ => (de_if (dt_in hr.u (de_var 3) (de_var 1)) (de_var 2) de_non))) da_nil))))⟩
theorem cl__law_edge (T : Txt K.K K.T mg base) : Cl P w K mg base 1 "_law_edge" 3 G__law_edge := by
  obtain ⟨fd, F⟩ := T.f__law_edge
  exact ⟨fd, _, fg__law_edge T F, T.g__law_edge, F.kp, FunD.bindsN (ps := ["many", "some", "cut"]) F fun _ _ _ _ _ _ us hl => match us, hl with | [_, _, _], _ => rfl⟩
theorem sc__law_worths : FnScope ["steps", "part", "many", "found", "b", "some", "a"] ["steps", "part"] (defScope s__law_worths) := ⟨rfl, rfl, rfl, by decide +kernel, rfl, by decide +kernel, by decide +kernel⟩
abbrev cx__law_worths (P : Program) (w : World) (K : PySem.W.Frag) (mg : Str → Option Value) (base : Heap) (cdv : Value) (A : Around) (outer : List Env) (s : Shared) (H : Hp) (E : XK) : Cx := cxOf (L2.CX P w) P w K mg base ["steps", "part", "many", "found", "b", "some", "a"] "_law_worths" (defScope s__law_worths) (He.ga K "_law_worths") cdv A outer s H E
theorem fg__law_worths (T : Txt K.K K.T mg base) {fd : FuncData} (F : FunD K.K "_law_worths" "_law_worths" (defArgs s__law_worths) (defBody s__law_worths) (defScope s__law_worths) [] [] (He.ga K.K "_law_worths") fd) : FG P w K mg base 2 (He.ga K "_law_worths") fd ["steps", "part"] (spD K 2 G__law_worths) := by
  refine fg_of F sc__law_worths (fun ds w h => rfl) (fun cdv hcv A outer s H E hr => ?_)
  have nd := (sc__law_worths).nd
  have tk : Takes (cx__law_worths P w K.K mg base cdv A outer s H E) (We E) := takes_of rfl rfl rfl rfl
  have hpo : PassesOwn (model P w) (cx__law_worths P w K.K mg base cdv A outer s H E).A (cx__law_worths P w K.K mg base cdv A outer s H E).env (cx__law_worths P w K.K mg base cdv A outer s H E).xe := passes_of (X := cx__law_worths P w K.K mg base cdv A outer s H E) rfl
  exact ⟨_, (dss_cons (ds_parM false true 2 3 rfl nd (dm_dat (de_len (by rfl) T.z_len (dq_cons (de_var 0) da_nil)) (dm_own (de_lst da_nil) (dm_nil))))
    (dss_cons (ds_for hpo rfl (di_range1 (by rfl) T.z_range (dq_cons (de_add (de_sub (de_var 2) (de_len (by rfl) T.z_len (dq_cons (de_var 1) da_nil))) de_int) da_nil)) (dg_name 4 nd) (dss_one (ds_for hpo rfl (di_seq (de_c (cl__law_sets_of T) hr tk (by decide) (by rfl) (da_cons (de_var 1) da_nil))) (dg_name 5 nd) (dss_cons (ds_set 6 nd (de_len (by rfl) T.z_len (dq_cons (de_var 5) da_nil)))
    (dss_one (ds_app 3 (de_tup (da_cons (de_c (cl__law_edge T) hr tk (by decide) (by rfl) (da_cons (de_var 2) (da_cons (de_var 5) (da_cons (de_ix (de_var 0) (de_sub (de_add (de_var 6) (de_var 4)) de_int)) da_nil)))) (da_cons (de_c (cl__law_low T) hr tk (by decide) (by rfl) (da_cons (de_var 6) (da_cons (de_add (de_var 6) (de_var 4)) da_nil))) da_nil)))))))))
    (dss_one (ds_ret (de_tuple (by rfl) T.z_tuple (dq_cons (de_own 3) da_nil))))))⟩
theorem cl__law_worths (T : Txt K.K K.T mg base) : Cl P w K mg base 2 "_law_worths" 2 G__law_worths := by
  obtain ⟨fd, F⟩ := T.f__law_worths
  exact ⟨fd, _, fg__law_worths T F, T.g__law_worths, F.kp, FunD.bindsN (ps := ["steps", "part"]) F fun _ _ _ _ _ _ us hl => match us, hl with | [_, _], _ => rfl⟩
theorem sc__law_all_sets : FnScope ["many"] ["many"] (defScope s__law_all_sets) := ⟨rfl, rfl, rfl, by decide +kernel, rfl, by decide +kernel, by decide +kernel⟩
abbrev cx__law_all_sets (P : Program) (w : World) (K : PySem.W.Frag) (mg : Str → Option Value) (base : Heap) (cdv : Value) (A : Around) (outer : List Env) (s : Shared) (H : Hp) (E : XK) : Cx := cxOf (L2.CX P w) P w K mg base ["many"] "_law_all_sets" (defScope s__law_all_sets) (He.ga K "_law_all_sets") cdv A outer s H E
theorem fg__law_all_sets (T : Txt K.K K.T mg base) {fd : FuncData} (F : FunD K.K "_law_all_sets" "_law_all_sets" (defArgs s__law_all_sets) (defBody s__law_all_sets) (defScope s__law_all_sets) [] [] (He.ga K.K "_law_all_sets") fd) : FG P w K mg base 2 (He.ga K "_law_all_sets") fd ["many"] (spD K 1 G__law_all_sets) := by
  refine fg_of F sc__law_all_sets (fun ds w h => rfl) (fun cdv hcv A outer s H E hr => ?_)
  have nd := (sc__law_all_sets).nd
  have tk : Takes (cx__law_all_sets P w K.K mg base cdv A outer s H E) (We E) := takes_of rfl rfl rfl rfl
  have hpo : PassesOwn (model P w) (cx__law_all_sets P w K.K mg base cdv A outer s H E).A (cx__law_all_sets P w K.K mg base cdv A outer s H E).env (cx__law_all_sets P w K.K mg base cdv A outer s H E).xe := passes_of (X := cx__law_all_sets P w K.K mg base cdv A outer s H E) rfl
  exact ⟨_, (dss_one (ds_ret (de_c (cl__law_sets_of T) hr tk (by decide) (by rfl) (da_cons (de_listRg1 rfl (by rfl) T.z_list (by rfl) T.z_range (de_var 0)) da_nil))))⟩
theorem cl__law_all_sets (T : Txt K.K K.T mg base) : Cl P w K mg base 2 "_law_all_sets" 1 G__law_all_sets := by
  obtain ⟨fd, F⟩ := T.f__law_all_sets
  exact ⟨fd, _, fg__law_all_sets T F, T.g__law_all_sets, F.kp, FunD.bindsN (ps := ["many"]) F fun _ _ _ _ _ _ us hl => match us, hl with | [_], _ => rfl⟩
theorem sc_first_wrong : FnScope ["row", "most", "is_right", "at", "each"] ["row", "most", "is_right"] (defScope s_first_wrong) := ⟨rfl, rfl, rfl, by decide +kernel, rfl, by decide +kernel, by decide +kernel⟩
abbrev cx_first_wrong (P : Program) (w : World) (K : PySem.W.Frag) (mg : Str → Option Value) (base : Heap) (cdv : Value) (A : Around) (outer : List Env) (s : Shared) (H : Hp) (E : XK) : Cx := cxOf (L2.CX P w) P w K mg base ["row", "most", "is_right", "at", "each"] "first_wrong" (defScope s_first_wrong) (He.ga K "first_wrong") cdv A outer s H E
theorem fl_first_wrong (T : Txt K.K K.T mg base) : FL P w K mg base 0 "first_wrong" 2 G_first_wrong := by
  obtain ⟨fd, F⟩ := T.f_first_wrong
  refine ⟨fd, ["row", "most", "is_right"], ["row", "most", "is_right", "at", "each"], _, _, _, "is_right", F, sc_first_wrong, T.g_first_wrong, F.kp, FunD.bindsN (ps := ["row", "most", "is_right"]) F fun _ _ _ _ _ _ us hl => match us, hl with | [_, _, _], _ => rfl, rfl, rfl, (by first | exact Or.inl rfl | exact Or.inr (Or.inl rfl)), by decide, by decide, fun Gp => ⟨g_first_wrong Gp, fun ds w h => rfl, fun l cdv A outer s H E tac hr act => ?_⟩⟩
  have nd := (sc_first_wrong).nd
  have tk : Takes (cx_first_wrong P w K.K mg base cdv A outer s H E) (We E) := takes_of rfl rfl rfl rfl
  have hpo : PassesOwn (model P w) (cx_first_wrong P w K.K mg base cdv A outer s H E).A (cx_first_wrong P w K.K mg base cdv A outer s H E).env (cx_first_wrong P w K.K mg base cdv A outer s H E).xe := passes_of (X := cx_first_wrong P w K.K mg base cdv A outer s H E) rfl
  exact ⟨_, (dss_cons (ds_for hpo rfl (di_enum (by rfl) T.z_enumerate (da_cons (de_var 0) da_nil)) (dg_tup rfl (dgs_cons (dg_name 3 nd) (dgs_cons (dg_name 4 nd) dgs_nil)) 2) (dss_one (ds_if (DW.dt (dw_or (dt_eq hr.u (de_var 3) (de_var 1)) (dw_or1 (dt_not (dt_truth (de_act act (de_var 4))))))) (dss_one (ds_ret (de_var 3))) dss_nil)))
    (dss_one (ds_ret (de_len (by rfl) T.z_len (dq_cons (de_var 0) da_nil)))))⟩
theorem sc_check_numbers : FnScope ["count", "numbers", "at"] ["count", "numbers"] (defScope s_check_numbers) := ⟨rfl, rfl, rfl, by decide +kernel, rfl, by decide +kernel, by decide +kernel⟩
abbrev cx_check_numbers (P : Program) (w : World) (K : PySem.W.Frag) (mg : Str → Option Value) (base : Heap) (cdv : Value) (A : Around) (outer : List Env) (s : Shared) (H : Hp) (E : XK) : Cx := cxOf (L2.CX P w) P w K mg base ["count", "numbers", "at"] "check_numbers" (defScope s_check_numbers) (He.ga K "check_numbers") cdv A outer s H E
theorem fg_check_numbers (T : Txt K.K K.T mg base) {fd : FuncData} (F : FunD K.K "check_numbers" "check_numbers" (defArgs s_check_numbers) (defBody s_check_numbers) (defScope s_check_numbers) [] [] (He.ga K.K "check_numbers") fd) : FG P w K mg base 5 (He.ga K "check_numbers") fd ["count", "numbers"] (spD K 2 G_check_numbers) := by
  refine fg_of F sc_check_numbers (fun ds w h => rfl) (fun cdv hcv A outer s H E hr => ?_)
  have nd := (sc_check_numbers).nd
  have tk : Takes (cx_check_numbers P w K.K mg base cdv A outer s H E) (We E) := takes_of rfl rfl rfl rfl
  have hpo : PassesOwn (model P w) (cx_check_numbers P w K.K mg base cdv A outer s H E).A (cx_check_numbers P w K.K mg base cdv A outer s H E).env (cx_check_numbers P w K.K mg base cdv A outer s H E).xe := passes_of (X := cx_check_numbers P w K.K mg base cdv A outer s H E) rfl
  exact ⟨_, (dss_cons (ds_if (dt_not (dt_truth (de_c (cl_is_row T) hr tk (by decide) (by rfl) (da_cons (de_var 1) (da_cons (de_var 0) da_nil))))) (dss_one (ds_never)) dss_nil)
    (dss_cons (ds_set 2 nd (de_fnc (k := 3) (fl_first_wrong T) (fun l => cl_is_number T) (hr.mono (by decide)) (by decide) (by decide) tk (by rfl) (da_cons (de_var 1) (da_cons (de_var 0) (da_cons (de_fn (by rfl) T.g_is_number) da_nil)))))
    (dss_one (ds_if (dt_lt hr.u (de_var 2) (de_var 0)) (dss_one (ds_never)) dss_nil))))⟩
theorem cl_check_numbers (T : Txt K.K K.T mg base) : Cl P w K mg base 5 "check_numbers" 2 G_check_numbers := by
  obtain ⟨fd, F⟩ := T.f_check_numbers
  exact ⟨fd, _, fg_check_numbers T F, T.g_check_numbers, F.kp, FunD.bindsN (ps := ["count", "numbers"]) F fun _ _ _ _ _ _ us hl => match us, hl with | [_, _], _ => rfl⟩
theorem sc_check_leading_numbers : FnScope ["numbers"] ["numbers"] (defScope s_check_leading_numbers) := ⟨rfl, rfl, rfl, by decide +kernel, rfl, by decide +kernel, by decide +kernel⟩
abbrev cx_check_leading_numbers (P : Program) (w : World) (K : PySem.W.Frag) (mg : Str → Option Value) (base : Heap) (cdv : Value) (A : Around) (outer : List Env) (s : Shared) (H : Hp) (E : XK) : Cx := cxOf (L2.CX P w) P w K mg base ["numbers"] "check_leading_numbers" (defScope s_check_leading_numbers) (He.ga K "check_leading_numbers") cdv A outer s H E
theorem fg_check_leading_numbers (T : Txt K.K K.T mg base) {fd : FuncData} (F : FunD K.K "check_leading_numbers" "check_leading_numbers" (defArgs s_check_leading_numbers) (defBody s_check_leading_numbers) (defScope s_check_leading_numbers) [] [] (He.ga K.K "check_leading_numbers") fd) : FG P w K mg base 6 (He.ga K "check_leading_numbers") fd ["numbers"] (spD K 1 G_check_leading_numbers) := by
  refine fg_of F sc_check_leading_numbers (fun ds w h => rfl) (fun cdv hcv A outer s H E hr => ?_)
  have nd := (sc_check_leading_numbers).nd
  have tk : Takes (cx_check_leading_numbers P w K.K mg base cdv A outer s H E) (We E) := takes_of rfl rfl rfl rfl
  have hpo : PassesOwn (model P w) (cx_check_leading_numbers P w K.K mg base cdv A outer s H E).A (cx_check_leading_numbers P w K.K mg base cdv A outer s H E).env (cx_check_leading_numbers P w K.K mg base cdv A outer s H E).xe := passes_of (X := cx_check_leading_numbers P w K.K mg base cdv A outer s H E) rfl
  exact ⟨_, (dss_cons (ds_if (dt_not (dt_truth (de_c (cl_tells_count T) hr tk (by decide) (by rfl) (da_cons (de_var 0) da_nil)))) (dss_one (ds_never)) dss_nil)
    (dss_one (ds_drop (de_c (cl_check_numbers T) hr tk (by decide) (by rfl) (da_cons (de_len (by rfl) T.z_len (dq_cons (de_var 0) da_nil)) (da_cons (de_var 0) da_nil))))))⟩
theorem cl_check_leading_numbers (T : Txt K.K K.T mg base) : Cl P w K mg base 6 "check_leading_numbers" 1 G_check_leading_numbers := by
  obtain ⟨fd, F⟩ := T.f_check_leading_numbers
  exact ⟨fd, _, fg_check_leading_numbers T F, T.g_check_leading_numbers, F.kp, FunD.bindsN (ps := ["numbers"]) F fun _ _ _ _ _ _ us hl => match us, hl with | [_], _ => rfl⟩
theorem sc_up_to : FnScope ["numbers", "limit", "at", "number"] ["numbers", "limit"] (defScope s_up_to) := ⟨rfl, rfl, rfl, by decide +kernel, rfl, by decide +kernel, by decide +kernel⟩
abbrev cx_up_to (P : Program) (w : World) (K : PySem.W.Frag) (mg : Str → Option Value) (base : Heap) (cdv : Value) (A : Around) (outer : List Env) (s : Shared) (H : Hp) (E : XK) : Cx := cxOf (L2.CX P w) P w K mg base ["numbers", "limit", "at", "number"] "up_to" (defScope s_up_to) (He.ga K "up_to") cdv A outer s H E
theorem fg_up_to (T : Txt K.K K.T mg base) {fd : FuncData} (F : FunD K.K "up_to" "up_to" (defArgs s_up_to) (defBody s_up_to) (defScope s_up_to) [] [] (He.ga K.K "up_to") fd) : FG P w K mg base 2 (He.ga K "up_to") fd ["numbers", "limit"] (spD K 2 G_up_to) := by
  refine fg_of F sc_up_to (fun ds w h => rfl) (fun cdv hcv A outer s H E hr => ?_)
  have nd := (sc_up_to).nd
  have tk : Takes (cx_up_to P w K.K mg base cdv A outer s H E) (We E) := takes_of rfl rfl rfl rfl
  have hpo : PassesOwn (model P w) (cx_up_to P w K.K mg base cdv A outer s H E).A (cx_up_to P w K.K mg base cdv A outer s H E).env (cx_up_to P w K.K mg base cdv A outer s H E).xe := passes_of (X := cx_up_to P w K.K mg base cdv A outer s H E) rfl
  exact ⟨_, (dss_one (ds_ret (de_tuple (by rfl) T.z_tuple (dq_cons (de_lcIf (own := [("at", 2), ("number", 3)]) rfl nd (di_enum (by rfl) T.z_enumerate (dq_cons (de_var 0) da_nil)) (blkOk_by (by rfl)) (fun _ _ _ _ _ => (dg_tup rfl (dgs_cons (dg_name 2 nd) (dgs_cons (dg_name 3 nd) dgs_nil)) 2)) (fun _ _ _ _ _ => (dt_truth (de_c (cl_is_at_most T) hr takes0 (by decide) (by rfl) (da_cons (de_var 3) (da_cons (de_var 1) da_nil))))) (fun _ _ _ _ _ => (de_var 2))) da_nil))))⟩
theorem cl_up_to (T : Txt K.K K.T mg base) : Cl P w K mg base 2 "up_to" 2 G_up_to := by
  obtain ⟨fd, F⟩ := T.f_up_to
  exact ⟨fd, _, fg_up_to T F, T.g_up_to, F.kp, FunD.bindsN (ps := ["numbers", "limit"]) F fun _ _ _ _ _ _ us hl => match us, hl with | [_, _], _ => rfl⟩
theorem sc_called_up : FnScope ["numbers", "limits", "found", "at", "limit", "within"] ["numbers", "limits"] (defScope s_called_up) := ⟨rfl, rfl, rfl, by decide +kernel, rfl, by decide +kernel, by decide +kernel⟩
abbrev cx_called_up (P : Program) (w : World) (K : PySem.W.Frag) (mg : Str → Option Value) (base : Heap) (cdv : Value) (A : Around) (outer : List Env) (s : Shared) (H : Hp) (E : XK) : Cx := cxOf (L2.CX P w) P w K mg base ["numbers", "limits", "found", "at", "limit", "within"] "called_up" (defScope s_called_up) (He.ga K "called_up") cdv A outer s H E
theorem fg_called_up (T : Txt K.K K.T mg base) {fd : FuncData} (F : FunD K.K "called_up" "called_up" (defArgs s_called_up) (defBody s_called_up) (defScope s_called_up) [] [] (He.ga K.K "called_up") fd) : FG P w K mg base 3 (He.ga K "called_up") fd ["numbers", "limits"] (spD K 2 G_called_up) := by
  refine fg_of F sc_called_up (fun ds w h => rfl) (fun cdv hcv A outer s H E hr => ?_)
  have nd := (sc_called_up).nd
  have tk : Takes (cx_called_up P w K.K mg base cdv A outer s H E) (We E) := takes_of rfl rfl rfl rfl
  have hpo : PassesOwn (model P w) (cx_called_up P w K.K mg base cdv A outer s H E).A (cx_called_up P w K.K mg base cdv A outer s H E).env (cx_called_up P w K.K mg base cdv A outer s H E).xe := passes_of (X := cx_called_up P w K.K mg base cdv A outer s H E) rfl
  exact ⟨_, (dss_cons (ds_set 2 nd (de_tup da_nil))
    (dss_cons (ds_for hpo rfl (di_enum (by rfl) T.z_enumerate (da_cons (de_var 1) da_nil)) (dg_tup rfl (dgs_cons (dg_name 3 nd) (dgs_cons (dg_name 4 nd) dgs_nil)) 2) (dss_cons (ds_set 5 nd (de_c (cl_up_to T) hr tk (by decide) (by rfl) (da_cons (de_var 0) (da_cons (de_var 4) da_nil))))
    (dss_one (ds_if (dt_gt (de_len (by rfl) T.z_len (dq_cons (de_var 5) da_nil)) (de_var 3)) (dss_one (ds_set 2 nd (de_var 5))) dss_nil))))
    (dss_one (ds_ret (de_var 2)))))⟩
theorem cl_called_up (T : Txt K.K K.T mg base) : Cl P w K mg base 3 "called_up" 2 G_called_up := by
  obtain ⟨fd, F⟩ := T.f_called_up
  exact ⟨fd, _, fg_called_up T F, T.g_called_up, F.kp, FunD.bindsN (ps := ["numbers", "limits"]) F fun _ _ _ _ _ _ us hl => match us, hl with | [_, _], _ => rfl⟩
theorem sc_share : FnScope ["numbers", "limits", "lot", "calls", "at"] ["numbers", "limits", "lot"] (defScope s_share) := ⟨rfl, rfl, rfl, by decide +kernel, rfl, by decide +kernel, by decide +kernel⟩
abbrev cx_share (P : Program) (w : World) (K : PySem.W.Frag) (mg : Str → Option Value) (base : Heap) (cdv : Value) (A : Around) (outer : List Env) (s : Shared) (H : Hp) (E : XK) : Cx := cxOf (L2.CX P w) P w K mg base ["numbers", "limits", "lot", "calls", "at"] "share" (defScope s_share) (He.ga K "share") cdv A outer s H E
theorem fg_share (T : Txt K.K K.T mg base) {fd : FuncData} (F : FunD K.K "share" "share" (defArgs s_share) (defBody s_share) (defScope s_share) [] [] (He.ga K.K "share") fd) : FG P w K mg base 7 (He.ga K "share") fd ["numbers", "limits", "lot"] (spD K 3 G_share) := by
  refine fg_of F sc_share (fun ds w h => rfl) (fun cdv hcv A outer s H E hr => ?_)
  have nd := (sc_share).nd
  have tk : Takes (cx_share P w K.K mg base cdv A outer s H E) (We E) := takes_of rfl rfl rfl rfl
  have hpo : PassesOwn (model P w) (cx_share P w K.K mg base cdv A outer s H E).A (cx_share P w K.K mg base cdv A outer s H E).env (cx_share P w K.K mg base cdv A outer s H E).xe := passes_of (X := cx_share P w K.K mg base cdv A outer s H E) rfl
  exact ⟨_, (dss_cons (ds_drop (de_c (cl_check_leading_numbers T) hr tk (by decide) (by rfl) (da_cons (de_var 0) da_nil)))
    (dss_cons (ds_drop (de_c (cl_check_limits T) hr tk (by decide) (by rfl) (da_cons (de_len (by rfl) T.z_len (dq_cons (de_var 0) da_nil)) (da_cons (de_var 1) da_nil))))
    (dss_cons (ds_drop (de_c (cl_check_set T) hr tk (by decide) (by rfl) (da_cons (de_len (by rfl) T.z_len (dq_cons (de_var 0) da_nil)) (da_cons (de_var 2) da_nil))))
    (dss_cons (ds_set 3 nd (de_c (cl_called_up T) hr tk (by decide) (by rfl) (da_cons (de_var 0) (da_cons (de_var 1) da_nil))))
    (dss_cons (ds_if (dt_eq hr.u (de_var 3) (de_tup da_nil)) (dss_one (ds_ret (de_con (by rfl) T.k_NIL))) dss_nil)
    (dss_one (ds_ret (de_c (cl_lowest T) hr tk (by decide) (by rfl) (da_cons (de_len (by rfl) T.z_len (dq_cons (de_lcIf (own := [("at", 4)]) rfl nd (di_seq (de_var 3)) (blkOk_by (by rfl)) (fun _ _ _ _ _ => (dg_name 4 nd)) (fun _ _ _ _ _ => (dt_in hr.u (de_var 4) (de_var 2))) (fun _ _ _ _ _ => (de_var 4))) da_nil)) (da_cons (de_len (by rfl) T.z_len (dq_cons (de_var 3) da_nil)) da_nil))))))))))⟩
theorem cl_share (T : Txt K.K K.T mg base) : Cl P w K mg base 7 "share" 3 G_share := by
  obtain ⟨fd, F⟩ := T.f_share
  exact ⟨fd, _, fg_share T F, T.g_share, F.kp, FunD.bindsN (ps := ["numbers", "limits", "lot"]) F fun _ _ _ _ _ _ us hl => match us, hl with | [_, _, _], _ => rfl⟩
theorem ck_share_0_lot_limits_numbers (T : Txt K.K K.T mg base) : ClK P w K mg base 7 "share" 3 G_share 0 ["lot", "limits", "numbers"] [2, 1, 0] := by
  obtain ⟨fd, F⟩ := T.f_share
  exact ⟨fd, _, fg_share T F, T.g_share, F.kp, FunD.kb (ps := ["numbers", "limits", "lot"]) F fun _ _ _ _ _ _ us ws h1 h2 => match us, ws, h1, h2 with | [], [_, _, _], _, _ => rfl⟩
theorem sc__law_greatest : FnScope ["seen", "steps", "part", "rows", "found", "k", "at", "ends", "row"] ["seen", "steps", "part"] (defScope s__law_greatest) := ⟨rfl, rfl, rfl, by decide +kernel, rfl, by decide +kernel, by decide +kernel⟩
abbrev cx__law_greatest (P : Program) (w : World) (K : PySem.W.Frag) (mg : Str → Option Value) (base : Heap) (cdv : Value) (A : Around) (outer : List Env) (s : Shared) (H : Hp) (E : XK) : Cx := cxOf (L2.CX P w) P w K mg base ["seen", "steps", "part", "rows", "found", "k", "at", "ends", "row"] "_law_greatest" (defScope s__law_greatest) (He.ga K "_law_greatest") cdv A outer s H E
def g__law_greatest : SG :=
  (sSeq (sPar 3 4 (aCons (eLst (aCons (eVar 0) aNil)) (aCons (eTup (aCons (eC (.int 0)) (aCons (eC (.int 1)) aNil))) aNil)))
  (sSeq (sFor (gSeq (eLc (gRng1 (aCons (eCall oLen (aCons (eVar 0) aNil)) aNil)) (bName 6) (eBin oNotIn (eVar 6) (eVar 2)) (eVar 6) [6])) (bName 5) (sSeq (sSet 7 (eLc (gSeq (eVar 3)) (bName 8) eYes (eBin oAdd (eBin oAdd (eSl (eVar 8) pNone (pSome (eVar 5))) (eTup (aCons (eTup (aCons (eC (.int 1)) (aCons (eC (.int 1)) aNil))) aNil))) (eSl (eVar 8) (pSome (eBin oAdd (eVar 5) (eC (.int 1)))) pNone)) [8]))
  (sSet 3 (eBin oAdd (eVar 7) (eLc (gSeq (eVar 3)) (bName 8) eYes (eBin oAdd (eBin oAdd (eSl (eVar 8) pNone (pSome (eVar 5))) (eTup (aCons (eTup (aCons (eC (.int 0)) (aCons (eC (.int 1)) aNil))) aNil))) (eSl (eVar 8) (pSome (eBin oAdd (eVar 5) (eC (.int 1)))) pNone)) [8])))))
  (sSeq (sFor (gSeq (eVar 3)) (bName 8) (sSet 4 (eFn 2 G__law_greater (aCons (eVar 4) (aCons (eFn 3 G_share (aCons (eVar 8) (aCons (eVar 1) (aCons (eVar 2) aNil)))) aNil)))))
  (sRet (eVar 4)))))
def G__law_greatest : List D → Wl → Res := fun ds w => runG 9 g__law_greatest ds w
theorem fg__law_greatest (T : Txt K.K K.T mg base) {fd : FuncData} (F : FunD K.K "_law_greatest" "_law_greatest" (defArgs s__law_greatest) (defBody s__law_greatest) (defScope s__law_greatest) [] [] (He.ga K.K "_law_greatest") fd) : FG P w K mg base 8 (He.ga K "_law_greatest") fd ["seen", "steps", "part"] (spD K 3 G__law_greatest) := by
  refine fg_of F sc__law_greatest (fun ds w h => rfl) (fun cdv hcv A outer s H E hr => ?_)
  have nd := (sc__law_greatest).nd
  have tk : Takes (cx__law_greatest P w K.K mg base cdv A outer s H E) (We E) := takes_of rfl rfl rfl rfl
  have hpo : PassesOwn (model P w) (cx__law_greatest P w K.K mg base cdv A outer s H E).A (cx__law_greatest P w K.K mg base cdv A outer s H E).env (cx__law_greatest P w K.K mg base cdv A outer s H E).xe := passes_of (X := cx__law_greatest P w K.K mg base cdv A outer s H E) rfl
  exact ⟨_, (dss_cons (ds_par 3 4 rfl nd (da_cons (de_lst (da_cons (de_var 0) da_nil)) (da_cons (de_tup (da_cons de_int (da_cons de_int da_nil))) da_nil)))
    (dss_cons (ds_for hpo rfl (di_seq (de_lcIf (own := [("at", 6)]) rfl nd (di_range1 (by rfl) T.z_range (dq_cons (de_len (by rfl) T.z_len (dq_cons (de_var 0) da_nil)) da_nil)) (blkOk_by (by rfl)) (fun _ _ _ _ _ => (dg_name 6 nd)) (fun _ _ _ _ _ => (dt_notin hr.u (de_var 6) (de_var 2))) (fun _ _ _ _ _ => (de_var 6)))) (dg_name 5 nd) (dss_cons (ds_setLc 7 (own := [("row", 8)]) rfl nd (di_seq (de_var 3)) (blkOk_by (by rfl)) (fun _ _ _ _ _ => (dg_name 8 nd)) (fun _ _ _ _ _ => (de_add (de_add (de_slice (de_var 8) dp_none (dp_some (de_var 5))) (de_tup (da_cons (de_tup (da_cons de_int (da_cons de_int da_nil))) da_nil))) (de_slice (de_var 8) (dp_some (de_add (de_var 5) de_int)) dp_none))) (sw_true rfl rfl rfl (by decide +kernel)))
    (dss_one (ds_set 3 nd (de_add (de_var 7) (de_lc (own := [("row", 8)]) rfl nd (di_seq (de_var 3)) (blkOk_by (by rfl)) (fun _ _ _ _ _ => (dg_name 8 nd)) (fun _ _ _ _ _ => (de_add (de_add (de_slice (de_var 8) dp_none (dp_some (de_var 5))) (de_tup (da_cons (de_tup (da_cons de_int (da_cons de_int da_nil))) da_nil))) (de_slice (de_var 8) (dp_some (de_add (de_var 5) de_int)) dp_none)))))))))
    (dss_cons (ds_for hpo rfl (di_seq (de_var 3)) (dg_name 8 nd) (dss_one (ds_set 4 nd (de_c (cl__law_greater T) hr tk (by decide) (by rfl) (da_cons (de_var 4) (da_cons (de_c (cl_share T) hr tk (by decide) (by rfl) (da_cons (de_var 8) (da_cons (de_var 1) (da_cons (de_var 2) da_nil)))) da_nil))))))
    (dss_one (ds_ret (de_var 4))))))⟩
theorem cl__law_greatest (T : Txt K.K K.T mg base) : Cl P w K mg base 8 "_law_greatest" 3 G__law_greatest := by
  obtain ⟨fd, F⟩ := T.f__law_greatest
  exact ⟨fd, _, fg__law_greatest T F, T.g__law_greatest, F.kp, FunD.bindsN (ps := ["seen", "steps", "part"]) F fun _ _ _ _ _ _ us hl => match us, hl with | [_, _, _], _ => rfl⟩
theorem sc__law_right : FnScope ["well", "many", "steps", "part", "seen", "due", "told", "most", "less", "mark"] ["well"] (defScope s__law_right) := ⟨rfl, rfl, rfl, by decide +kernel, rfl, by decide +kernel, by decide +kernel⟩
abbrev cx__law_right (P : Program) (w : World) (K : PySem.W.Frag) (mg : Str → Option Value) (base : Heap) (cdv : Value) (A : Around) (outer : List Env) (s : Shared) (H : Hp) (E : XK) : Cx := cxOf (L2.CX P w) P w K mg base ["well", "many", "steps", "part", "seen", "due", "told", "most", "less", "mark"] "_law_right" (defScope s__law_right) (He.ga K "_law_right") cdv A outer s H E
def g__law_right : SG :=
  (sSeq (sSet 1 (eFn 2 G__law_pick (aCons (eVar 0) (aCons (eTup (aCons (eC (.int 3)) (aCons (eC (.int 2)) (aCons (eC (.int 4)) (aCons (eC (.int 3)) (aCons (eC (.int 5)) (aCons (eC (.int 1)) aNil))))))) aNil))))
  (sSeq (sPar 2 3 (aCons (eFn 2 G__law_steps (aCons (eVar 0) (aCons (eVar 1) aNil))) (aCons (eFn 2 G__law_pick (aCons (eVar 0) (aCons (eFn 1 G__law_all_sets (aCons (eVar 1) aNil)) aNil))) aNil)))
  (sSeq (sSet 4 (eFn 3 G__law_marks (aCons (eVar 0) (aCons (eVar 1) (aCons (eCall oLst (aCons (eVar 2) aNil)) aNil)))))
  (sSeq (sPar 5 6 (aCons (eFn 3 G__law_share (aCons (eVar 4) (aCons (eVar 2) (aCons (eVar 3) aNil)))) (aCons (eFn 2 G_share_worths (aCons (eVar 2) (aCons (eVar 3) aNil))) aNil)))
  (sSeq (sIf (eBin oNe (eCall oRepr (aCons (eLst (aCons (eFn 3 G_share (aCons (eVar 4) (aCons (eVar 2) (aCons (eVar 3) aNil)))) (aCons (eFnK 0 3 [2, 1, 0] G_share aNil (aCons (eVar 3) (aCons (eVar 2) (aCons (eVar 4) aNil)))) aNil))) aNil)) (eCall oRepr (aCons (eLst (aCons (eVar 5) (aCons (eVar 5) aNil))) aNil))) (sRet (eC (.bl false))) sPass)
  (sSeq (sIf (eBin oNe (eCall oRepr (aCons (eLst (aCons (eVar 6) (aCons (eFnK 0 2 [1, 0] G_share_worths aNil (aCons (eVar 3) (aCons (eVar 2) aNil))) aNil))) aNil)) (eCall oRepr (aCons (eBin oMulL (eLst (aCons (eFn 2 G__law_worths (aCons (eVar 2) (aCons (eVar 3) aNil))) aNil)) (eC (.int 2))) aNil))) (sRet (eC (.bl false))) sPass)
  (sSeq (sSet 7 (eFn 2 G__law_worth_at (aCons (eFn 2 G__law_worths (aCons (eVar 2) (aCons (eVar 3) aNil))) (aCons (eVar 4) aNil))))
  (sSeq (sIf (eOr (eUn oTru (eFn 2 G__law_below (aCons (eVar 7) (aCons (eVar 5) aNil)))) (eBin oNe (eCall oRepr (aCons (eFn 3 G__law_greatest (aCons (eVar 4) (aCons (eVar 2) (aCons (eVar 3) aNil)))) aNil)) (eCall oRepr (aCons (eVar 7) aNil)))) (sRet (eC (.bl false))) sPass)
  (sSeq (sSet 8 (eCall oTup (aCons (eLc (gSeq (eVar 4)) (bName 9) eYes (eFn 2 G__law_mul (aCons (eVar 9) (aCons (eFn 2 G__law_pick (aCons (eVar 0) (aCons (eTup (aCons (eTup (aCons (eC (.int 1)) (aCons (eC (.int 1)) aNil))) (aCons (eTup (aCons (eC (.int 1)) (aCons (eC (.int 2)) aNil))) (aCons (eTup (aCons (eC (.int 0)) (aCons (eC (.int 1)) aNil))) (aCons (eTup (aCons (eC (.int 9)) (aCons (eC (.int 10)) aNil))) aNil))))) aNil))) aNil))) [9]) aNil)))
  (sRet (eNot (eFn 2 G__law_below (aCons (eFn 2 G__law_worth_at (aCons (eVar 6) (aCons (eVar 8) aNil))) (aCons (eVar 7) aNil))))))))))))))
def G__law_right : List D → Wl → Res := fun ds w => runG 10 g__law_right ds w
theorem fg__law_right (T : Txt K.K K.T mg base) {fd : FuncData} (F : FunD K.K "_law_right" "_law_right" (defArgs s__law_right) (defBody s__law_right) (defScope s__law_right) [] [] (He.ga K.K "_law_right") fd) : FG P w K mg base 9 (He.ga K "_law_right") fd ["well"] (spD K 1 G__law_right) := by
  refine fg_of F sc__law_right (fun ds w h => rfl) (fun cdv hcv A outer s H E hr => ?_)
  have nd := (sc__law_right).nd
  have tk : Takes (cx__law_right P w K.K mg base cdv A outer s H E) (We E) := takes_of rfl rfl rfl rfl
  have hpo : PassesOwn (model P w) (cx__law_right P w K.K mg base cdv A outer s H E).A (cx__law_right P w K.K mg base cdv A outer s H E).env (cx__law_right P w K.K mg base cdv A outer s H E).xe := passes_of (X := cx__law_right P w K.K mg base cdv A outer s H E) rfl
  exact ⟨_, (dss_cons (ds_set 1 nd (de_c (cl__law_pick T) hr tk (by decide) (by rfl) (da_cons (de_var 0) (da_cons (de_tup (da_cons de_int (da_cons de_int (da_cons de_int (da_cons de_int (da_cons de_int (da_cons de_int da_nil))))))) da_nil))))
    (dss_cons (ds_par 2 3 rfl nd (da_cons (de_c (cl__law_steps T) hr tk (by decide) (by rfl) (da_cons (de_var 0) (da_cons (de_var 1) da_nil))) (da_cons (de_c (cl__law_pick T) hr tk (by decide) (by rfl) (da_cons (de_var 0) (da_cons (de_c (cl__law_all_sets T) hr tk (by decide) (by rfl) (da_cons (de_var 1) da_nil)) da_nil))) da_nil)))
    (dss_cons (ds_set 4 nd (de_c (cl__law_marks T) hr tk (by decide) (by rfl) (da_cons (de_var 0) (da_cons (de_var 1) (da_cons (de_list (by rfl) T.z_list (dq_cons (de_var 2) da_nil)) da_nil)))))
    (dss_cons (ds_par 5 6 rfl nd (da_cons (de_c (cl__law_share T) hr tk (by decide) (by rfl) (da_cons (de_var 4) (da_cons (de_var 2) (da_cons (de_var 3) da_nil)))) (da_cons (de_c (cl_share_worths T) hr tk (by decide) (by rfl) (da_cons (de_var 2) (da_cons (de_var 3) da_nil))) da_nil)))
    (dss_cons (ds_if (dt_ne hr.u (de_repr hr (by rfl) T.z_repr (dq_cons (de_lst (da_cons (de_c (cl_share T) hr tk (by decide) (by rfl) (da_cons (de_var 4) (da_cons (de_var 2) (da_cons (de_var 3) da_nil)))) (da_cons (de_cK0 (ck_share_0_lot_limits_numbers T) hr tk (by decide) (by rfl) (dk_cons (de_var 3) (dk_cons (de_var 2) (dk_cons (de_var 4) dk_nil)))) da_nil))) da_nil)) (de_repr hr (by rfl) T.z_repr (dq_cons (de_lst (da_cons (de_var 5) (da_cons (de_var 5) da_nil))) da_nil))) (dss_one (ds_ret de_bl)) dss_nil)
    (dss_cons (ds_if (dt_ne hr.u (de_repr hr (by rfl) T.z_repr (dq_cons (de_lst (da_cons (de_var 6) (da_cons (de_cK0 (ck_share_worths_0_lot_limits T) hr tk (by decide) (by rfl) (dk_cons (de_var 3) (dk_cons (de_var 2) dk_nil))) da_nil))) da_nil)) (de_repr hr (by rfl) T.z_repr (dq_cons (de_mulL (de_lst (da_cons (de_c (cl__law_worths T) hr tk (by decide) (by rfl) (da_cons (de_var 2) (da_cons (de_var 3) da_nil))) da_nil)) de_int) da_nil))) (dss_one (ds_ret de_bl)) dss_nil)
    (dss_cons (ds_set 7 nd (de_c (cl__law_worth_at T) hr tk (by decide) (by rfl) (da_cons (de_c (cl__law_worths T) hr tk (by decide) (by rfl) (da_cons (de_var 2) (da_cons (de_var 3) da_nil))) (da_cons (de_var 4) da_nil))))
    (dss_cons (ds_if (DW.dt (dw_or (dt_truth (de_c (cl__law_below T) hr tk (by decide) (by rfl) (da_cons (de_var 7) (da_cons (de_var 5) da_nil)))) (dw_or1 (dt_ne hr.u (de_repr hr (by rfl) T.z_repr (dq_cons (de_c (cl__law_greatest T) hr tk (by decide) (by rfl) (da_cons (de_var 4) (da_cons (de_var 2) (da_cons (de_var 3) da_nil)))) da_nil)) (de_repr hr (by rfl) T.z_repr (dq_cons (de_var 7) da_nil)))))) (dss_one (ds_ret de_bl)) dss_nil)
    (dss_cons (ds_set 8 nd (de_tuple (by rfl) T.z_tuple (dq_cons (de_lc (own := [("mark", 9)]) rfl nd (di_seq (de_var 4)) (blkOk_by (by rfl)) (fun _ _ _ _ _ => (dg_name 9 nd)) (fun _ _ _ _ _ => (de_c (cl__law_mul T) hr takes0 (by decide) (by rfl) (da_cons (de_var 9) (da_cons (de_c (cl__law_pick T) hr takes0 (by decide) (by rfl) (da_cons (de_var 0) (da_cons (de_tup (da_cons (de_tup (da_cons de_int (da_cons de_int da_nil))) (da_cons (de_tup (da_cons de_int (da_cons de_int da_nil))) (da_cons (de_tup (da_cons de_int (da_cons de_int da_nil))) (da_cons (de_tup (da_cons de_int (da_cons de_int da_nil))) da_nil))))) da_nil))) da_nil))))) da_nil)))
    (dss_one (ds_ret (de_not (de_c (cl__law_below T) hr tk (by decide) (by rfl) (da_cons (de_c (cl__law_worth_at T) hr tk (by decide) (by rfl) (da_cons (de_var 6) (da_cons (de_var 8) da_nil))) (da_cons (de_var 7) da_nil)))))))))))))))⟩
theorem cl__law_right (T : Txt K.K K.T mg base) : Cl P w K mg base 9 "_law_right" 1 G__law_right := by
  obtain ⟨fd, F⟩ := T.f__law_right
  exact ⟨fd, _, fg__law_right T F, T.g__law_right, F.kp, FunD.bindsN (ps := ["well"]) F fun _ _ _ _ _ _ us hl => match us, hl with | [_], _ => rfl⟩
theorem sc__law_well : FnScope ["script", "lap", "own", "stir", "each"] ["script", "lap"] (defScope s__law_well) := ⟨rfl, rfl, rfl, by decide +kernel, rfl, by decide +kernel, by decide +kernel⟩
abbrev cx__law_well (P : Program) (w : World) (K : PySem.W.Frag) (mg : Str → Option Value) (base : Heap) (cdv : Value) (A : Around) (outer : List Env) (s : Shared) (H : Hp) (E : XK) : Cx := cxOf (L2.CX P w) P w K mg base ["script", "lap", "own", "stir", "each"] "_law_well" (defScope s__law_well) (He.ga K "_law_well") cdv A outer s H E
theorem fg__law_well (T : Txt K.K K.T mg base) {fd : FuncData} (F : FunD K.K "_law_well" "_law_well" (defArgs s__law_well) (defBody s__law_well) (defScope s__law_well) [] [] (He.ga K.K "_law_well") fd) : FG P w K mg base 1 (He.ga K "_law_well") fd ["script", "lap"] (spN K 2 G__law_well) := by
  refine fg_ofN F sc__law_well (fun ds w h => rfl) (fun cdv hcv A outer s H E hr => ?_)
  have nd := (sc__law_well).nd
  have tk : Takes (cx__law_well P w K.K mg base cdv A outer s H E) (We E) := takes_of rfl rfl rfl rfl
  have hpo : PassesOwn (model P w) (cx__law_well P w K.K mg base cdv A outer s H E).A (cx__law_well P w K.K mg base cdv A outer s H E).env (cx__law_well P w K.K mg base cdv A outer s H E).xe := passes_of (X := cx__law_well P w K.K mg base cdv A outer s H E) rfl
  exact ⟨_, (dss_cons (ds_set 2 nd (de_if (dt_lt hr.u (de_var 1) (de_len (by rfl) T.z_len (dq_cons (de_var 0) da_nil))) (de_intOf (by rfl) T.z_int (dq_cons (de_ix (de_var 0) (de_var 1)) da_nil)) (de_add (de_add (de_mul de_int (de_var 1)) de_int) (de_mod (de_intOf (by rfl) T.z_int (dq_cons (de_sum rfl (by rfl) T.z_sum (dq_cons (de_slice (de_var 0) dp_none (dp_some de_int)) da_nil)) da_nil)) de_int))))
    (dss_cons (ds_set 3 nd (de_add de_int (de_mul de_int (de_var 1))))
    (dss_cons (ds_for hpo rfl (di_seq (de_add (de_slice (de_var 0) dp_none (dp_some de_int)) (de_lst (da_cons (de_var 2) da_nil)))) (dg_name 4 nd) (dss_one (ds_set 3 nd (de_mod (de_intOf (by rfl) T.z_int (dq_cons (de_add (de_add (de_mul (de_var 3) de_int) (de_mod (de_intOf (by rfl) T.z_int (dq_cons (de_var 4) da_nil)) de_int)) de_int) da_nil)) de_int))))
    (dss_one (ds_retF (de_lst (da_cons (de_if (DW.dt (dw_or (dt_ge (de_var 2) (de_pow de_int de_int)) (dw_or1 (dt_le (de_var 2) (de_sub de_int (de_pow de_int de_int)))))) (de_abs (by rfl) T.z_abs (dq_cons (de_var 2) da_nil)) de_int) (da_cons (de_var 3) (da_cons de_int da_nil)))))))))⟩
theorem cln__law_well (T : Txt K.K K.T mg base) : ClN P w K mg base 1 "_law_well" 2 G__law_well := by
  obtain ⟨fd, F⟩ := T.f__law_well
  exact ⟨fd, _, fg__law_well T F, T.g__law_well, F.kp, FunD.bindsN (ps := ["script", "lap"]) F fun _ _ _ _ _ _ us hl => match us, hl with | [_, _], _ => rfl⟩
theorem sc_law : FnScope ["script", "lap"] ["script"] (defScope s_law) := ⟨rfl, rfl, rfl, by decide +kernel, rfl, by decide +kernel, by decide +kernel⟩
abbrev cx_law (P : Program) (w : World) (K : PySem.W.Frag) (mg : Str → Option Value) (base : Heap) (cdv : Value) (A : Around) (outer : List Env) (s : Shared) (H : Hp) (E : XK) : Cx := cxOf (L2.CX P w) P w K mg base ["script", "lap"] "law" (defScope s_law) (He.ga K "law") cdv A outer s H E
def g_law : SG :=
  (sRet (eCall oAll (aCons (eLc (gRng1 (aCons (eC (.int 2)) aNil)) (bName 1) eYes (eWell 2 G__law_right G__law_well (aCons (eVar 0) (aCons (eVar 1) aNil))) [1]) aNil)))
def G_law : List D → Wl → Res := fun ds w => runG 2 g_law ds w
theorem fg_law (T : Txt K.K K.T mg base) {fd : FuncData} (F : FunD K.K "law" "law" (defArgs s_law) (defBody s_law) (defScope s_law) [] [] (He.ga K.K "law") fd) : FG P w K mg base 10 (He.ga K "law") fd ["script"] (spD K 1 G_law) := by
  refine fg_of F sc_law (fun ds w h => rfl) (fun cdv hcv A outer s H E hr => ?_)
  have nd := (sc_law).nd
  have tk : Takes (cx_law P w K.K mg base cdv A outer s H E) (We E) := takes_of rfl rfl rfl rfl
  have hpo : PassesOwn (model P w) (cx_law P w K.K mg base cdv A outer s H E).A (cx_law P w K.K mg base cdv A outer s H E).env (cx_law P w K.K mg base cdv A outer s H E).xe := passes_of (X := cx_law P w K.K mg base cdv A outer s H E) rfl
  exact ⟨_, (dss_one (ds_ret (de_all rfl (by rfl) T.z_all (dq_cons (de_lc (own := [("lap", 1)]) rfl nd (di_range1 (by rfl) T.z_range (dq_cons de_int da_nil)) (blkOk_by (by rfl)) (fun _ _ _ _ _ => (dg_name 1 nd)) (fun _ _ _ _ _ => (de_well (cl__law_right T) (cln__law_well T) hr takes0 (by decide) (by decide) (by rfl) (by rfl) (da_cons (de_var 0) (da_cons (de_var 1) da_nil))))) da_nil))))⟩
end K41

namespace K41
open PySem PySem.Spec L2 DL PF LV
open PyProof.Rows hiding St
variable {P : Program} {w : World} {K : Kt} {mg : Str → Option Value} {base : Heap}
theorem ob_eq (s : PySem.W.SharedT) : ob s = hk.obs s.abs := obsL_eq (HandSHeadRun.getT_eq s)
end K41

set_option exponentiation.threshold 20000
/-! Typed models of printed functions: what stands for typed things, and what each piece of a printed function answers. -/
namespace MD
open PySem PySem.Spec L2 DL PF
open LV (encR IsR isR)
open PyProof.Rows hiding St
/-! ### what stands for typed things -/
/-- a fraction of the program: a pair, or a constant one of the module -/
structure KR where
  c : Bool
  q : Rat
instance : Inhabited KR := ⟨⟨false, 0⟩⟩
def eK : KR → D
  | ⟨true, q⟩ => .con [.int q.num, .int q.den]
  | ⟨false, q⟩ => encR q
abbrev KR.r (q : Rat) : KR := ⟨false, q⟩
abbrev kNil : KR := ⟨true, 0⟩
abbrev kOne : KR := ⟨true, 1⟩
theorem isK (k : KR) : IsR (eK k) k.q := by
  obtain ⟨c, q⟩ := k
  cases c
  · exact .inl rfl
  · exact .inr rfl
def eN (_ : Unit) : D := .non
def eO {α : Type} (e : α → D) : Option α → D
  | none => .non
  | some x => e x
def eT {α : Type} (e : α → D) (xs : List α) : D := .tup (xs.map e)
def eL {α : Type} (e : α → D) (xs : List α) : D := .lst (xs.map e)
def eP {α β : Type} (e : α → D) (e2 : β → D) (p : α × β) : D := .tup [e p.1, e2 p.2]
/-! ### one kind taken for another -/
section
variable {α β γ δ : Type} {e : α → D} {e2 : β → D} {e3 : γ → D} {e4 : δ → D} {w w1 w2 : Wl} {en : List Sl}
theorem castE {d d' : D} {r : Res} (h : d = d') (p : r = .ok d w) : r = .ok d' w := h ▸ p
theorem castB {c b : Bool} {r : Res} (h : c = b) (p : r = .ok (.bl c) w) : r = .ok (.bl b) w := h ▸ p
theorem coT {c : α → β} (h : ∀ x, e x = e2 (c x)) (xs : List α) : eT e xs = eT e2 (xs.map c) := by
  unfold eT
  rw [List.map_map]
  congr 1
  exact List.map_congr_left fun x _ => h x
/-! ### operators -/
variable {g ga gb gc : EG} {i j : Int} {x y : α}
theorem sub_ev (h1 : ga en w = .ok (.int i) w1) (h2 : gb en w1 = .ok (.int j) w2) : eBin oSub ga gb en w = .ok (.int (i - j)) w2 := (bin_ev h1 h2).trans rfl
theorem fdivS_ev (h1 : ga en w = .ok (.int i) w1) (h2 : gb en w1 = .ok (.int j) w2) (h : CDivW i j) : eBin oFdiv ga gb en w = .ok (.int (i / j)) w2 := by
  refine (bin_ev h1 h2).trans ?_
  show (if decide (CDivW i j) = true then Res.ok (.int (i / j)) w2 else .bad) = _
  rw [if_pos (decide_eq_true h)]
theorem lt_ev (h1 : ga en w = .ok (.int i) w1) (h2 : gb en w1 = .ok (.int j) w2) : eBin oLt ga gb en w = .ok (.bl (decide (i < j))) w2 := (bin_ev h1 h2).trans (oLt_int _ _)
/-- which of a kind are told apart by what stands for them -/
structure Eqv (α : Type) [DecidableEq α] (e : α → D) : Prop where
  eqs : Eqs e
  shp : ∃ k, k ≤ 60 ∧ ∀ x, Shp k (e x)
theorem eqv_int : Eqv Int D.int := ⟨eqs_int, 0, by omega, fun x => shp_int x 0⟩
theorem eqv_rat : Eqv Rat encR := ⟨LV.eqs_rat, 1, by omega, fun q => LV.shp_rat q 0⟩
theorem eqv_isT : Eqv IS (eT D.int) := ⟨eqs_set, 1, by omega, shp_set⟩
theorem eqv_rL : Eqv (List Rat) (eL encR) := ⟨LV.eqs_rat.lst, 2, by omega, fun s => shp_lst (shp_map (fun x => LV.shp_rat x 0) s)⟩
theorem eqE [DecidableEq α] (he : Eqv α e) (h1 : ga en w = .ok (e x) w1) (h2 : gb en w1 = .ok (e y) w2) : eBin oEq ga gb en w = .ok (.bl (decide (x = y))) w2 := by
  obtain ⟨k, hk, hs⟩ := he.shp
  exact (bin_ev h1 h2).trans (oEq_ev he.eqs x y (hs x) (hs y) (by omega) (by omega))
theorem neE [DecidableEq α] (he : Eqv α e) (h1 : ga en w = .ok (e x) w1) (h2 : gb en w1 = .ok (e y) w2) : eBin oNe ga gb en w = .ok (.bl (!decide (x = y))) w2 := by
  obtain ⟨k, hk, hs⟩ := he.shp
  exact (bin_ev h1 h2).trans (oNe_ev he.eqs x y (hs x) (hs y) (by omega) (by omega))
theorem eqKE {k l : KR} (h1 : ga en w = .ok (eK k) w1) (h2 : gb en w1 = .ok (eK l) w2) : eBin oEq ga gb en w = .ok (.bl (decide (k.q = l.q))) w2 := (bin_ev h1 h2).trans (LV.eqR_ev (isK k) (isK l))
theorem inT [DecidableEq α] {xs : List α} [dm : Decidable (x ∈ xs)] (he : Eqv α e) (h1 : ga en w = .ok (e x) w1) (h2 : gb en w1 = .ok (eT e xs) w2) : eBin oIn ga gb en w = .ok (.bl (decide (x ∈ xs))) w2 := by
  obtain ⟨k, hk, hs⟩ := he.shp
  refine ((bin_ev h1 h2).trans (oInT_ev he.eqs x xs hs (by omega))).trans ?_
  rw [show @decide (x ∈ xs) dm = decide (x ∈ xs) from decide_eq_decide.mpr Iff.rfl]
theorem notinT [DecidableEq α] {xs : List α} [dm : Decidable (x ∈ xs)] (he : Eqv α e) (h1 : ga en w = .ok (e x) w1) (h2 : gb en w1 = .ok (eT e xs) w2) : eBin oNotIn ga gb en w = .ok (.bl (!decide (x ∈ xs))) w2 := by
  obtain ⟨k, hk, hs⟩ := he.shp
  refine ((bin_ev h1 h2).trans (oNotInT_ev he.eqs x xs hs (by omega))).trans ?_
  rw [show @decide (x ∈ xs) dm = decide (x ∈ xs) from decide_eq_decide.mpr Iff.rfl]
/-! ### None -/
theorem notN_ev {x : Option α} (hn : ∀ y, (e y).isN = false) (h1 : g en w = .ok (eO e x) w1) : eBin oNot g (eC .non) en w = .ok (.bl x.isSome) w1 := by
  refine (bin_ev h1 (show eC .non en w1 = .ok .non w1 from rfl)).trans ?_
  show Res.ok (.bl (!D.isN (eO e x))) w1 = _
  cases x
  · rfl
  · rw [show eO e (some _) = e _ from rfl, hn]; rfl
theorem isN_K (k : KR) : (eK k).isN = false := by
  obtain ⟨c, q⟩ := k
  cases c <;> rfl
theorem nar {x : Option α} {y : α} (h1 : g en w = .ok (eO e x) w1) (h : x = some y) : g en w = .ok (e y) w1 := by
  rw [h1, h]; rfl
/-! ### and, or, not, if -/
variable {c d : Bool}
theorem andE (h1 : ga en w = .ok (.bl c) w1) (h2 : c = true → gb en w1 = .ok (.bl d) w1) : eAnd ga gb en w = .ok (.bl (c && d)) w1 := by
  cases c
  · exact and_F h1
  · exact (and_T h1).trans (h2 rfl)
theorem orE (h1 : ga en w = .ok (.bl c) w1) (h2 : c = false → gb en w1 = .ok (.bl d) w1) : eOr ga gb en w = .ok (.bl (c || d)) w1 := by
  cases c
  · exact (or_F h1).trans (h2 rfl)
  · exact or_T h1
theorem ifE {a b : α} (h1 : gc en w = .ok (.bl c) w1) (h2 : c = true → ga en w1 = .ok (e a) w1) (h3 : c = false → gb en w1 = .ok (e b) w1) : eIf gc ga gb en w = .ok (e (bif c then a else b)) w1 := by
  cases c
  · exact (if_F h1).trans (h3 rfl)
  · exact (if_T h1).trans (h2 rfl)
theorem andW (h1 : ga en w = .ok (.bl c) w1) (h2 : c = true → gb en w1 = .ok (.bl d) w2) : eAnd ga gb en w = .ok (.bl (c && d)) (bif c then w2 else w1) := by
  cases c
  · exact and_F h1
  · exact (and_T h1).trans (h2 rfl)
def orN {α : Type} (x : Option α) (p : α → Bool) : Bool := match x with | none => true | some y => p y
def andN {α : Type} (x : Option α) (p : α → Bool) : Bool := match x with | none => false | some y => p y
theorem andNE {x : Option α} {p : α → Bool} (h1 : ga en w = .ok (.bl x.isSome) w1) (h2 : ∀ y, x = some y → gb en w1 = .ok (.bl (p y)) w1) : eAnd ga gb en w = .ok (.bl (andN x p)) w1 := by
  cases x
  · exact and_F h1
  · exact (and_T h1).trans (h2 _ rfl)
/-! ### places -/
def ixI {α : Type} [Inhabited α] (xs : List α) (i : Int) : α := xs.getD i.toNat default
theorem ixI_get [Inhabited α] {xs : List α} (h0 : 0 ≤ i) (h1 : i < xs.length) : xs[i.toNat]? = some (ixI xs i) := by
  unfold ixI
  rw [List.getD_eq_getElem?_getD, List.getElem?_eq_getElem (by omega)]
  rfl
theorem ixT [Inhabited α] {xs : List α} (h1 : ga en w = .ok (eT e xs) w1) (h2 : gb en w1 = .ok (.int i) w2) (h : 0 ≤ i ∧ i < xs.length) : eBin oIx ga gb en w = .ok (e (ixI xs i)) w2 := by
  have := LW.ix_tup e (ixI_get h.1 h.2) w2
  rw [Int.toNat_of_nonneg h.1] at this
  exact (bin_ev h1 h2).trans this
theorem ixL [Inhabited α] {xs : List α} (h1 : ga en w = .ok (eL e xs) w1) (h2 : gb en w1 = .ok (.int i) w2) (h : 0 ≤ i ∧ i < xs.length) : eBin oIx ga gb en w = .ok (e (ixI xs i)) w2 := by
  have := LW.ix_lst e (ixI_get h.1 h.2) w2
  rw [Int.toNat_of_nonneg h.1] at this
  exact (bin_ev h1 h2).trans this
theorem ixR0 {q : Rat} (h : g en w = .ok (encR q) w1) : eBin oIx g (eC (.int 0)) en w = .ok (.int q.num) w1 := LV.num_ev h (isR q)
theorem ixR1 {q : Rat} (h : g en w = .ok (encR q) w1) : eBin oIx g (eC (.int 1)) en w = .ok (.int (q.den : Nat)) w1 := LV.den_ev h (isR q)
theorem ixK0 {q : KR} (h : g en w = .ok (eK q) w1) : eBin oIx g (eC (.int 0)) en w = .ok (.int q.q.num) w1 := LV.num_ev h (isK q)
theorem ixK1 {q : KR} (h : g en w = .ok (eK q) w1) : eBin oIx g (eC (.int 1)) en w = .ok (.int (q.q.den : Nat)) w1 := LV.den_ev h (isK q)
def slI {α : Type} (xs : List α) (lo hi : Option Int) : List α := (xs.drop (HT.sIx xs.length 0 lo)).take (HT.sIx xs.length xs.length hi - HT.sIx xs.length 0 lo)
theorem cutD_map (xs : List α) (lo hi : Option Int) : DL.cutD (xs.map e) lo hi = (slI xs lo hi).map e := by
  unfold DL.cutD slI
  rw [List.map_take, List.map_drop, List.length_map]
def PrI (gp : List Sl → Wl → PR) (en : List Sl) (w w1 : Wl) (o : Option Int) : Prop := gp en w = .ok o w1
theorem prN : PrI pNone en w w none := rfl
theorem prS (h : g en w = .ok (.int i) w1) : PrI (pSome g) en w w1 (some i) := by
  unfold PrI pSome
  rw [h]
theorem slT {xs : List α} {gl gh : List Sl → Wl → PR} {w3 : Wl} {lo hi : Option Int} (h : g en w = .ok (eT e xs) w1) (hl : PrI gl en w1 w2 lo) (hh : PrI gh en w2 w3 hi) : eSl g gl gh en w = .ok (eT e (slI xs lo hi)) w3 := by
  unfold PrI at hl hh
  unfold eSl
  rw [h]
  unfold eT
  simp only [Res.bind, hl, hh, cutD_map]
theorem slL {xs : List α} {gl gh : List Sl → Wl → PR} {w3 : Wl} {lo hi : Option Int} (h : g en w = .ok (eL e xs) w1) (hl : PrI gl en w1 w2 lo) (hh : PrI gh en w2 w3 hi) : eSl g gl gh en w = .ok (eL e (slI xs lo hi)) w3 := by
  unfold PrI at hl hh
  unfold eSl
  rw [h]
  unfold eL
  simp only [Res.bind, hl, hh, cutD_map]
/-! ### adding -/
theorem catT {xs ys : List α} (h1 : ga en w = .ok (eT e xs) w1) (h2 : gb en w1 = .ok (eT e ys) w2) (h : xs.length + ys.length ≤ sizeLine) : eBin oAdd ga gb en w = .ok (eT e (xs ++ ys)) w2 := by
  have := addT_ev (xs := xs.map e) (ys := ys.map e) h1 h2 (by simpa using h)
  rwa [← List.map_append] at this
theorem catL {xs ys : List α} (h1 : ga en w = .ok (eL e xs) w1) (h2 : gb en w1 = .ok (eL e ys) w2) (h : xs.length + ys.length ≤ sizeLine) : eBin oAdd ga gb en w = .ok (eL e (xs ++ ys)) w2 := by
  have := addL_ev (xs := xs.map e) (ys := ys.map e) h1 h2 (by simpa using h)
  rwa [← List.map_append] at this
/-! ### calls of built-in functions -/
theorem lenT {xs : List α} (h : g en w = .ok (eT e xs) w1) : eCall oLen (aCons g aNil) en w = .ok (.int xs.length) w1 := by
  have := lenT_ev (ds := xs.map e) h
  rwa [List.length_map] at this
theorem lenL {xs : List α} (h : g en w = .ok (eL e xs) w1) : eCall oLen (aCons g aNil) en w = .ok (.int xs.length) w1 := by
  have := len_ev (ds := xs.map e) h
  rwa [List.length_map] at this
theorem tupL {xs : List α} (h : g en w = .ok (eL e xs) w1) : eCall oTup (aCons g aNil) en w = .ok (eT e xs) w1 := (call_ev (one_ev h)).trans rfl
theorem lstT {xs : List α} (h : g en w = .ok (eT e xs) w1) : eCall oLst (aCons g aNil) en w = .ok (eL e xs) w1 := (call_ev (one_ev h)).trans rfl
theorem allInts_map : ∀ xs : List Int, allInts (xs.map D.int) = some xs
  | [] => rfl
  | x :: xs => by
    rw [List.map_cons]
    simp only [allInts, allInts_map xs, Option.map_some]
theorem allBls_ev : ∀ xs : List Bool, allBls (xs.map D.bl) = some xs
  | [] => rfl
  | x :: xs => by
    rw [List.map_cons]
    simp only [allBls, allBls_ev xs, Option.map_some]
theorem allB {xs : List Bool} (h : g en w = .ok (eL D.bl xs) w1) : eCall oAll (aCons g aNil) en w = .ok (.bl (xs.all id)) w1 := by
  refine (call_ev (one_ev h)).trans ?_
  show (match allBls (xs.map D.bl) with | some ns => Res.ok (.bl (ns.all id)) w1 | none => .bad) = _
  rw [allBls_ev]
end
theorem dataLe_int (a b : Int) : PySem.W.dataLe false D.toP (.int a) (.int b) = decide (a ≤ b) := by
  simp only [PySem.W.dataLe, PySem.W.sortLe, PySem.W.keyToks, D.toP, cond_false]
  show (!PyProof.Rows.lexLt PyProof.Rows.itemOrd [Sum.inl b] [Sum.inl a]) = decide (a ≤ b)
  have : PyProof.Rows.lexLt PyProof.Rows.itemOrd [Sum.inl b] [Sum.inl a] = decide (b < a) := by
    unfold PyProof.Rows.lexLt
    by_cases h : b < a
    · simp [PyProof.Rows.itemOrd, PyProof.Rows.itemLt, h]
    · simp [PyProof.Rows.itemOrd, PyProof.Rows.itemLt, h, PyProof.Rows.lexLt]
  rw [this]
  by_cases h : a ≤ b
  · simp [h]
  · simp [h]; omega
def sortI (xs : List Int) : List Int := xs.mergeSort fun a b => decide (a ≤ b)
theorem sortI_ev {en : List Sl} {w w1 : Wl} {g : EG} {xs : List Int} (h : g en w = .ok (eL D.int xs) w1) (hl : xs.length ≤ 1000) : eCall oSorted (aCons g aNil) en w = .ok (eL D.int (sortI xs)) w1 := by
  refine (call_ev (one_ev h)).trans ?_
  have h1 : srtOk (xs.map D.int) = true := by
    unfold srtOk
    rw [Bool.and_eq_true, Bool.and_eq_true]
    refine ⟨⟨?_, ?_⟩, ?_⟩
    · rw [List.all_map, List.all_eq_true]; intro x _; rfl
    · rw [List.all_map, List.all_eq_true]; intro x _
      simp only [Function.comp]
      rw [List.all_map, List.all_eq_true]; intro y _; rfl
    · rw [Bool.or_eq_true]; right
      rw [List.all_map, List.all_eq_true]; intro x _; rfl
  have h2 : (1000 : Nat) ≤ sizeLine := by decide
  have h3 : sortD (xs.map D.int) = (sortI xs).map D.int := by
    unfold sortD sortI
    exact (List.map_mergeSort fun a _ b _ => (dataLe_int a b).symm).symm
  show (if srtOk (xs.map D.int) && decide ((xs.map D.int).length ≤ sizeLine) then Res.ok (.lst (sortD (xs.map D.int))) w1 else .bad) = _
  rw [h1, h3, List.length_map, decide_eq_true (by omega)]
  rfl
section
variable {α β γ δ : Type} {e : α → D} {e2 : β → D} {e3 : γ → D} {e4 : δ → D} {w w1 w2 : Wl} {en : List Sl}
variable {g ga gb gc : EG} {i j : Int} {x y : α} {c d : Bool}
/-! ### what is walked -/
theorem seqT {xs : List α} (h : g en w = .ok (eT e xs) w1) : gSeq g en w = .ok (xs.map e) w1 := by
  unfold gSeq
  rw [h]
  rfl
theorem seqL {xs : List α} (h : g en w = .ok (eL e xs) w1) : gSeq g en w = .ok (xs.map e) w1 := by
  unfold gSeq
  rw [h]
  rfl
theorem rng1 (h : ga en w = .ok (.int i) w1) (hs : small i = true) : gRng1 (aCons ga aNil) en w = .ok ((upto i.toNat).map D.int) w1 := rng_ev' (one_ev h) hs
/-- from lo on, to hi -/
def fromI (lo hi : Int) : IS := (List.range (hi - lo).toNat).map fun k => lo + (k : Nat)
theorem zipD (xs : List α) (ys : List β) : pairsZ (xs.map e) (ys.map e2) = (xs.zip ys).map (eP e e2) := zip_map2 e e2 xs ys
theorem zipTT {xs : List α} {ys : List β} (h1 : ga en w = .ok (eT e xs) w1) (h2 : gb en w1 = .ok (eT e2 ys) w2) : gZip (aCons ga (aCons gb aNil)) en w = .ok ((xs.zip ys).map (eP e e2)) w2 := by
  rw [← zipD]
  simp only [gZip, aCons, h1, h2, aNil, AR.cons]
  rfl
def enumI {α : Type} (xs : List α) : List (Int × α) := (xs.zipIdx 0).map fun p => ((p.2 : Nat), p.1)
theorem enumD (xs : List α) : pairsI (xs.map e) = (enumI xs).map (eP D.int e) := by
  rw [pairsI_map, pairsFrom_zip, enumI, List.map_map]
  rfl
theorem enumT {xs : List α} (h : g en w = .ok (eT e xs) w1) : gEnum (aCons g aNil) en w = .ok ((enumI xs).map (eP D.int e)) w1 := by
  rw [← enumD]
  simp only [gEnum, aCons, h, aNil, AR.cons]
  rfl
/-! ### comprehensions -/
variable {gi : AG} {b : BG} {gt ge : EG} {vs : List Nat} {xs : List α}
theorem mapE {f : α → β} (hg : gi en w = .ok (xs.map e) w1) (hl : xs.length ≤ sizeLine) (h : ∀ x ∈ xs, ∃ S', b (e x) (wipeE en vs) = some S' ∧ ge S' w1 = .ok (e2 (f x)) w1) : eLc gi b eYes ge vs en w = .ok (eL e2 (xs.map f)) w1 := by
  have h2 : lcG b eYes ge (wipeE en vs) (xs.map e) w1 = .ok ((xs.filter fun _ => true).map fun x => e2 (f x)) w1 := lc_ev e (fun _ => true) (fun x => e2 (f x)) xs fun x hx => by
    obtain ⟨S', h1, h2⟩ := h x hx
    exact ⟨S', h1, rfl, fun _ => h2⟩
  rw [List.filter_eq_self.mpr fun _ _ => rfl] at h2
  unfold eLc
  rw [hg]
  simp only [List.length_map, hl, if_true, h2, eL, List.map_map]
  rfl
theorem filtE {p : α → Bool} {f : α → β} (hg : gi en w = .ok (xs.map e) w1) (hl : xs.length ≤ sizeLine) (h : ∀ x ∈ xs, ∃ S', b (e x) (wipeE en vs) = some S' ∧ gt S' w1 = .ok (.bl (p x)) w1 ∧ (p x = true → ge S' w1 = .ok (e2 (f x)) w1)) : eLc gi b gt ge vs en w = .ok (eL e2 ((xs.filter p).map f)) w1 := by
  have h2 := lc_ev e p (fun x => e2 (f x)) xs h
  unfold eLc
  rw [hg]
  simp only [List.length_map, hl, if_true, h2, eL, List.map_map]
  rfl
/-! ### draws in comprehensions -/
def lcW {α β : Type} (p : α → Wl → Bool × Wl) (f : α → Wl → β × Wl) : List α → Wl → List β × Wl
  | [], w => ([], w)
  | x :: xs, w => match p x w with
    | (true, w1) => let z := f x w1
      let r := lcW p f xs z.2
      (z.1 :: r.1, r.2)
    | (false, w1) => lcW p f xs w1
/-- at each step what is asked holds -/
def SafeW {α β : Type} (p : α → Wl → Bool × Wl) (f : α → Wl → β × Wl) (S : α → Wl → Prop) : List α → Wl → Prop
  | [], _ => True
  | x :: xs, w => S x w ∧ match p x w with
    | (true, w1) => SafeW p f S xs (f x w1).2
    | (false, w1) => SafeW p f S xs w1
theorem lcWE {p : α → Wl → Bool × Wl} {f : α → Wl → β × Wl} {S : α → Wl → Prop} (hg : gi en w = .ok (xs.map e) w1) (hl : xs.length ≤ sizeLine) (hS : SafeW p f S xs w1)
    (h : ∀ x w, S x w → ∃ S', b (e x) (wipeE en vs) = some S' ∧ gt S' w = .ok (.bl (p x w).1) (p x w).2 ∧ ((p x w).1 = true → ge S' (p x w).2 = .ok (e2 (f x (p x w).2).1) (f x (p x w).2).2)) :
    eLc gi b gt ge vs en w = .ok (eL e2 (lcW p f xs w1).1) (lcW p f xs w1).2 := by
  have h2 : ∀ (zs : List α) (w : Wl), SafeW p f S zs w → lcG b gt ge (wipeE en vs) (zs.map e) w = .ok ((lcW p f zs w).1.map e2) (lcW p f zs w).2 := by
    intro zs
    induction zs with
    | nil => intro w _; rfl
    | cons z zs ih =>
      intro w hz
      obtain ⟨S', h1, h2, h3⟩ := h z w hz.1
      have hz2 := hz.2
      cases hp : p z w with
      | mk c w3 =>
        rw [hp] at h2 h3 hz2
        cases c with
        | true =>
          have h3 := h3 rfl
          have ih := ih (f z w3).2 hz2
          simp only [List.map_cons, lcG, h1, h2, h3, ih, lcW, hp, AR.cons]
        | false =>
          have ih := ih w3 hz2
          simp only [List.map_cons, lcG, h1, h2, ih, lcW, hp]
  unfold eLc
  rw [hg]
  simp only [List.length_map, hl, if_true, h2 xs w1 hS]
  rfl
/-! ### statements -/
variable {k : SG} {en1 en2 : List Sl} {n : Nat} {ds : List D} {dv : D} {R : List Sl → Prop}
theorem appE {g : EG} {xs : List α} {x : α} (h1 : en[n]? = some (.own (xs.map e))) (h2 : g en w = .ok (e x) w1) (h : xs.length < sizeLine) : sApp n g en w = .nx (en.set n (.own ((xs ++ [x]).map e))) w1 := by
  unfold sApp
  rw [h1]
  simp only [h2, Res.thn, List.length_map, h, if_true, List.map_append, List.map_cons, List.map_nil]
theorem setE (h : g en w = .ok dv w1) : sSet n g en w = .nx (en.set n (.dat dv)) w1 := set_ev h
theorem ownE {xs : List α} (h : g en w = .ok (eL e xs) w1) : sOwn n g en w = .nx (en.set n (.own (xs.map e))) w1 := by
  unfold sOwn
  rw [h]
  rfl
theorem asgE {b : BG} (h : g en w = .ok dv w1) (hb : b dv en = some en1) : sAsg g b en w = .nx en1 w1 := by
  unfold sAsg
  rw [h]
  simp only [Res.thn, hb]
theorem dropE (h : g en w = .ok dv w1) : sDrop g en w = .nx en w1 := by
  unfold sDrop
  rw [h]
  rfl
theorem parE {i j : Nat} {ga : AG} {d1 d2 : D} (h : ga en w = .ok [d1, d2] w1) : sPar i j ga en w = .nx ((en.set i (.dat d1)).set j (.dat d2)) w1 := by
  simp only [sPar, h, AR.thn]
theorem pm2E {b c : Bool} {i j : Nat} {ga : AG} {d1 d2 : D} {s1 s2 : Sl} (h : ga en w = .ok [d1, d2] w1) (h1 : slM b d1 = s1) (h2 : slM c d2 = s2) : sPM2 b c i j ga en w = .nx ((en.set i s1).set j s2) w1 := by
  simp only [sPM2, h, AR.thn, h1, h2]
theorem passE : sPass en w = .nx en w := rfl
/-- one statement behind another -/
theorem sq {s : SG} {o : Out} (h : s en w = .nx en1 w1) (h2 : k en1 w1 = o) : sSeq s k en w = o := (seq_nx h).trans h2
theorem sqX {s : SG} {o : Out} {Q : List Sl → Prop} (h : ∃ en1, s en w = .nx en1 w1 ∧ Q en1) (h2 : ∀ en1, Q en1 → k en1 w1 = o) : sSeq s k en w = o := by
  obtain ⟨en1, h, q⟩ := h
  exact (seq_nx h).trans (h2 en1 q)
/-- ends with slots of which R holds -/
def NxR (R : List Sl → Prop) (w : Wl) (o : Out) : Prop := ∃ en2, o = .nx en2 w ∧ R en2
theorem NxR.sq {s : SG} {wz : Wl} (h : s en w = .nx en1 w1) (h2 : NxR R wz (k en1 w1)) : NxR R wz (sSeq s k en w) := by
  rw [seq_nx h]
  exact h2
theorem NxR.sqX {s : SG} {wz : Wl} {Q : List Sl → Prop} (h : ∃ en1, s en w = .nx en1 w1 ∧ Q en1) (h2 : ∀ en1, Q en1 → NxR R wz (k en1 w1)) : NxR R wz (sSeq s k en w) := by
  obtain ⟨en1, h, q⟩ := h
  rw [seq_nx h]
  exact h2 en1 q
theorem NxR.last {s : SG} (h : s en w = .nx en1 w1) (h2 : R en1) : NxR R w1 (s en w) := ⟨en1, h, h2⟩
theorem NxR.lastX {s : SG} {Q : List Sl → Prop} (h : ∃ en1, s en w = .nx en1 w1 ∧ Q en1) (h2 : ∀ en1, Q en1 → R en1) : NxR R w1 (s en w) := by
  obtain ⟨en1, h, q⟩ := h
  exact ⟨en1, h, h2 en1 q⟩
theorem iteE {gc : EG} {s1 s2 : SG} {c : Bool} (h1 : gc en w = .ok (.bl c) w1) (h2 : c = true → s1 en w1 = .nx en1 w2) (h3 : c = false → s2 en w1 = .nx en1 w2) : sIf gc s1 s2 en w = .nx en1 w2 := by
  cases c
  · exact (ifF h1).trans (h3 rfl)
  · exact (ifT h1).trans (h2 rfl)
theorem sif_T {gc : EG} {s1 s2 : SG} {o : Out} (h1 : gc en w = .ok (.bl true) w1) (h2 : s1 en w1 = o) : sIf gc s1 s2 en w = o := (ifT h1).trans h2
theorem retE (h : g en w = .ok dv w1) : sRet g en w = .rt dv w1 := ret_ev h
/-! ### loops -/
/-- at each step what is asked holds -/
def SafeL {α σ : Type} (step : α → σ → σ) (S : α → σ → Prop) : List α → σ → Prop
  | [], _ => True
  | x :: xs, s => S x s ∧ SafeL step S xs (step x s)
def foldS {α σ : Type} (step : α → σ → σ) : List α → σ → σ
  | [], s => s
  | x :: xs, s => foldS step xs (step x s)
theorem forE {σ : Type} {gi : AG} {b : BG} {body : SG} {xs : List α} (step : α → σ → σ) (S : α → σ → Prop) (Q : σ → List Sl → Prop) {s0 : σ} (hg : gi en w = .ok (xs.map e) w1) (h0 : Q s0 en) (hS : SafeL step S xs s0)
    (h : ∀ x s en, x ∈ xs → S x s → Q s en → ∃ en1, b (e x) en = some en1 ∧ NxR (Q (step x s)) w1 (body en1 w1)) : ∃ en', sFor gi b body en w = .nx en' w1 ∧ Q (foldS step xs s0) en' := by
  rw [for_ev hg]
  clear hg
  induction xs generalizing s0 en with
  | nil => exact ⟨en, rfl, h0⟩
  | cons x xs ih =>
    obtain ⟨en1, h1, en2, h2, h3⟩ := h x s0 en List.mem_cons_self hS.1 h0
    obtain ⟨en', h4, h5⟩ := ih h3 hS.2 fun y s en hy => h y s en (List.mem_cons_of_mem _ hy)
    refine ⟨en', ?_, h5⟩
    simp only [List.map_cons, forG, h1, h2, h4]
def SafeLW {α σ : Type} (step : α → σ → Wl → σ × Wl) (S : α → σ → Wl → Prop) : List α → σ → Wl → Prop
  | [], _, _ => True
  | x :: xs, s, w => S x s w ∧ SafeLW step S xs (step x s w).1 (step x s w).2
def foldW {α σ : Type} (step : α → σ → Wl → σ × Wl) : List α → σ → Wl → σ × Wl
  | [], s, w => (s, w)
  | x :: xs, s, w => foldW step xs (step x s w).1 (step x s w).2
theorem forWE {σ : Type} {gi : AG} {b : BG} {body : SG} {xs : List α} (step : α → σ → Wl → σ × Wl) (S : α → σ → Wl → Prop) (Q : σ → List Sl → Prop) {s0 : σ} (hg : gi en w = .ok (xs.map e) w1) (h0 : Q s0 en) (hS : SafeLW step S xs s0 w1)
    (h : ∀ x s en w, x ∈ xs → S x s w → Q s en → ∃ en1, b (e x) en = some en1 ∧ NxR (Q (step x s w).1) (step x s w).2 (body en1 w)) : ∃ en', sFor gi b body en w = .nx en' (foldW step xs s0 w1).2 ∧ Q (foldW step xs s0 w1).1 en' := by
  rw [for_ev hg]
  clear hg
  induction xs generalizing s0 en w1 with
  | nil => exact ⟨en, rfl, h0⟩
  | cons x xs ih =>
    obtain ⟨en1, h1, en2, h2, h3⟩ := h x s0 en w1 List.mem_cons_self hS.1 h0
    obtain ⟨en', h4, h5⟩ := ih h3 hS.2 fun y s en w hy => h y s en w (List.mem_cons_of_mem _ hy)
    refine ⟨en', ?_, h5⟩
    simp only [List.map_cons, forG, h1, h2, h4]
    rfl
/-- a loop that may return -/
def foldE {α σ ρ : Type} (step : α → σ → Sum σ ρ) : List α → σ → Sum σ ρ
  | [], s => .inl s
  | x :: xs, s => match step x s with
    | .inl t => foldE step xs t
    | .inr r => .inr r
def SafeE {α σ ρ : Type} (step : α → σ → Sum σ ρ) (S : α → σ → Prop) : List α → σ → Prop
  | [], _ => True
  | x :: xs, s => S x s ∧ match step x s with
    | .inl t => SafeE step S xs t
    | .inr _ => True
/-- goes on, or returns -/
def NxE {σ ρ : Type} (Q : σ → List Sl → Prop) (er : ρ → D) (w : Wl) (r : Sum σ ρ) (o : Out) : Prop := match r with
  | .inl s => NxR (Q s) w o
  | .inr z => o = .rt (er z) w
theorem forRE {σ ρ : Type} {gi : AG} {b : BG} {body : SG} {xs : List α} (er : ρ → D) (step : α → σ → Sum σ ρ) (S : α → σ → Prop) (Q : σ → List Sl → Prop) {s0 : σ} (hg : gi en w = .ok (xs.map e) w1) (h0 : Q s0 en) (hS : SafeE step S xs s0)
    (h : ∀ x s en, x ∈ xs → S x s → Q s en → ∃ en1, b (e x) en = some en1 ∧ NxE Q er w1 (step x s) (body en1 w1)) : NxE Q er w1 (foldE step xs s0) (sFor gi b body en w) := by
  rw [for_ev hg]
  clear hg
  induction xs generalizing s0 en with
  | nil => exact ⟨en, rfl, h0⟩
  | cons x xs ih =>
    obtain ⟨en1, h1, h2⟩ := h x s0 en List.mem_cons_self hS.1 h0
    have hS2 := hS.2
    unfold foldE
    cases hst : step x s0 with
    | inl t =>
      rw [hst] at h2 hS2
      obtain ⟨en2, h2, h3⟩ := h2
      have := ih h3 hS2 fun y s en hy => h y s en (List.mem_cons_of_mem _ hy)
      simp only [List.map_cons, forG, h1, h2]
      exact this
    | inr z =>
      rw [hst] at h2
      have h2 : body en1 w1 = .rt (er z) w1 := h2
      show forG b body ((x :: xs).map e) en w1 = .rt (er z) w1
      simp only [List.map_cons, forG, h1, h2]
theorem lele {ga gb gc : EG} {a b c : Int} (h1 : ga en w = .ok (.int a) w1) (h2 : gb en w1 = .ok (.int b) w2) (h3 : gc en w2 = .ok (.int c) w2) : eChain oLe oLe ga gb gc en w = .ok (.bl (decide (a ≤ b) && decide (b ≤ c))) w2 := by
  unfold eChain
  simp only [h1, h2, Res.bind]
  by_cases h : a ≤ b
  · simp [oLe, oRel, oI, h, h3, Res.bind]
  · simp [oLe, oRel, oI, h, Res.bind]
theorem lelt {ga gb gc : EG} {a b c : Int} (h1 : ga en w = .ok (.int a) w1) (h2 : gb en w1 = .ok (.int b) w2) (h3 : gc en w2 = .ok (.int c) w2) : eChain oLe (oRel fun i j => decide (i < j)) ga gb gc en w = .ok (.bl (decide (a ≤ b) && decide (b < c))) w2 := by
  unfold eChain
  simp only [h1, h2, Res.bind]
  by_cases h : a ≤ b
  · simp [oLe, oRel, oI, h, h3, Res.bind]
  · simp [oLe, oRel, oI, h, Res.bind]
theorem filtI {r : Res} {xs : List α} (h : r = .ok (eL e (List.map (fun x => x) xs)) w) : r = .ok (eL e xs) w := by rwa [show List.map (fun x : α => x) xs = xs from List.map_id' xs] at h
theorem bK {bs : BGs} {k : KR} (h : bs [.int k.q.num, .int k.q.den] en = some en1) : bTupN 2 bs (eK k) en = some en1 := by
  obtain ⟨c, q⟩ := k
  cases c
  · exact h
  · exact h
theorem gcd2_ev {ga gb : EG} {i j : Int} (h1 : ga en w = .ok (.int i) w1) (h2 : gb en w1 = .ok (.int j) w2) : eCall oGcd (aCons ga (aCons gb aNil)) en w = .ok (.int ((Nat.gcd i.natAbs j.natAbs : Nat) : Int)) w2 := (call_ev (cons_ev h1 (one_ev h2))).trans rfl
theorem mulL1 {g gb : EG} {x : α} {k : Int} (h1 : g en w = .ok (eL e [x]) w1) (h2 : gb en w1 = .ok (.int k) w2) (h : 0 ≤ k ∧ k ≤ 1000) : eBin oMulL g gb en w = .ok (eL e (List.replicate k.toNat x)) w2 := by
  refine (bin_ev h1 h2).trans ?_
  have hr : ∀ n : Nat, (List.replicate n [e x]).flatten = (List.replicate n x).map e := by
    intro n
    induction n with
    | zero => rfl
    | succ n ih => rw [List.replicate_succ, List.replicate_succ, List.flatten_cons, ih, List.map_cons]; rfl
  have hs : (1000 : Nat) ≤ sizeLine := by decide
  show (if -(2 ^ 63) ≤ k ∧ k < 2 ^ 63 ∧ ([e x] : List D).length * k.toNat ≤ sizeLine then Res.ok (.lst (List.replicate k.toNat [e x]).flatten) w2 else .bad) = _
  rw [if_pos ⟨by omega, by omega, by simp; omega⟩, hr]; rfl
theorem tyT {g : EG} {d : D} {n : String} (h : g en w = .ok d w1) (ht : d.tyName = some n) : eBin oIs (eCall oType (aCons g aNil)) (eC (.ty n)) en w = .ok (.bl true) w1 := by
  have e1 : eCall oType (aCons g aNil) en w = .ok (.ty n) w1 := by
    refine (call_ev (one_ev h)).trans ?_
    show oType1 d w1 = _
    unfold oType1
    rw [ht]
  refine (bin_ev e1 (show eC (.ty n) en w1 = .ok (.ty n) w1 from rfl)).trans ?_
  show Res.ok (.bl (decide (n = n))) w1 = _
  rw [decide_eq_true rfl]
theorem tyNT {g : EG} {d : D} {n : String} (h : g en w = .ok d w1) (ht : d.tyName = some n) : eBin oNot (eCall oType (aCons g aNil)) (eC (.ty n)) en w = .ok (.bl false) w1 := by
  have e1 : eCall oType (aCons g aNil) en w = .ok (.ty n) w1 := by
    refine (call_ev (one_ev h)).trans ?_
    show oType1 d w1 = _
    unfold oType1
    rw [ht]
  refine (bin_ev e1 (show eC (.ty n) en w1 = .ok (.ty n) w1 from rfl)).trans ?_
  show Res.ok (.bl (!decide (n = n))) w1 = _
  rw [decide_eq_true rfl]; rfl
theorem tyK (k : KR) : (eK k).tyName = some "tuple" := by
  obtain ⟨c, q⟩ := k
  cases c <;> rfl
theorem lenK {g : EG} {k : KR} (h : g en w = .ok (eK k) w1) : eCall oLen (aCons g aNil) en w = .ok (.int 2) w1 := by
  refine (call_ev (one_ev h)).trans ?_
  obtain ⟨c, q⟩ := k
  cases c <;> rfl
/-- a def that returns nothing -/
theorem run_nxR {m : Nat} {gs : SG} {ds : List D} {w0 : Wl} (hh : NxR (fun _ => True) w1 (gs (ds.map .dat ++ List.replicate (m - ds.length) .non) w0)) : runG m gs ds w0 = .ok .non w1 := by
  obtain ⟨en1, h, _⟩ := hh
  exact run_nx h
/-! first_wrong -/
/-- the index of the first that is not right or one more than most -/
def fwI {α : Type} (p : α → Bool) (most : Int) (xs : List α) : Int := (fwAt p most xs 0 : Nat)
theorem fncE {p : α → Bool} {most : Int} {f : Str} {Gf : List D → Wl → Res} {g1 g2 : EG} {xs : List α} (h1 : g1 en w = .ok (eT e xs) w) (h2 : g2 en w = .ok (.int most) w) (h : ∀ x ∈ xs, Gf [e x] w = .ok (.bl (p x)) w) :
    eFnC f G_first_wrong Gf (aCons g1 (aCons g2 (aCons (eC (.fn f)) aNil))) en w = .ok (.int (fwI p most xs)) w := by
  have e0 : aCons g1 (aCons g2 (aCons (eC (.fn f)) aNil)) en w = .ok [.tup (xs.map e), .int most, .fn f] w := cons_ev h1 (cons_ev h2 rfl)
  unfold eFnC
  rw [e0]
  show (if f = f then G_first_wrong (fun d w => plainR (Gf [d] w)) [.tup (xs.map e), .int most] w else .bad) = _
  rw [if_pos rfl]
  exact first_wrong_ev e p most _ w xs fun x hx => by rw [h x hx]; rfl
theorem ifTs {gc : EG} {body s2 : SG} {d : D} (h1 : gc en w = .ok (.bl true) w1) (h2 : body en w1 = .rt d w2) : sSeq (sIf gc body s2) k en w = .rt d w2 := by
  simp only [sSeq, sIf, h1, Res.thn, h2, Out.seq]
/-! ### what is not looked into -/
open Classical in
noncomputable def dr {α : Type} [Inhabited α] (e : α → D) (r : Res) : α × Wl := if h : ∃ p : α × Wl, r = .ok (e p.1) p.2 then h.choose else (default, [])
def Dn {α : Type} (e : α → D) (r : Res) : Prop := ∃ p : α × Wl, r = .ok (e p.1) p.2
theorem drE [Inhabited α] {r : Res} (h : Dn e r) : r = .ok (e (dr e r).1) (dr e r).2 := by
  unfold dr
  have h' : ∃ p : α × Wl, r = .ok (e p.1) p.2 := h
  rw [dif_pos h']
  exact h'.choose_spec
theorem dr_spec [Inhabited α] {r : Res} {P : α → Wl → Prop} (inj : ∀ x y, e x = e y → x = y) (h : ∃ x w', r = .ok (e x) w' ∧ P x w') : Dn e r ∧ P (dr e r).1 (dr e r).2 := by
  obtain ⟨x, w', h1, h2⟩ := h
  have hd : Dn e r := ⟨(x, w'), h1⟩
  have h3 := h1.symm.trans (drE hd)
  have h4 : e x = e (dr e r).1 ∧ w' = (dr e r).2 := by
    injection h3 with a b
    exact ⟨a, b⟩
  refine ⟨hd, ?_⟩
  rw [← inj _ _ h4.1, ← h4.2]
  exact h2
/-! while something is there -/
def endE {σ ρ : Type} (r : Sum σ ρ) (f : σ → ρ) : ρ := match r with
  | .inl s => f s
  | .inr z => z
theorem sqE {σ ρ : Type} {er : ρ → D} {Q : σ → List Sl → Prop} {res : Sum σ ρ} {f : σ → ρ} {s : SG} (h : NxE Q er w res (s en w)) (h2 : ∀ t en1, res = .inl t → Q t en1 → k en1 w = .rt (er (f t)) w) : sSeq s k en w = .rt (er (endE res f)) w := by
  cases res with
  | inl t =>
    obtain ⟨en1, h, q⟩ := h
    exact (seq_nx h).trans (h2 t en1 rfl q)
  | inr z =>
    have h : s en w = .rt (er z) w := h
    simp only [sSeq, h, Out.seq, endE]
theorem NxE.sq {σ ρ : Type} {er : ρ → D} {Q : σ → List Sl → Prop} {res : Sum σ ρ} {s : SG} (h : s en w = .nx en1 w1) (h2 : NxE Q er w1 res (k en1 w1)) : NxE Q er w1 res (sSeq s k en w) := by
  rw [seq_nx h]
  exact h2
/-! ### plain data -/
theorem pR (q : Rat) : (encR q).isP = true := rfl
theorem pK (q : KR) : (eK q).isP = true := by
  obtain ⟨c, q⟩ := q
  cases c <;> rfl
theorem pAll (h : ∀ x, (e x).isP = true) : ∀ xs : List α, arePs (xs.map e) = true
  | [] => rfl
  | x :: xs => by
    show ((e x).isP && arePs (xs.map e)) = true
    rw [h x, pAll h xs]
    rfl
theorem pT (h : ∀ x, (e x).isP = true) (xs : List α) : (eT e xs).isP = true := pAll h xs
theorem pL (h : ∀ x, (e x).isP = true) (xs : List α) : (eL e xs).isP = true := pAll h xs
theorem pO (h : ∀ x, (e x).isP = true) (x : Option α) : (eO e x).isP = true := by
  cases x
  · rfl
  · exact h _
theorem pP (h : ∀ x, (e x).isP = true) (h2 : ∀ x, (e2 x).isP = true) (x : α × β) : (eP e e2 x).isP = true := by
  show ((e x.1).isP && ((e2 x.2).isP && true)) = true
  rw [h, h2]
  rfl
/-! ### the text of what is told -/
def Sw (d : D) : Prop := ∃ k b, Shw k b d ∧ k ≤ 60 ∧ b ≤ 16777216
theorem repNe {g1 g2 : EG} {d1 d2 : D} (h1 : g1 en w = .ok d1 w1) (h2 : g2 en w1 = .ok d2 w2) (he : d1.toP = d2.toP) (hs : Sw d2) (hp : d1.isP = true) : eBin oNe (eCall oRepr (aCons g1 aNil)) (eCall oRepr (aCons g2 aNil)) en w = .ok (.bl false) w2 := by
  obtain ⟨k, b, h, hk, hb⟩ := hs
  have hx : ∀ w, oRepr [d1] w = oRepr [d2] w := fun w => by
    unfold oRepr oRepr1
    simp only [he, hp, h.shp.1]
  obtain ⟨s, s1, s2⟩ := repr_ok h hk hb
  exact (bin_ev (d := .str s) (e := .str s) ((call_ev (one_ev h1)).trans ((hx _).trans (s2 _))) ((call_ev (one_ev h2)).trans (s2 _))).trans (oNe_str s1 _)
end
end MD

set_option exponentiation.threshold 20000
/-! Models by hand: the fractions of the program and of the laws. -/
namespace MD
open PySem PySem.Spec L2 DL PF
open LV (encR IsR isR Rz)
open PyProof.Rows hiding St
/-- sizes of two fractions that are put together -/
def Rs (p q : Rat) : Prop := ∃ B C, Rz B p ∧ Rz C q ∧ B + C < 9000
/-- a denominator -/
def Fb (m : Int) : Prop := 0 < m ∧ m.natAbs < 2 ^ 8999
section
variable {w : Wl}
theorem T_is_at_most (a b : KR) (h : Rs a.q b.q) : G_is_at_most [eK a, eK b] w = .ok (D.bl (decide (a.q ≤ b.q))) w := by
  obtain ⟨B, C, hp, hq, h⟩ := h
  exact LV.at_most_ev (isK a) (isK b) hp hq (by omega)
theorem T_lowest (n m : Int) (h : Fb m) : G_lowest [.int n, .int m] w = .ok (encR (Rat.divInt n m)) w := LV.lowest_ev n m h.1 h.2 (by omega)
/-- a pair of whole numbers beside a fraction -/
def Rp (q : Rat) (p : Int × Int) : Prop := 0 < p.2 ∧ p.1.natAbs < 2 ^ 4000 ∧ p.2.natAbs < 2 ^ 4000 ∧ Rz 4000 q
/-! the laws' own -/
theorem T__law_low (n m : Int) (h : Fb m) : LV.G__law_low [.int n, .int m] w = .ok (encR (Rat.divInt n m)) w := LV.low_ev n m h.1 h.2 (by omega)
theorem T__law_add (a b : Rat) (h : Rs a b) : LV.G__law_add [encR a, encR b] w = .ok (encR (a + b)) w := by
  obtain ⟨B, C, hp, hq, h⟩ := h
  exact LV.add2_ev hp hq h
theorem T__law_sub (a b : Rat) (h : Rs a b) : LV.G__law_sub [encR a, encR b] w = .ok (encR (a - b)) w := by
  obtain ⟨B, C, hp, hq, h⟩ := h
  exact LV.sub2_ev hp hq h
theorem T__law_mul (a b : Rat) (h : Rs a b) : LV.G__law_mul [encR a, encR b] w = .ok (encR (a * b)) w := by
  obtain ⟨B, C, hp, hq, h⟩ := h
  exact LV.mul2_ev hp hq h
theorem T__law_below (a b : Rat) (h : Rs a b) : LV.G__law_below [encR a, encR b] w = .ok (D.bl (decide (a < b))) w := by
  obtain ⟨B, C, hp, hq, h⟩ := h
  exact LV.below_ev hp hq (by omega)
end
/-! sets -/
section
variable {w : Wl}
theorem T_all_sets (n : Int) (h : 1 ≤ n ∧ n ≤ 5) : G_all_sets [.int n] w = .ok (eT (eT D.int) (ssets n.toNat)) w := by
  have := PF.all_sets_ev (w := w) n.toNat (by omega) (by omega)
  rwa [Int.toNat_of_nonneg (by omega)] at this
theorem T__law_all_sets (n : Int) (h : 1 ≤ n ∧ n ≤ 5) : LV.G__law_all_sets [.int n] w = .ok (eL (eT D.int) (ssets n.toNat)) w := by
  have := LV.all_sets_ev (w := w) n.toNat (by omega) (by omega)
  rwa [Int.toNat_of_nonneg (by omega)] at this
end
/-! draws -/
noncomputable def M_draw (m : Int) (w : Wl) : Int × Wl := dr D.int (LV.G__law_draw [.well, .int m] w)
def S_draw (m : Int) (w : Wl) : Prop := (0 < m ∧ m < 1073741824) ∧ ∃ k, Wk (k + 1) w
theorem T_draw (m : Int) (w : Wl) (h : S_draw m w) : LV.G__law_draw [.well, .int m] w = .ok (.int (M_draw m w).1) (M_draw m w).2 := by
  obtain ⟨⟨h0, h1⟩, k, hk⟩ := h
  obtain ⟨d, w', e, _⟩ := LV.draw hk h0 h1
  exact drE (e := D.int) ⟨(d, w'), e⟩
theorem draw_spec {k : Nat} {m : Int} {w : Wl} (hk : Wk (k + 1) w) (h0 : 0 < m) (h1 : m < 1073741824) : S_draw m w ∧ 0 ≤ (M_draw m w).1 ∧ (M_draw m w).1 < m ∧ Wk k (M_draw m w).2 :=
  ⟨⟨⟨h0, h1⟩, k, hk⟩, (dr_spec (e := D.int) (P := fun d w' => 0 ≤ d ∧ d < m ∧ Wk k w') (fun x y h => by injection h) (LV.draw hk h0 h1)).2⟩
end MD

set_option exponentiation.threshold 20000
/-! Models by hand: all sets of some indexes. -/
namespace MD
open PySem PySem.Spec L2 DL PF
open LV (encR IsR isR Rz)
open PyProof.Rows hiding St
/-- all sets of some of these, by the first one that they have -/
def subsL : IS → List IS
  | [] => []
  | x :: xs => [x] :: ((subsL xs).map (x :: ·) ++ subsL xs)
def rowsOf (s : IS) : List IS := s.foldl (fun f x => f ++ f.map fun r => r ++ [x]) [[]]
theorem subs_facts : ∀ s ∈ ssets 5, srtE ((rowsOf s).map encI) = true ∧ (rowsOf s).length ≤ 32 ∧ (rowsOf s).Perm ([] :: subsL s) ∧ (([] :: subsL s).map encI).Pairwise fun a b => PySem.W.dataLe false D.toP a b = true ∧ PySem.W.dataLe false D.toP b a = false := by decide +kernel
theorem rows_head : ∀ (s : IS) (f : List IS), (∃ r, f = [] :: r) → ∃ r, s.foldl (fun f x => f ++ f.map fun r => r ++ [x]) f = [] :: r
  | [], f, h => h
  | x :: s, f, ⟨r, h⟩ => by
    refine rows_head s _ ⟨r ++ (f.map fun r => r ++ [x]), ?_⟩
    rw [h]
    rfl
theorem rows_len (s : IS) : ∀ f : List IS, (s.foldl (fun f x => f ++ f.map fun r => r ++ [x]) f).length = f.length * 2 ^ s.length := by
  induction s with
  | nil => intro f; simp
  | cons x s ih =>
    intro f
    rw [List.foldl_cons, ih, List.length_append, List.length_map, List.length_cons, Nat.pow_succ]
    have : f.length + f.length = 2 * f.length := by omega
    rw [this, Nat.mul_comm 2, Nat.mul_assoc, Nat.mul_comm 2]
section
variable {w : Wl}
theorem sets_loop {S0 : Sl} : ∀ (s : IS) (f : List IS) (s2 s3 : Sl), f.length * 2 ^ s.length ≤ 1000 → (∀ r ∈ f, r.length + s.length ≤ 500) → ∃ s2' s3', forG (bName 2) (sSet 1 (eBin oAdd (eVar 1) (eLc (gSeq (eVar 1)) (bName 3) eYes (eBin oAdd (eVar 3) (eTup (aCons (eVar 2) aNil))) [3]))) (s.map D.int) [S0, .dat (eL (eT D.int) f), s2, s3] w = .nx [S0, .dat (eL (eT D.int) (s.foldl (fun f x => f ++ f.map fun r => r ++ [x]) f)), s2', s3'] w
  | [], f, s2, s3, _, _ => ⟨s2, s3, rfl⟩
  | x :: s, f, s2, s3, hl, hr0 => by
    have hp : 0 < 2 ^ s.length := Nat.pow_pos (by decide)
    have h2 : f.length * 2 ^ (x :: s).length = (f.length + f.length) * 2 ^ s.length := by
      rw [List.length_cons, Nat.pow_succ, ← Nat.mul_assoc, Nat.mul_comm (f.length * 2 ^ s.length) 2, ← Nat.mul_assoc]
      congr 1
      omega
    have h3 : f.length + f.length ≤ 1000 := Nat.le_trans (Nat.le_mul_of_pos_right _ hp) (h2 ▸ hl)
    have hz : (1000 : Nat) ≤ sizeLine := by decide
    have e1 : eLc (gSeq (eVar 1)) (bName 3) eYes (eBin oAdd (eVar 3) (eTup (aCons (eVar 2) aNil))) [3] [S0, .dat (eL (eT D.int) f), .dat (.int x), s3] w = .ok (eL (eT D.int) (f.map fun r => r ++ [x])) w := by
      refine mapE (e := eT D.int) (e2 := eT D.int) (xs := f) (f := fun r => r ++ [x]) (seqL rfl) (by omega) (fun r hr => ⟨_, rfl, catT (e := D.int) (xs := r) (ys := [x]) rfl (etup_ev (one_ev rfl) (show 1 ≤ sizeLine by decide)) ?_⟩)
      have := hr0 r hr
      simp only [List.length_cons, List.length_nil] at this ⊢
      omega
    have e2 : sSet 1 (eBin oAdd (eVar 1) (eLc (gSeq (eVar 1)) (bName 3) eYes (eBin oAdd (eVar 3) (eTup (aCons (eVar 2) aNil))) [3])) [S0, .dat (eL (eT D.int) f), .dat (.int x), s3] w = .nx [S0, .dat (eL (eT D.int) (f ++ f.map fun r => r ++ [x])), .dat (.int x), s3] w :=
      set_ev (catL (e := eT D.int) (xs := f) (ys := f.map fun r => r ++ [x]) rfl e1 (by rw [List.length_map]; omega))
    obtain ⟨s2', s3', ih⟩ := sets_loop s (f ++ f.map fun r => r ++ [x]) (.dat (.int x)) s3 (by rw [List.length_append, List.length_map, ← h2]; exact hl) (fun r hr => by
      rw [List.mem_append, List.mem_map] at hr
      rcases hr with hr | ⟨q, hq, rfl⟩
      · have := hr0 r hr; simp only [List.length_cons] at this; omega
      · have := hr0 q hq; simp only [List.length_cons, List.length_append, List.length_nil] at this ⊢; omega)
    exact ⟨s2', s3', (for_cons rfl e2).trans ih⟩
theorem sets_of_gen {d : D} (s : IS) (hs : s ∈ ssets 5) (hg : gSeq (eVar 0) [.dat d, .dat (eL (eT D.int) [[]]), .non, .non] w = .ok (s.map D.int) w) : LV.G__law_sets_of [d] w = .ok (eL (eT D.int) (subsL s)) w := by
  obtain ⟨f1, f2, f3, f4⟩ := subs_facts s hs
  have hl5 : s.length ≤ 5 := by
    have : ∀ s ∈ ssets 5, s.length ≤ 5 := by decide
    exact this s hs
  obtain ⟨s2', s3', e1⟩ := sets_loop (S0 := .dat d) (w := w) s [[]] .non .non (by
    have : 2 ^ s.length ≤ 2 ^ 5 := Nat.pow_le_pow_right (by decide) hl5
    simp only [List.length_cons, List.length_nil]
    omega) (fun r hr => by simp only [List.mem_singleton] at hr; subst hr; simp; omega)
  have e2 : sortD ((rowsOf s).map encI) = ([] :: subsL s).map encI := sortD_eq _ _ (f3.map encI) f4
  obtain ⟨r, hr⟩ := rows_head s [[]] ⟨[], rfl⟩
  refine run_rt (sq (setE (dv := eL (eT D.int) [[]]) rfl) (sq ((for_ev hg).trans e1) (retE ?_)))
  have e3 : (eCall oSortedE (aCons (eVar 1) aNil)) [.dat d, .dat (eL (eT D.int) (rowsOf s)), s2', s3'] w = .ok (.lst (([] :: subsL s).map encI)) w := by
    refine (call_ev (ds := [.lst ((rowsOf s).map encI)]) (w1 := w) rfl).trans ?_
    have hr2 : (rowsOf s).map encI = D.tup [] :: r.map encI := by
      show (s.foldl _ [[]]).map encI = _
      rw [hr]; rfl
    have hz : (1000 : Nat) ≤ sizeLine := by decide
    have hz2 : (D.tup [] :: r.map encI).length ≤ sizeLine := by rw [← hr2, List.length_map]; omega
    rw [hr2] at f1 e2 ⊢
    simp only [oSortedE, f1, hz2, decide_true, Bool.and_self, if_true, e2]
  have e4 := slL (e := eT D.int) (xs := [] :: subsL s) (en := [.dat d, .dat (eL (eT D.int) (rowsOf s)), s2', s3']) (w := w) e3 (prS (g := eC (.int 1)) (i := 1) rfl) prN
  refine e4.trans ?_
  congr 2
  unfold slI
  have h1 : HT.sIx ([] :: subsL s).length 0 (some 1) = 1 := by
    show (if (1 : Int) < 0 then ((1 : Int) + (([] :: subsL s).length : Nat)).toNat else min (1 : Int).toNat ([] :: subsL s).length) = 1
    rw [if_neg (by omega), List.length_cons]
    show min 1 ((subsL s).length + 1) = 1
    omega
  rw [h1, HT.sIx_none, List.drop_one, List.tail_cons]
  exact List.take_of_length_le (by rw [List.length_cons]; omega)
theorem T__law_sets_of (s : IS) (h : s ∈ ssets 5) : LV.G__law_sets_of [eT D.int s] w = .ok (eL (eT D.int) (subsL s)) w := sets_of_gen s h (seqT rfl)
end
end MD

set_option exponentiation.threshold 20000
namespace MP
open PySem PySem.Spec L2 DL PF MD
open LV (encR IsR isR Rz)
open PyProof.Rows hiding St
noncomputable section
/-! is_row -/
/-! is_whole -/
def M_is_whole (v_value : Int) : Bool := true
theorem T_is_whole {w : Wl} (v_value : Int) : G_is_whole [D.int v_value] w = .ok (D.bl (M_is_whole v_value)) w := by
  refine run_rt ?_
  exact retE (tyT rfl rfl)
/-! is_index -/
def M_is_index (v_count : Int) (v_value : Int) : Bool := ((M_is_whole v_value) && (decide ((0 : Int) ≤ v_value) && decide (v_value < v_count)))
theorem T_is_index {w : Wl} (v_count : Int) (v_value : Int) : G_is_index [D.int v_count, D.int v_value] w = .ok (D.bl (M_is_index v_count v_value)) w := by
  refine run_rt ?_
  exact retE (andE (c := (M_is_whole v_value)) ((efn_ev (ds := [D.int v_value]) (one_ev rfl) rfl).trans (T_is_whole v_value)) (fun hc1 => (lelt rfl rfl rfl)))
/-! is_ascending -/
def M_is_ascending_TI (v_row : (List Int)) : Bool := (List.all (List.map (fun (x1 : (Int × Int)) => (decide (x1.1 < x1.2))) (List.zip v_row (slI v_row (some (1 : Int)) none))) id)
structure S_is_ascending_TI (v_row : (List Int)) : Prop where
  c1 : ((List.zip v_row (slI v_row (some (1 : Int)) none))).length ≤ sizeLine
theorem T_is_ascending_TI {w : Wl} (v_row : (List Int)) (h : S_is_ascending_TI v_row) : G_is_ascending [(eT D.int) v_row] w = .ok (D.bl (M_is_ascending_TI v_row)) w := by
  refine run_rt ?_
  exact retE (allB (mapE (e := (eP D.int D.int)) (e2 := D.bl) (xs := (List.zip v_row (slI v_row (some (1 : Int)) none))) (f := (fun (x1 : (Int × Int)) => (decide (x1.1 < x1.2)))) (zipTT rfl (slT rfl (prS rfl) prN)) h.c1 (fun x1 hx1 => ⟨_, rfl, (MD.lt_ev rfl rfl)⟩)))
/-! is_set -/
def M_is_set_r1 (v_count : Int) (v_value : (List Int)) : Bool := bif (false || (decide (((v_value).length : Int) = (0 : Int)))) then false else ((List.all (List.map (fun (x3 : Int) => (M_is_index v_count x3)) v_value) id) && (M_is_ascending_TI v_value))
def M_is_set (v_count : Int) (v_value : (List Int)) : Bool := (M_is_set_r1 v_count v_value)
structure S_is_set (v_count : Int) (v_value : (List Int)) : Prop where
  c1 : (false || (decide (((v_value).length : Int) = (0 : Int)))) = false → (v_value).length ≤ sizeLine
  c2 : (false || (decide (((v_value).length : Int) = (0 : Int)))) = false → (List.all (List.map (fun (x3 : Int) => (M_is_index v_count x3)) v_value) id) = true → S_is_ascending_TI v_value
theorem T_is_set {w : Wl} (v_count : Int) (v_value : (List Int)) (h : S_is_set v_count v_value) : G_is_set [D.int v_count, (eT D.int) v_value] w = .ok (D.bl (M_is_set v_count v_value)) w := by
  refine run_rt ?_
  show _ = Out.rt (D.bl (M_is_set_r1 v_count v_value)) w
  cases hc2 : (false || (decide (((v_value).length : Int) = (0 : Int)))) with
  | true =>
    rw [show (M_is_set_r1 v_count v_value) = false from by unfold M_is_set_r1; rw [hc2]; rfl]
    refine ifTs (castB (c := (false || (decide (((v_value).length : Int) = (0 : Int))))) hc2 (orE (c := false) (tyNT rfl rfl) (fun hc1 => (eqi_ev (lenT rfl) rfl)))) ?_
    exact retE rfl
  | false =>
    rw [show (M_is_set_r1 v_count v_value) = ((List.all (List.map (fun (x3 : Int) => (M_is_index v_count x3)) v_value) id) && (M_is_ascending_TI v_value)) from by unfold M_is_set_r1; rw [hc2]; rfl]
    refine (ifF_seq (castB (c := (false || (decide (((v_value).length : Int) = (0 : Int))))) hc2 (orE (c := false) (tyNT rfl rfl) (fun hc1 => (eqi_ev (lenT rfl) rfl))))).trans ?_
    exact retE (andE (c := (List.all (List.map (fun (x3 : Int) => (M_is_index v_count x3)) v_value) id)) (allB (mapE (e := D.int) (e2 := D.bl) (xs := v_value) (f := (fun (x3 : Int) => (M_is_index v_count x3))) (seqT rfl) (h.c1 hc2) (fun x3 hx3 => ⟨_, rfl, ((efn_ev (ds := [D.int v_count, D.int x3]) (cons_ev rfl (one_ev rfl)) rfl).trans (T_is_index v_count x3))⟩))) (fun hc4 => ((efn_ev (ds := [(eT D.int) v_value]) (one_ev rfl) rfl).trans (T_is_ascending_TI v_value (h.c2 hc2 hc4)))))
/-! is_row -/
/-! is_row -/
def M_is_row_K_I (v_value : KR) (v_many : Int) : Bool := (true && (decide ((2 : Int) = v_many)))
theorem T_is_row_K_I {w : Wl} (v_value : KR) (v_many : Int) : G_is_row [eK v_value, D.int v_many] w = .ok (D.bl (M_is_row_K_I v_value v_many)) w := by
  refine run_rt ?_
  exact retE (andE (c := true) (tyT rfl (tyK _)) (fun hc1 => (eqi_ev (lenK rfl) rfl)))
/-! is_fraction -/
def M_is_fraction_r1 (v_value : KR) : Bool := bif (!(M_is_row_K_I v_value (2 : Int))) then false else ((M_is_whole v_value.q.num) && ((M_is_whole ((v_value.q.den : Nat) : Int)) && ((decide ((0 : Int) < ((v_value.q.den : Nat) : Int))) && (decide (((Nat.gcd (Int.natAbs v_value.q.num) (Int.natAbs ((v_value.q.den : Nat) : Int)) : Nat) : Int) = (1 : Int))))))
def M_is_fraction (v_value : KR) : Bool := (M_is_fraction_r1 v_value)
theorem T_is_fraction {w : Wl} (v_value : KR) : G_is_fraction [eK v_value] w = .ok (D.bl (M_is_fraction v_value)) w := by
  refine run_rt ?_
  show _ = Out.rt (D.bl (M_is_fraction_r1 v_value)) w
  cases hc1 : (!(M_is_row_K_I v_value (2 : Int))) with
  | true =>
    rw [show (M_is_fraction_r1 v_value) = false from by unfold M_is_fraction_r1; rw [hc1]; rfl]
    refine ifTs (castB (c := (!(M_is_row_K_I v_value (2 : Int)))) hc1 (not_ev (tru_ev ((efn_ev (ds := [eK v_value, D.int (2 : Int)]) (cons_ev rfl (one_ev rfl)) rfl).trans (T_is_row_K_I v_value (2 : Int)))))) ?_
    exact retE rfl
  | false =>
    rw [show (M_is_fraction_r1 v_value) = ((M_is_whole v_value.q.num) && ((M_is_whole ((v_value.q.den : Nat) : Int)) && ((decide ((0 : Int) < ((v_value.q.den : Nat) : Int))) && (decide (((Nat.gcd (Int.natAbs v_value.q.num) (Int.natAbs ((v_value.q.den : Nat) : Int)) : Nat) : Int) = (1 : Int)))))) from by unfold M_is_fraction_r1; rw [hc1]; rfl]
    refine (ifF_seq (castB (c := (!(M_is_row_K_I v_value (2 : Int)))) hc1 (not_ev (tru_ev ((efn_ev (ds := [eK v_value, D.int (2 : Int)]) (cons_ev rfl (one_ev rfl)) rfl).trans (T_is_row_K_I v_value (2 : Int))))))).trans ?_
    refine sq (asgE rfl (bK rfl)) ?_
    exact retE (andE (c := (M_is_whole v_value.q.num)) ((efn_ev (ds := [D.int v_value.q.num]) (one_ev rfl) rfl).trans (T_is_whole v_value.q.num)) (fun hc2 => (andE (c := (M_is_whole ((v_value.q.den : Nat) : Int))) ((efn_ev (ds := [D.int ((v_value.q.den : Nat) : Int)]) (one_ev rfl) rfl).trans (T_is_whole ((v_value.q.den : Nat) : Int))) (fun hc3 => (andE (c := (decide ((0 : Int) < ((v_value.q.den : Nat) : Int)))) (gt_ev rfl rfl) (fun hc4 => (eqi_ev (gcd2_ev rfl rfl ) rfl)))))))
/-! is_number -/
def M_is_number (v_value : KR) : Bool := ((M_is_fraction v_value) && (decide ((0 : Int) ≤ v_value.q.num) && decide (v_value.q.num ≤ ((v_value.q.den : Nat) : Int))))
theorem T_is_number {w : Wl} (v_value : KR) : G_is_number [eK v_value] w = .ok (D.bl (M_is_number v_value)) w := by
  refine run_rt ?_
  exact retE (andE (c := (M_is_fraction v_value)) ((efn_ev (ds := [eK v_value]) (one_ev rfl) rfl).trans (T_is_fraction v_value)) (fun hc1 => (lele rfl (ixK0 rfl) (ixK1 rfl))))
/-! is_limit -/
/-! is_corner -/
/-! is_bar -/
/-! is_within -/
/-! is_row -/
/-! is_count -/
def M_is_count (v_value : Int) : Bool := ((M_is_whole v_value) && (decide ((1 : Int) ≤ v_value) && decide (v_value ≤ (5 : Int))))
theorem T_is_count {w : Wl} (v_value : Int) : G_is_count [D.int v_value] w = .ok (D.bl (M_is_count v_value)) w := by
  refine run_rt ?_
  exact retE (andE (c := (M_is_whole v_value)) ((efn_ev (ds := [D.int v_value]) (one_ev rfl) rfl).trans (T_is_whole v_value)) (fun hc1 => (lele rfl rfl rfl)))
/-! is_ascending -/
/-! is_frame -/
/-! check_frame -/
/-! check_count -/
/-! is_row -/
/-! is_tie -/
/-! check_ties -/
/-! is_part -/
def M_is_part (v_lot : (List Int)) (v_other : (List Int)) : Bool := (List.all (List.map (fun (x1 : Int) => (decide (x1 ∈ v_other))) v_lot) id)
structure S_is_part (v_lot : (List Int)) (v_other : (List Int)) : Prop where
  c1 : (v_lot).length ≤ sizeLine
theorem T_is_part {w : Wl} (v_lot : (List Int)) (v_other : (List Int)) (h : S_is_part v_lot v_other) : G_is_part [(eT D.int) v_lot, (eT D.int) v_other] w = .ok (D.bl (M_is_part v_lot v_other)) w := by
  refine run_rt ?_
  exact retE (allB (mapE (e := D.int) (e2 := D.bl) (xs := v_lot) (f := (fun (x1 : Int) => (decide (x1 ∈ v_other)))) (seqT rfl) h.c1 (fun x1 hx1 => ⟨_, rfl, (inT (e := D.int) (x := x1) (xs := v_other) eqv_int rfl rfl)⟩)))
/-! keeps -/
/-! implied_frame -/
/-! is_row -/
def M_is_row_TK_I (v_value : (List KR)) (v_many : Int) : Bool := (true && (decide (((v_value).length : Int) = v_many)))
theorem T_is_row_TK_I {w : Wl} (v_value : (List KR)) (v_many : Int) : G_is_row [(eT eK) v_value, D.int v_many] w = .ok (D.bl (M_is_row_TK_I v_value v_many)) w := by
  refine run_rt ?_
  exact retE (andE (c := true) (tyT rfl rfl) (fun hc1 => (eqi_ev (lenT rfl) rfl)))
/-! is_row -/
/-! is_weight -/
/-! check_weights -/
/-! is_degree -/
/-! check_degree -/
/-! common_bottom -/
/-! tops_over -/
/-! sum_of -/
/-! alike -/
def M_alike (v_count : Int) (v_group : (List Int)) (v_limit : KR) : (List (Option KR)) := (List.map (fun (x1 : Int) => (bif (decide (x1 ∈ v_group)) then (some v_limit) else ((fun (_ : Unit) => (none : (Option KR))) ()))) (upto (Int.toNat v_count)))
structure S_alike (v_count : Int) (v_group : (List Int)) (v_limit : KR) : Prop where
  c1 : small v_count = true
  c2 : ((upto (Int.toNat v_count))).length ≤ sizeLine
theorem T_alike {w : Wl} (v_count : Int) (v_group : (List Int)) (v_limit : KR) (h : S_alike v_count v_group v_limit) : G_alike [D.int v_count, (eT D.int) v_group, eK v_limit] w = .ok ((eT (eO eK)) (M_alike v_count v_group v_limit)) w := by
  refine run_rt ?_
  exact retE (tupL (mapE (e := D.int) (e2 := (eO eK)) (xs := (upto (Int.toNat v_count))) (f := (fun (x1 : Int) => (bif (decide (x1 ∈ v_group)) then (some v_limit) else ((fun (_ : Unit) => (none : (Option KR))) ())))) (rng1 rfl h.c1) h.c2 (fun x1 hx1 => ⟨_, rfl, (ifE (e := (eO eK)) (c := (decide (x1 ∈ v_group))) (a := (some v_limit)) (b := ((fun (_ : Unit) => (none : (Option KR))) ())) (inT (e := D.int) (x := x1) (xs := v_group) eqv_int rfl rfl) (fun hc2 => rfl) (fun hc2 => rfl))⟩)))
/-! single_bars -/
/-! weighed_bars -/
/-! common_bottom -/
/-! tops_over -/
/-! sum_of -/
/-! scaled -/
/-! ranked_bars -/
/-! check_numbers -/
def M_check_numbers_at1 (v_count : Int) (v_numbers : (List KR)) : Int := (fwI (fun (x1 : KR) => (M_is_number x1)) v_count v_numbers)
def M_check_numbers (v_count : Int) (v_numbers : (List KR)) : Unit := ()
structure S_check_numbers (v_count : Int) (v_numbers : (List KR)) : Prop where
  c1 : (!(M_is_row_TK_I v_numbers v_count)) = false
  c2 : (decide ((M_check_numbers_at1 v_count v_numbers) < v_count)) = false
theorem T_check_numbers {w : Wl} (v_count : Int) (v_numbers : (List KR)) (h : S_check_numbers v_count v_numbers) : G_check_numbers [D.int v_count, (eT eK) v_numbers] w = .ok (eN (M_check_numbers v_count v_numbers)) w := by
  refine run_nxR ?_
  refine NxR.sq (en1 := [.dat (D.int v_count), .dat ((eT eK) v_numbers), .non]) ((ifF (w1 := w) (castB (c := (!(M_is_row_TK_I v_numbers v_count))) h.c1 (not_ev (tru_ev ((efn_ev (ds := [(eT eK) v_numbers, D.int v_count]) (cons_ev rfl (one_ev rfl)) rfl).trans (T_is_row_TK_I v_numbers v_count)))))).trans rfl) ?_
  refine NxR.sq (setE (dv := D.int (M_check_numbers_at1 v_count v_numbers)) (fncE (e := eK) (p := (fun (x1 : KR) => (M_is_number x1))) (xs := v_numbers) rfl rfl (fun x1 hx1 => (T_is_number x1)))) ?_
  refine NxR.last (en1 := [.dat (D.int v_count), .dat ((eT eK) v_numbers), .dat (D.int (M_check_numbers_at1 v_count v_numbers))]) ((ifF (w1 := w) (castB (c := (decide ((M_check_numbers_at1 v_count v_numbers) < v_count))) h.c2 (MD.lt_ev rfl rfl))).trans rfl) ?_
  exact by first | rfl | trivial | exact ⟨_, rfl⟩ | exact ⟨_, _, rfl⟩ | exact ⟨_, _, _, rfl⟩ | exact ⟨_, _, _, _, rfl⟩ | exact ⟨_, _, _, _, _, rfl⟩ | exact ⟨_, _, _, _, _, _, rfl⟩ | exact ⟨_, _, _, _, _, _, _, rfl⟩ | exact ⟨_, _, _, _, _, _, _, _, rfl⟩
/-! check_corners -/
/-! tells_count -/
def M_tells_count (v_value : (List KR)) : Bool := (true && (M_is_count ((v_value).length : Int)))
theorem T_tells_count {w : Wl} (v_value : (List KR)) : G_tells_count [(eT eK) v_value] w = .ok (D.bl (M_tells_count v_value)) w := by
  refine run_rt ?_
  exact retE (andE (c := true) (tyT rfl rfl) (fun hc1 => ((efn_ev (ds := [D.int ((v_value).length : Int)]) (one_ev (lenT rfl)) rfl).trans (T_is_count ((v_value).length : Int)))))
/-! check_shared_weights -/
/-! check_leading_weights -/
/-! is_web_row -/
/-! check_web -/
/-! check_set -/
def M_check_set (v_count : Int) (v_group : (List Int)) : Unit := ()
structure S_check_set (v_count : Int) (v_group : (List Int)) : Prop where
  c1 : S_is_set v_count v_group
  c2 : (!(M_is_set v_count v_group)) = false
theorem T_check_set {w : Wl} (v_count : Int) (v_group : (List Int)) (h : S_check_set v_count v_group) : G_check_set [D.int v_count, (eT D.int) v_group] w = .ok (eN (M_check_set v_count v_group)) w := by
  refine run_nxR ?_
  refine NxR.last (en1 := [.dat (D.int v_count), .dat ((eT D.int) v_group)]) ((ifF (w1 := w) (castB (c := (!(M_is_set v_count v_group))) h.c2 (not_ev (tru_ev ((efn_ev (ds := [D.int v_count, (eT D.int) v_group]) (cons_ev rfl (one_ev rfl)) rfl).trans (T_is_set v_count v_group h.c1)))))).trans rfl) ?_
  exact by first | rfl | trivial | exact ⟨_, rfl⟩ | exact ⟨_, _, rfl⟩ | exact ⟨_, _, _, rfl⟩ | exact ⟨_, _, _, _, rfl⟩ | exact ⟨_, _, _, _, _, rfl⟩ | exact ⟨_, _, _, _, _, _, rfl⟩ | exact ⟨_, _, _, _, _, _, _, rfl⟩ | exact ⟨_, _, _, _, _, _, _, _, rfl⟩
/-! row_without -/
def M_row_without_z1 (v_web : (List (List KR))) (v_index : Int) (v_at : Int) : ((List KR) × (List KR)) := ((ixI v_web v_at), (ixI v_web v_index))
def M_row_without_back1 (v_web : (List (List KR))) (v_index : Int) (v_at : Int) : Rat := (((ixI (M_row_without_z1 v_web v_index v_at).1 v_index).q * (ixI (M_row_without_z1 v_web v_index v_at).2 v_at).q))
def M_row_without_rest1 (v_web : (List (List KR))) (v_index : Int) (v_at : Int) : (Int × Int) := (((((M_row_without_back1 v_web v_index v_at).den : Nat) : Int) - (M_row_without_back1 v_web v_index v_at).num), (((M_row_without_back1 v_web v_index v_at).den : Nat) : Int))
def M_row_without_r1 (v_web : (List (List KR))) (v_index : Int) (v_at : Int) : (List KR) := bif ((decide (v_at = v_index)) || (decide ((KR.r (M_row_without_back1 v_web v_index v_at)).q = kOne.q))) then (List.replicate (Int.toNat ((v_web).length : Int)) kNil) else (List.map (fun (x3 : (Int × KR)) => (bif ((decide (x3.1 = v_index)) || (decide (x3.1 = v_at))) then kNil else (KR.r (((KR.r ((x3.2.q + (KR.r (((ixI (M_row_without_z1 v_web v_index v_at).1 v_index).q * (ixI (M_row_without_z1 v_web v_index v_at).2 x3.1).q))).q))).q / Rat.divInt (M_row_without_rest1 v_web v_index v_at).1 (M_row_without_rest1 v_web v_index v_at).2))))) (enumI (M_row_without_z1 v_web v_index v_at).1))
def M_row_without (v_web : (List (List KR))) (v_index : Int) (v_at : Int) : (List KR) := (M_row_without_r1 v_web v_index v_at)
structure S_row_without (v_web : (List (List KR))) (v_index : Int) (v_at : Int) : Prop where
  c1 : 0 ≤ v_at ∧ v_at < (v_web).length
  c2 : 0 ≤ v_index ∧ v_index < (v_web).length
  c3 : 0 ≤ v_index ∧ v_index < ((M_row_without_z1 v_web v_index v_at).1).length
  c4 : 0 ≤ v_at ∧ v_at < ((M_row_without_z1 v_web v_index v_at).2).length
  c5 : Rs (ixI (M_row_without_z1 v_web v_index v_at).1 v_index).q (ixI (M_row_without_z1 v_web v_index v_at).2 v_at).q
  c6 : ((decide (v_at = v_index)) || (decide ((KR.r (M_row_without_back1 v_web v_index v_at)).q = kOne.q))) = true → 1 ≤ ((v_web).length : Int) ∧ ((v_web).length : Int) ≤ 1000
  c7 : ((decide (v_at = v_index)) || (decide ((KR.r (M_row_without_back1 v_web v_index v_at)).q = kOne.q))) = false → ((enumI (M_row_without_z1 v_web v_index v_at).1)).length ≤ sizeLine
  c8 : ((decide (v_at = v_index)) || (decide ((KR.r (M_row_without_back1 v_web v_index v_at)).q = kOne.q))) = false → ∀ x3 : (Int × KR), x3 ∈ (enumI (M_row_without_z1 v_web v_index v_at).1) → ((decide (x3.1 = v_index)) || (decide (x3.1 = v_at))) = false → 0 ≤ v_index ∧ v_index < ((M_row_without_z1 v_web v_index v_at).1).length
  c9 : ((decide (v_at = v_index)) || (decide ((KR.r (M_row_without_back1 v_web v_index v_at)).q = kOne.q))) = false → ∀ x3 : (Int × KR), x3 ∈ (enumI (M_row_without_z1 v_web v_index v_at).1) → ((decide (x3.1 = v_index)) || (decide (x3.1 = v_at))) = false → 0 ≤ x3.1 ∧ x3.1 < ((M_row_without_z1 v_web v_index v_at).2).length
  c10 : ((decide (v_at = v_index)) || (decide ((KR.r (M_row_without_back1 v_web v_index v_at)).q = kOne.q))) = false → ∀ x3 : (Int × KR), x3 ∈ (enumI (M_row_without_z1 v_web v_index v_at).1) → ((decide (x3.1 = v_index)) || (decide (x3.1 = v_at))) = false → Rs (ixI (M_row_without_z1 v_web v_index v_at).1 v_index).q (ixI (M_row_without_z1 v_web v_index v_at).2 x3.1).q
  c11 : ((decide (v_at = v_index)) || (decide ((KR.r (M_row_without_back1 v_web v_index v_at)).q = kOne.q))) = false → ∀ x3 : (Int × KR), x3 ∈ (enumI (M_row_without_z1 v_web v_index v_at).1) → ((decide (x3.1 = v_index)) || (decide (x3.1 = v_at))) = false → Rs x3.2.q (KR.r (((ixI (M_row_without_z1 v_web v_index v_at).1 v_index).q * (ixI (M_row_without_z1 v_web v_index v_at).2 x3.1).q))).q
  c12 : ((decide (v_at = v_index)) || (decide ((KR.r (M_row_without_back1 v_web v_index v_at)).q = kOne.q))) = false → ∀ x3 : (Int × KR), x3 ∈ (enumI (M_row_without_z1 v_web v_index v_at).1) → ((decide (x3.1 = v_index)) || (decide (x3.1 = v_at))) = false → Rp (KR.r ((x3.2.q + (KR.r (((ixI (M_row_without_z1 v_web v_index v_at).1 v_index).q * (ixI (M_row_without_z1 v_web v_index v_at).2 x3.1).q))).q))).q (M_row_without_rest1 v_web v_index v_at) ∧ 0 < (M_row_without_rest1 v_web v_index v_at).1
/-! without -/
def M_without_shares1 (v_weights : (List KR)) (v_web : (List (List KR))) (v_index : Int) : (List KR) := (ixI v_web v_index)
def M_without_left1 (v_weights : (List KR)) (v_web : (List (List KR))) (v_index : Int) : (List KR) := (List.map (fun (x1 : (Int × KR)) => (bif (decide (x1.1 = v_index)) then kNil else (KR.r ((x1.2.q + (KR.r (((ixI v_weights v_index).q * (ixI (M_without_shares1 v_weights v_web v_index) x1.1).q))).q))))) (enumI v_weights))
def M_without (v_weights : (List KR)) (v_web : (List (List KR))) (v_index : Int) : ((List KR) × (List (List KR))) := ((M_without_left1 v_weights v_web v_index), (List.map (fun (x3 : Int) => (M_row_without v_web v_index x3)) (upto (Int.toNat ((v_web).length : Int)))))
structure S_without (v_weights : (List KR)) (v_web : (List (List KR))) (v_index : Int) : Prop where
  c1 : 0 ≤ v_index ∧ v_index < (v_web).length
  c2 : ((enumI v_weights)).length ≤ sizeLine
  c3 : ∀ x1 : (Int × KR), x1 ∈ (enumI v_weights) → (decide (x1.1 = v_index)) = false → 0 ≤ v_index ∧ v_index < (v_weights).length
  c4 : ∀ x1 : (Int × KR), x1 ∈ (enumI v_weights) → (decide (x1.1 = v_index)) = false → 0 ≤ x1.1 ∧ x1.1 < ((M_without_shares1 v_weights v_web v_index)).length
  c5 : ∀ x1 : (Int × KR), x1 ∈ (enumI v_weights) → (decide (x1.1 = v_index)) = false → Rs (ixI v_weights v_index).q (ixI (M_without_shares1 v_weights v_web v_index) x1.1).q
  c6 : ∀ x1 : (Int × KR), x1 ∈ (enumI v_weights) → (decide (x1.1 = v_index)) = false → Rs x1.2.q (KR.r (((ixI v_weights v_index).q * (ixI (M_without_shares1 v_weights v_web v_index) x1.1).q))).q
  c7 : small ((v_web).length : Int) = true
  c8 : ((upto (Int.toNat ((v_web).length : Int)))).length ≤ sizeLine
  c9 : ∀ x3 : Int, x3 ∈ (upto (Int.toNat ((v_web).length : Int))) → S_row_without v_web v_index x3
/-! weights_left -/
/-! web_weights -/
/-! web_bars -/
/-! check_leading_numbers -/
def M_check_leading_numbers (v_numbers : (List KR)) : Unit := ()
structure S_check_leading_numbers (v_numbers : (List KR)) : Prop where
  c1 : (!(M_tells_count v_numbers)) = false
  c2 : S_check_numbers ((v_numbers).length : Int) v_numbers
theorem T_check_leading_numbers {w : Wl} (v_numbers : (List KR)) (h : S_check_leading_numbers v_numbers) : G_check_leading_numbers [(eT eK) v_numbers] w = .ok (eN (M_check_leading_numbers v_numbers)) w := by
  refine run_nxR ?_
  refine NxR.sq (en1 := [.dat ((eT eK) v_numbers)]) ((ifF (w1 := w) (castB (c := (!(M_tells_count v_numbers))) h.c1 (not_ev (tru_ev ((efn_ev (ds := [(eT eK) v_numbers]) (one_ev rfl) rfl).trans (T_tells_count v_numbers)))))).trans rfl) ?_
  refine NxR.last (dropE ((efn_ev (ds := [D.int ((v_numbers).length : Int), (eT eK) v_numbers]) (cons_ev (lenT rfl) (one_ev rfl)) rfl).trans (T_check_numbers ((v_numbers).length : Int) v_numbers h.c2))) ?_
  exact by first | rfl | trivial | exact ⟨_, rfl⟩ | exact ⟨_, _, rfl⟩ | exact ⟨_, _, _, rfl⟩ | exact ⟨_, _, _, _, rfl⟩ | exact ⟨_, _, _, _, _, rfl⟩ | exact ⟨_, _, _, _, _, _, rfl⟩ | exact ⟨_, _, _, _, _, _, _, rfl⟩ | exact ⟨_, _, _, _, _, _, _, _, rfl⟩
/-! check_limits -/
def M_check_limits_step1 (v_count : Int) (v_limits : (List KR)) (x1 : (Int × KR)) (s2 : Unit) : Unit := ()
structure S_check_limits_l1 (v_count : Int) (v_limits : (List KR)) (x1 : (Int × KR)) (s2 : Unit) : Prop where
  c1 : (!(M_is_number x1.2)) = false → (decide (x1.2.q = kOne.q)) = false → (decide ((0 : Int) < x1.1)) = true → 0 ≤ (x1.1 - (1 : Int)) ∧ (x1.1 - (1 : Int)) < (v_limits).length
  c2 : (!(M_is_number x1.2)) = false → (decide (x1.2.q = kOne.q)) = false → (decide ((0 : Int) < x1.1)) = true → Rs (ixI v_limits (x1.1 - (1 : Int))).q x1.2.q
  c3 : ((!(M_is_number x1.2)) || ((decide (x1.2.q = kOne.q)) || ((decide ((0 : Int) < x1.1)) && (!((decide ((ixI v_limits (x1.1 - (1 : Int))).q ≤ x1.2.q))))))) = false
def M_check_limits_l1 (v_count : Int) (v_limits : (List KR)) : Unit := foldS (M_check_limits_step1 v_count v_limits) (enumI v_limits) ()
def M_check_limits (v_count : Int) (v_limits : (List KR)) : Unit := ()
structure S_check_limits (v_count : Int) (v_limits : (List KR)) : Prop where
  c1 : (!(M_is_row_TK_I v_limits v_count)) = false
  c2 : SafeL (M_check_limits_step1 v_count v_limits) (S_check_limits_l1 v_count v_limits) (enumI v_limits) ()
theorem T_check_limits {w : Wl} (v_count : Int) (v_limits : (List KR)) (h : S_check_limits v_count v_limits) : G_check_limits [D.int v_count, (eT eK) v_limits] w = .ok (eN (M_check_limits v_count v_limits)) w := by
  refine run_nxR ?_
  refine NxR.sq (en1 := [.dat (D.int v_count), .dat ((eT eK) v_limits), .non, .non]) ((ifF (w1 := w) (castB (c := (!(M_is_row_TK_I v_limits v_count))) h.c1 (not_ev (tru_ev ((efn_ev (ds := [(eT eK) v_limits, D.int v_count]) (cons_ev rfl (one_ev rfl)) rfl).trans (T_is_row_TK_I v_limits v_count)))))).trans rfl) ?_
  refine NxR.lastX (Q := (fun (s2 : Unit) (en : List Sl) => ∃ j_at j_limit : Sl, en = [.dat (D.int v_count), .dat ((eT eK) v_limits), j_at, j_limit]) (M_check_limits_l1 v_count v_limits)) (forE (e := (eP D.int eK)) (xs := (enumI v_limits)) (M_check_limits_step1 v_count v_limits) (S_check_limits_l1 v_count v_limits) (fun (s2 : Unit) (en : List Sl) => ∃ j_at j_limit : Sl, en = [.dat (D.int v_count), .dat ((eT eK) v_limits), j_at, j_limit]) (s0 := ()) (enumT rfl) ⟨_, _, rfl⟩ h.c2 (fun x1 s2 en hx1 g3 hq => ?_)) (fun en7 hq8 => ?_)
  · obtain ⟨j_at, j_limit, rfl⟩ := hq
    refine ⟨_, rfl, ?_⟩
    refine NxR.last (en1 := [.dat (D.int v_count), .dat ((eT eK) v_limits), .dat (D.int x1.1), .dat (eK x1.2)]) ((ifF (w1 := w) (castB (c := ((!(M_is_number x1.2)) || ((decide (x1.2.q = kOne.q)) || ((decide ((0 : Int) < x1.1)) && (!((decide ((ixI v_limits (x1.1 - (1 : Int))).q ≤ x1.2.q)))))))) g3.c3 (orE (c := (!(M_is_number x1.2))) (not_ev (tru_ev ((efn_ev (ds := [eK x1.2]) (one_ev rfl) rfl).trans (T_is_number x1.2)))) (fun hc4 => (orE (c := (decide (x1.2.q = kOne.q))) (eqKE rfl rfl) (fun hc5 => (andE (c := (decide ((0 : Int) < x1.1))) (gt_ev rfl rfl) (fun hc6 => (not_ev (tru_ev ((efn_ev (ds := [eK (ixI v_limits (x1.1 - (1 : Int))), eK x1.2]) (cons_ev (ixT rfl (MD.sub_ev rfl rfl) (g3.c1 hc4 hc5 hc6)) (one_ev rfl)) rfl).trans (MD.T_is_at_most (ixI v_limits (x1.1 - (1 : Int))) x1.2 (g3.c2 hc4 hc5 hc6))))))))))))).trans rfl) ?_
    exact by first | rfl | trivial | exact ⟨_, rfl⟩ | exact ⟨_, _, rfl⟩ | exact ⟨_, _, _, rfl⟩ | exact ⟨_, _, _, _, rfl⟩ | exact ⟨_, _, _, _, _, rfl⟩ | exact ⟨_, _, _, _, _, _, rfl⟩ | exact ⟨_, _, _, _, _, _, _, rfl⟩ | exact ⟨_, _, _, _, _, _, _, _, rfl⟩
  obtain ⟨j_at, j_limit, rfl⟩ := hq8
  exact by first | rfl | trivial | exact ⟨_, rfl⟩ | exact ⟨_, _, rfl⟩ | exact ⟨_, _, _, rfl⟩ | exact ⟨_, _, _, _, rfl⟩ | exact ⟨_, _, _, _, _, rfl⟩ | exact ⟨_, _, _, _, _, _, rfl⟩ | exact ⟨_, _, _, _, _, _, _, rfl⟩ | exact ⟨_, _, _, _, _, _, _, _, rfl⟩
/-! up_to -/
def M_up_to_TK_K (v_numbers : (List KR)) (v_limit : KR) : (List Int) := (List.map (fun (x1 : (Int × KR)) => x1.1) (List.filter (fun (x1 : (Int × KR)) => ((decide (x1.2.q ≤ v_limit.q)))) (enumI v_numbers)))
structure S_up_to_TK_K (v_numbers : (List KR)) (v_limit : KR) : Prop where
  c1 : ((enumI v_numbers)).length ≤ sizeLine
  c2 : ∀ x1 : (Int × KR), x1 ∈ (enumI v_numbers) → Rs x1.2.q v_limit.q
theorem T_up_to_TK_K {w : Wl} (v_numbers : (List KR)) (v_limit : KR) (h : S_up_to_TK_K v_numbers v_limit) : G_up_to [(eT eK) v_numbers, eK v_limit] w = .ok ((eT D.int) (M_up_to_TK_K v_numbers v_limit)) w := by
  refine run_rt ?_
  exact retE (tupL (filtE (e := (eP D.int eK)) (e2 := D.int) (xs := (enumI v_numbers)) (p := (fun (x1 : (Int × KR)) => ((decide (x1.2.q ≤ v_limit.q))))) (f := (fun (x1 : (Int × KR)) => x1.1)) (enumT rfl) h.c1 (fun x1 hx1 => ⟨_, rfl, (tru_ev ((efn_ev (ds := [eK x1.2, eK v_limit]) (cons_ev rfl (one_ev rfl)) rfl).trans (MD.T_is_at_most x1.2 v_limit (h.c2 x1 hx1)))), fun hc2 => rfl⟩)))
/-! called_up -/
def M_called_up_found1 (v_numbers : (List KR)) (v_limits : (List KR)) : (List Int) := []
def M_called_up_found2 (v_numbers : (List KR)) (v_limits : (List KR)) (x1 : (Int × KR)) (s2 : (List Int)) : (List Int) := bif (decide (x1.1 < (((M_up_to_TK_K v_numbers x1.2)).length : Int))) then (M_up_to_TK_K v_numbers x1.2) else s2
def M_called_up_step1 (v_numbers : (List KR)) (v_limits : (List KR)) (x1 : (Int × KR)) (s2 : (List Int)) : (List Int) := (M_called_up_found2 v_numbers v_limits x1 s2)
structure S_called_up_l1 (v_numbers : (List KR)) (v_limits : (List KR)) (x1 : (Int × KR)) (s2 : (List Int)) : Prop where
  c1 : S_up_to_TK_K v_numbers x1.2
def M_called_up_l1 (v_numbers : (List KR)) (v_limits : (List KR)) : (List Int) := foldS (M_called_up_step1 v_numbers v_limits) (enumI v_limits) (M_called_up_found1 v_numbers v_limits)
def M_called_up (v_numbers : (List KR)) (v_limits : (List KR)) : (List Int) := (M_called_up_l1 v_numbers v_limits)
structure S_called_up (v_numbers : (List KR)) (v_limits : (List KR)) : Prop where
  c1 : SafeL (M_called_up_step1 v_numbers v_limits) (S_called_up_l1 v_numbers v_limits) (enumI v_limits) (M_called_up_found1 v_numbers v_limits)
theorem T_called_up {w : Wl} (v_numbers : (List KR)) (v_limits : (List KR)) (h : S_called_up v_numbers v_limits) : G_called_up [(eT eK) v_numbers, (eT eK) v_limits] w = .ok ((eT D.int) (M_called_up v_numbers v_limits)) w := by
  refine run_rt ?_
  refine sq (setE (dv := (eT D.int) (M_called_up_found1 v_numbers v_limits)) rfl) ?_
  refine sqX (Q := (fun (s2 : (List Int)) (en : List Sl) => ∃ j_at j_limit j_within : Sl, en = [.dat ((eT eK) v_numbers), .dat ((eT eK) v_limits), .dat ((eT D.int) s2), j_at, j_limit, j_within]) (M_called_up_l1 v_numbers v_limits)) (forE (e := (eP D.int eK)) (xs := (enumI v_limits)) (M_called_up_step1 v_numbers v_limits) (S_called_up_l1 v_numbers v_limits) (fun (s2 : (List Int)) (en : List Sl) => ∃ j_at j_limit j_within : Sl, en = [.dat ((eT eK) v_numbers), .dat ((eT eK) v_limits), .dat ((eT D.int) s2), j_at, j_limit, j_within]) (s0 := (M_called_up_found1 v_numbers v_limits)) (enumT rfl) ⟨_, _, _, rfl⟩ h.c1 (fun x1 s2 en hx1 g3 hq => ?_)) (fun en5 hq6 => ?_)
  · obtain ⟨j_at, j_limit, j_within, rfl⟩ := hq
    refine ⟨_, rfl, ?_⟩
    refine NxR.sq (setE (dv := (eT D.int) (M_up_to_TK_K v_numbers x1.2)) ((efn_ev (ds := [(eT eK) v_numbers, eK x1.2]) (cons_ev rfl (one_ev rfl)) rfl).trans (T_up_to_TK_K v_numbers x1.2 g3.c1))) ?_
    refine NxR.last (iteE (c := (decide (x1.1 < (((M_up_to_TK_K v_numbers x1.2)).length : Int)))) (en1 := [.dat ((eT eK) v_numbers), .dat ((eT eK) v_limits), .dat ((eT D.int) (M_called_up_found2 v_numbers v_limits x1 s2)), .dat (D.int x1.1), .dat (eK x1.2), .dat ((eT D.int) (M_up_to_TK_K v_numbers x1.2))]) (w1 := w) (w2 := w) (gt_ev (lenT rfl) rfl) (fun hc4 => (by rw [show (M_called_up_found2 v_numbers v_limits x1 s2) = (M_up_to_TK_K v_numbers x1.2) from by unfold M_called_up_found2; rw [hc4]; rfl]; exact (setE (dv := (eT D.int) (M_up_to_TK_K v_numbers x1.2)) rfl))) (fun hc4 => (by rw [show (M_called_up_found2 v_numbers v_limits x1 s2) = s2 from by unfold M_called_up_found2; rw [hc4]; rfl]; exact passE))) ?_
    exact by first | rfl | trivial | exact ⟨_, rfl⟩ | exact ⟨_, _, rfl⟩ | exact ⟨_, _, _, rfl⟩ | exact ⟨_, _, _, _, rfl⟩ | exact ⟨_, _, _, _, _, rfl⟩ | exact ⟨_, _, _, _, _, _, rfl⟩ | exact ⟨_, _, _, _, _, _, _, rfl⟩ | exact ⟨_, _, _, _, _, _, _, _, rfl⟩
  obtain ⟨j_at, j_limit, j_within, rfl⟩ := hq6
  exact retE rfl
/-! step_up -/
/-! up_to -/
def M_up_to_TK_PII (v_numbers : (List KR)) (v_limit : (Int × Int)) : (List Int) := (List.map (fun (x1 : (Int × KR)) => x1.1) (List.filter (fun (x1 : (Int × KR)) => ((decide (x1.2.q ≤ Rat.divInt v_limit.1 v_limit.2)))) (enumI v_numbers)))
structure S_up_to_TK_PII (v_numbers : (List KR)) (v_limit : (Int × Int)) : Prop where
  c1 : ((enumI v_numbers)).length ≤ sizeLine
  c2 : ∀ x1 : (Int × KR), x1 ∈ (enumI v_numbers) → Rp x1.2.q v_limit
/-! up_to -/
/-! up_to -/
/-! step_down -/
/-! false_of -/
/-! surely_false -/
/-! called_by -/
/-! first_step -/
/-! web_calls -/
/-! are_left -/
def M_are_left_below1 (v_numbers : (List KR)) (v_degree : KR) (v_size : Int) : Int := (((v_numbers).length : Int) - v_size)
def M_are_left (v_numbers : (List KR)) (v_degree : KR) (v_size : Int) : Bool := (List.all (List.map (fun (x1 : Int) => (decide ((((M_up_to_TK_PII v_numbers ((x1 * v_degree.q.num), (v_size * ((v_degree.q.den : Nat) : Int))))).length : Int) < ((M_are_left_below1 v_numbers v_degree v_size) + x1)))) (fromI (1 : Int) (v_size + (1 : Int)))) id)
structure S_are_left (v_numbers : (List KR)) (v_degree : KR) (v_size : Int) : Prop where
  c1 : small (1 : Int) = true ∧ small (v_size + (1 : Int)) = true
  c2 : ((fromI (1 : Int) (v_size + (1 : Int)))).length ≤ sizeLine
  c3 : ∀ x1 : Int, x1 ∈ (fromI (1 : Int) (v_size + (1 : Int))) → CMulW x1 v_degree.q.num
  c4 : ∀ x1 : Int, x1 ∈ (fromI (1 : Int) (v_size + (1 : Int))) → CMulW v_size ((v_degree.q.den : Nat) : Int)
  c5 : ∀ x1 : Int, x1 ∈ (fromI (1 : Int) (v_size + (1 : Int))) → S_up_to_TK_PII v_numbers ((x1 * v_degree.q.num), (v_size * ((v_degree.q.den : Nat) : Int)))
/-! greatest_left -/
def M_greatest_left (v_numbers : (List KR)) (v_degree : KR) : Int := (maxL (List.filter (fun (x1 : Int) => (M_are_left v_numbers v_degree x1)) (upto (Int.toNat (((v_numbers).length : Int) + (1 : Int))))))
structure S_greatest_left (v_numbers : (List KR)) (v_degree : KR) : Prop where
  c1 : small (((v_numbers).length : Int) + (1 : Int)) = true
  c2 : ((upto (Int.toNat (((v_numbers).length : Int) + (1 : Int))))).length ≤ sizeLine
  c3 : ∀ x1 : Int, x1 ∈ (upto (Int.toNat (((v_numbers).length : Int) + (1 : Int)))) → S_are_left v_numbers v_degree x1
  c4 : (List.filter (fun (x1 : Int) => (M_are_left v_numbers v_degree x1)) (upto (Int.toNat (((v_numbers).length : Int) + (1 : Int))))) ≠ []
/-! hommel_number -/
/-! ranked_count -/
/-! check_leading_limits -/
def M_check_leading_limits (v_limits : (List KR)) : Unit := ()
structure S_check_leading_limits (v_limits : (List KR)) : Prop where
  c1 : (!(M_tells_count v_limits)) = false
  c2 : S_check_limits ((v_limits).length : Int) v_limits
theorem T_check_leading_limits {w : Wl} (v_limits : (List KR)) (h : S_check_leading_limits v_limits) : G_check_leading_limits [(eT eK) v_limits] w = .ok (eN (M_check_leading_limits v_limits)) w := by
  refine run_nxR ?_
  refine NxR.sq (en1 := [.dat ((eT eK) v_limits)]) ((ifF (w1 := w) (castB (c := (!(M_tells_count v_limits))) h.c1 (not_ev (tru_ev ((efn_ev (ds := [(eT eK) v_limits]) (one_ev rfl) rfl).trans (T_tells_count v_limits)))))).trans rfl) ?_
  refine NxR.last (dropE ((efn_ev (ds := [D.int ((v_limits).length : Int), (eT eK) v_limits]) (cons_ev (lenT rfl) (one_ev rfl)) rfl).trans (T_check_limits ((v_limits).length : Int) v_limits h.c2))) ?_
  exact by first | rfl | trivial | exact ⟨_, rfl⟩ | exact ⟨_, _, rfl⟩ | exact ⟨_, _, _, rfl⟩ | exact ⟨_, _, _, _, rfl⟩ | exact ⟨_, _, _, _, _, rfl⟩ | exact ⟨_, _, _, _, _, _, rfl⟩ | exact ⟨_, _, _, _, _, _, _, rfl⟩ | exact ⟨_, _, _, _, _, _, _, _, rfl⟩
/-! down_risk -/
/-! true_corners -/
/-! share_worth -/
def M_share_worth_calls1 (v_limits : (List KR)) (v_group : (List Int)) (v_others : Int) : Int := (((v_group).length : Int) + v_others)
def M_share_worth (v_limits : (List KR)) (v_group : (List Int)) (v_others : Int) : ((List (Option KR)) × Rat) := ((M_alike ((v_limits).length : Int) v_group (ixI v_limits ((M_share_worth_calls1 v_limits v_group v_others) - (1 : Int)))), ((Rat.divInt ((v_group).length : Int) (M_share_worth_calls1 v_limits v_group v_others))))
structure S_share_worth (v_limits : (List KR)) (v_group : (List Int)) (v_others : Int) : Prop where
  c1 : 0 ≤ ((M_share_worth_calls1 v_limits v_group v_others) - (1 : Int)) ∧ ((M_share_worth_calls1 v_limits v_group v_others) - (1 : Int)) < (v_limits).length
  c2 : S_alike ((v_limits).length : Int) v_group (ixI v_limits ((M_share_worth_calls1 v_limits v_group v_others) - (1 : Int)))
  c3 : Fb (M_share_worth_calls1 v_limits v_group v_others)
theorem T_share_worth {w : Wl} (v_limits : (List KR)) (v_group : (List Int)) (v_others : Int) (h : S_share_worth v_limits v_group v_others) : G_share_worth [(eT eK) v_limits, (eT D.int) v_group, D.int v_others] w = .ok ((eP (eT (eO eK)) encR) (M_share_worth v_limits v_group v_others)) w := by
  refine run_rt ?_
  refine sq (setE (dv := D.int (M_share_worth_calls1 v_limits v_group v_others)) (add_ev (lenT rfl) rfl)) ?_
  exact retE (etup_ev (cons_ev ((efn_ev (ds := [D.int ((v_limits).length : Int), (eT D.int) v_group, eK (ixI v_limits ((M_share_worth_calls1 v_limits v_group v_others) - (1 : Int)))]) (cons_ev (lenT rfl) (cons_ev rfl (one_ev (ixT rfl (MD.sub_ev rfl rfl) h.c1)))) rfl).trans (T_alike ((v_limits).length : Int) v_group (ixI v_limits ((M_share_worth_calls1 v_limits v_group v_others) - (1 : Int))) h.c2)) (one_ev ((efn_ev (ds := [D.int ((v_group).length : Int), D.int (M_share_worth_calls1 v_limits v_group v_others)]) (cons_ev (lenT rfl) (one_ev rfl)) rfl).trans (MD.T_lowest ((v_group).length : Int) (M_share_worth_calls1 v_limits v_group v_others) h.c3)))) (show 2 ≤ sizeLine by decide))
/-! share -/
def M_share_r1 (v_numbers : (List KR)) (v_limits : (List KR)) (v_lot : (List Int)) : KR := bif (decide ((M_called_up v_numbers v_limits) = [])) then kNil else (KR.r ((Rat.divInt (((List.filter (fun (x2 : Int) => (decide (x2 ∈ v_lot))) (M_called_up v_numbers v_limits))).length : Int) (((M_called_up v_numbers v_limits)).length : Int))))
def M_share (v_numbers : (List KR)) (v_limits : (List KR)) (v_lot : (List Int)) : KR := (M_share_r1 v_numbers v_limits v_lot)
structure S_share (v_numbers : (List KR)) (v_limits : (List KR)) (v_lot : (List Int)) : Prop where
  c1 : S_check_leading_numbers v_numbers
  c2 : S_check_limits ((v_numbers).length : Int) v_limits
  c3 : S_check_set ((v_numbers).length : Int) v_lot
  c4 : S_called_up v_numbers v_limits
  c5 : (decide ((M_called_up v_numbers v_limits) = [])) = false → ((M_called_up v_numbers v_limits)).length ≤ sizeLine
  c6 : (decide ((M_called_up v_numbers v_limits) = [])) = false → Fb (((M_called_up v_numbers v_limits)).length : Int)
theorem T_share {w : Wl} (v_numbers : (List KR)) (v_limits : (List KR)) (v_lot : (List Int)) (h : S_share v_numbers v_limits v_lot) : G_share [(eT eK) v_numbers, (eT eK) v_limits, (eT D.int) v_lot] w = .ok (eK (M_share v_numbers v_limits v_lot)) w := by
  refine run_rt ?_
  refine sq (dropE ((efn_ev (ds := [(eT eK) v_numbers]) (one_ev rfl) rfl).trans (T_check_leading_numbers v_numbers h.c1))) ?_
  refine sq (dropE ((efn_ev (ds := [D.int ((v_numbers).length : Int), (eT eK) v_limits]) (cons_ev (lenT rfl) (one_ev rfl)) rfl).trans (T_check_limits ((v_numbers).length : Int) v_limits h.c2))) ?_
  refine sq (dropE ((efn_ev (ds := [D.int ((v_numbers).length : Int), (eT D.int) v_lot]) (cons_ev (lenT rfl) (one_ev rfl)) rfl).trans (T_check_set ((v_numbers).length : Int) v_lot h.c3))) ?_
  refine sq (setE (dv := (eT D.int) (M_called_up v_numbers v_limits)) ((efn_ev (ds := [(eT eK) v_numbers, (eT eK) v_limits]) (cons_ev rfl (one_ev rfl)) rfl).trans (T_called_up v_numbers v_limits h.c4))) ?_
  show _ = Out.rt (eK (M_share_r1 v_numbers v_limits v_lot)) w
  cases hc1 : (decide ((M_called_up v_numbers v_limits) = [])) with
  | true =>
    rw [show (M_share_r1 v_numbers v_limits v_lot) = kNil from by unfold M_share_r1; rw [hc1]; rfl]
    refine ifTs (castB (c := (decide ((M_called_up v_numbers v_limits) = []))) hc1 (eqE (e := (eT D.int)) (x := (M_called_up v_numbers v_limits)) (y := []) eqv_isT rfl rfl)) ?_
    exact retE rfl
  | false =>
    rw [show (M_share_r1 v_numbers v_limits v_lot) = (KR.r ((Rat.divInt (((List.filter (fun (x2 : Int) => (decide (x2 ∈ v_lot))) (M_called_up v_numbers v_limits))).length : Int) (((M_called_up v_numbers v_limits)).length : Int)))) from by unfold M_share_r1; rw [hc1]; rfl]
    refine (ifF_seq (castB (c := (decide ((M_called_up v_numbers v_limits) = []))) hc1 (eqE (e := (eT D.int)) (x := (M_called_up v_numbers v_limits)) (y := []) eqv_isT rfl rfl))).trans ?_
    exact retE (castE (d := encR ((Rat.divInt (((List.filter (fun (x2 : Int) => (decide (x2 ∈ v_lot))) (M_called_up v_numbers v_limits))).length : Int) (((M_called_up v_numbers v_limits)).length : Int)))) rfl ((efn_ev (ds := [D.int (((List.filter (fun (x2 : Int) => (decide (x2 ∈ v_lot))) (M_called_up v_numbers v_limits))).length : Int), D.int (((M_called_up v_numbers v_limits)).length : Int)]) (cons_ev (lenL (filtI (filtE (e := D.int) (e2 := D.int) (xs := (M_called_up v_numbers v_limits)) (p := (fun (x2 : Int) => (decide (x2 ∈ v_lot)))) (f := (fun (x2 : Int) => x2)) (seqT rfl) (h.c5 hc1) (fun x2 hx2 => ⟨_, rfl, (inT (e := D.int) (x := x2) (xs := v_lot) eqv_int rfl rfl), fun hc3 => rfl⟩)))) (one_ev (lenT rfl))) rfl).trans (MD.T_lowest (((List.filter (fun (x2 : Int) => (decide (x2 ∈ v_lot))) (M_called_up v_numbers v_limits))).length : Int) (((M_called_up v_numbers v_limits)).length : Int) (h.c6 hc1))))
/-! check_number_of -/
/-! is_wrong -/
/-! corners_of -/
end
end MP

set_option exponentiation.threshold 20000
/-! Models by hand: bars, which are kept in dicts. -/
namespace MP
open PySem PySem.Spec L2 DL PF MD
open LV (encR IsR isR Rz)
open PyProof.Rows hiding St
noncomputable section
abbrev BarK := IS × List (Option KR)
section
variable {w : Wl}
/-! ### possible lots -/
end
end
end MP

set_option exponentiation.threshold 20000
namespace MP
open PySem PySem.Spec L2 DL PF MD
open LV (encR IsR isR Rz)
open PyProof.Rows hiding St
noncomputable section
/-! check_bars -/
/-! scaled_bars -/
/-! are_bars -/
/-! possible_lots -/
/-! called -/
/-! sure_count -/
end
end MP

set_option exponentiation.threshold 20000
/-! Models by hand: the laws' fractions at fractions of the program. -/
namespace MD
open PySem PySem.Spec L2 DL PF LV
open PyProof.Rows hiding St
section
variable {w : Wl}
theorem T__law_below_k (a b : KR) (h : Rs a.q b.q) : LV.G__law_below [eK a, eK b] w = .ok (D.bl (decide (a.q < b.q))) w := by
  obtain ⟨B, C, hp, hq, h⟩ := h
  have e : decide (a.q < b.q) = decide (a.q.num * b.q.den < b.q.num * a.q.den) := by
    rw [decide_eq_decide]
    exact Rat.lt_iff a.q b.q
  rw [e]
  refine run_rt (ret_ev ((bin_ev (w1 := w) (mul_ev (w1 := w) (w2 := w) (num_ev rfl (isK a)) (den_ev rfl (isK b)) hp.num hq.den (by omega)) (mul_ev (w1 := w) (w2 := w) (num_ev rfl (isK b)) (den_ev rfl (isK a)) hq.num hp.den (by omega))).trans (oLt_int _ _)))
end
end MD

set_option exponentiation.threshold 20000
namespace ML
open PySem PySem.Spec L2 DL PF MD MP LV
open LV (encR IsR isR Rz)
open PyProof.Rows hiding St
noncomputable section
/-! _law_pick -/
def M_law_pick_TI_d1 (v_some : (List Int)) (w : Wl) : Int × Wl := M_draw ((v_some).length : Int) w
def M_law_pick_TI (v_some : (List Int)) (w : Wl) : Int × Wl := ((ixI v_some (M_law_pick_TI_d1 v_some w).1), (M_law_pick_TI_d1 v_some w).2)
structure S_law_pick_TI (v_some : (List Int)) (w : Wl) : Prop where
  c1 : S_draw ((v_some).length : Int) w
  c2 : 0 ≤ (M_law_pick_TI_d1 v_some w).1 ∧ (M_law_pick_TI_d1 v_some w).1 < (v_some).length
theorem T_law_pick_TI (v_some : (List Int)) (w : Wl) (h : S_law_pick_TI v_some w) : G__law_pick [.well, (eT D.int) v_some] w = .ok (D.int (M_law_pick_TI v_some w).1) (M_law_pick_TI v_some w).2 := by
  refine run_rt ?_
  exact retE (ixT rfl ((efn_ev (ds := [.well, D.int ((v_some).length : Int)]) (cons_ev rfl (one_ev (lenT rfl))) rfl).trans (MD.T_draw ((v_some).length : Int) w h.c1)) h.c2)
/-! _law_pick -/
def M_law_pick_TR_d1 (v_some : (List Rat)) (w : Wl) : Int × Wl := M_draw ((v_some).length : Int) w
def M_law_pick_TR (v_some : (List Rat)) (w : Wl) : Rat × Wl := ((ixI v_some (M_law_pick_TR_d1 v_some w).1), (M_law_pick_TR_d1 v_some w).2)
structure S_law_pick_TR (v_some : (List Rat)) (w : Wl) : Prop where
  c1 : S_draw ((v_some).length : Int) w
  c2 : 0 ≤ (M_law_pick_TR_d1 v_some w).1 ∧ (M_law_pick_TR_d1 v_some w).1 < (v_some).length
theorem T_law_pick_TR (v_some : (List Rat)) (w : Wl) (h : S_law_pick_TR v_some w) : G__law_pick [.well, (eT encR) v_some] w = .ok (encR (M_law_pick_TR v_some w).1) (M_law_pick_TR v_some w).2 := by
  refine run_rt ?_
  exact retE (ixT rfl ((efn_ev (ds := [.well, D.int ((v_some).length : Int)]) (cons_ev rfl (one_ev (lenT rfl))) rfl).trans (MD.T_draw ((v_some).length : Int) w h.c1)) h.c2)
/-! _law_pick -/
def M_law_pick_LR_d1 (v_some : (List Rat)) (w : Wl) : Int × Wl := M_draw ((v_some).length : Int) w
def M_law_pick_LR (v_some : (List Rat)) (w : Wl) : Rat × Wl := ((ixI v_some (M_law_pick_LR_d1 v_some w).1), (M_law_pick_LR_d1 v_some w).2)
structure S_law_pick_LR (v_some : (List Rat)) (w : Wl) : Prop where
  c1 : S_draw ((v_some).length : Int) w
  c2 : 0 ≤ (M_law_pick_LR_d1 v_some w).1 ∧ (M_law_pick_LR_d1 v_some w).1 < (v_some).length
theorem T_law_pick_LR (v_some : (List Rat)) (w : Wl) (h : S_law_pick_LR v_some w) : G__law_pick [.well, (eL encR) v_some] w = .ok (encR (M_law_pick_LR v_some w).1) (M_law_pick_LR v_some w).2 := by
  refine run_rt ?_
  exact retE (ixL rfl ((efn_ev (ds := [.well, D.int ((v_some).length : Int)]) (cons_ev rfl (one_ev (lenL rfl))) rfl).trans (MD.T_draw ((v_some).length : Int) w h.c1)) h.c2)
/-! _law_pick -/
/-! _law_pick -/
def M_law_pick_LTI_d1 (v_some : (List (List Int))) (w : Wl) : Int × Wl := M_draw ((v_some).length : Int) w
def M_law_pick_LTI (v_some : (List (List Int))) (w : Wl) : (List Int) × Wl := ((ixI v_some (M_law_pick_LTI_d1 v_some w).1), (M_law_pick_LTI_d1 v_some w).2)
structure S_law_pick_LTI (v_some : (List (List Int))) (w : Wl) : Prop where
  c1 : S_draw ((v_some).length : Int) w
  c2 : 0 ≤ (M_law_pick_LTI_d1 v_some w).1 ∧ (M_law_pick_LTI_d1 v_some w).1 < (v_some).length
theorem T_law_pick_LTI (v_some : (List (List Int))) (w : Wl) (h : S_law_pick_LTI v_some w) : G__law_pick [.well, (eL (eT D.int)) v_some] w = .ok ((eT D.int) (M_law_pick_LTI v_some w).1) (M_law_pick_LTI v_some w).2 := by
  refine run_rt ?_
  exact retE (ixL rfl ((efn_ev (ds := [.well, D.int ((v_some).length : Int)]) (cons_ev rfl (one_ev (lenL rfl))) rfl).trans (MD.T_draw ((v_some).length : Int) w h.c1)) h.c2)
/-! _law_pick -/
/-! _law_pick -/
/-! _law_yard -/
/-! _law_loads -/
/-! _law_level -/
def M_law_level_d1 (w : Wl) : Int × Wl := M_draw (4 : Int) w
def M_law_level_d2 (w : Wl) : Rat × Wl := M_law_pick_TR [(mkRat 1 20), (mkRat 1 10), (mkRat 1 2), (1 : Rat), (mkRat 1 3), (mkRat 1 4), (mkRat 2 3)] ((M_law_level_d1 w).2)
def M_law_level_d3 (w : Wl) : Int × Wl := M_law_pick_TI [(5 : Int), (12 : Int), (60 : Int), (997 : Int), (1000000 : Int)] ((M_law_level_d1 w).2)
def M_law_level_d4 (w : Wl) : Int × Wl := M_draw ((M_law_level_d3 w).1) ((M_law_level_d3 w).2)
def M_law_level_r1 (w : Wl) : Rat × Wl := bif (decide ((M_law_level_d1 w).1 < (2 : Int))) then ((M_law_level_d2 w).1, (M_law_level_d2 w).2) else (((Rat.divInt ((1 : Int) + (M_law_level_d4 w).1) ((M_law_level_d3 w).1))), (M_law_level_d4 w).2)
def M_law_level (w : Wl) : Rat × Wl := (M_law_level_r1 w)
structure S_law_level (w : Wl) : Prop where
  c1 : S_draw (4 : Int) w
  c2 : (decide ((M_law_level_d1 w).1 < (2 : Int))) = true → S_law_pick_TR [(mkRat 1 20), (mkRat 1 10), (mkRat 1 2), (1 : Rat), (mkRat 1 3), (mkRat 1 4), (mkRat 2 3)] ((M_law_level_d1 w).2)
  c3 : (decide ((M_law_level_d1 w).1 < (2 : Int))) = false → S_law_pick_TI [(5 : Int), (12 : Int), (60 : Int), (997 : Int), (1000000 : Int)] ((M_law_level_d1 w).2)
  c4 : (decide ((M_law_level_d1 w).1 < (2 : Int))) = false → S_draw ((M_law_level_d3 w).1) ((M_law_level_d3 w).2)
  c5 : (decide ((M_law_level_d1 w).1 < (2 : Int))) = false → Fb ((M_law_level_d3 w).1)
theorem T_law_level (w : Wl) (h : S_law_level w) : G__law_level [.well] w = .ok (encR (M_law_level w).1) (M_law_level w).2 := by
  refine run_rt ?_
  refine sq (setE (dv := D.int ((M_law_level_d1 w).1)) ((efn_ev (ds := [.well, D.int (4 : Int)]) (cons_ev rfl (one_ev rfl)) rfl).trans (MD.T_draw (4 : Int) w h.c1))) ?_
  show _ = Out.rt (encR (M_law_level_r1 w).1) (M_law_level_r1 w).2
  cases hc1 : (decide ((M_law_level_d1 w).1 < (2 : Int))) with
  | true =>
    rw [show (M_law_level_r1 w) = ((M_law_level_d2 w).1, (M_law_level_d2 w).2) from by unfold M_law_level_r1; rw [hc1]; rfl]
    refine ifTs (castB (c := (decide ((M_law_level_d1 w).1 < (2 : Int)))) hc1 (MD.lt_ev rfl rfl)) ?_
    exact retE ((efn_ev (ds := [.well, (eT encR) [(mkRat 1 20), (mkRat 1 10), (mkRat 1 2), (1 : Rat), (mkRat 1 3), (mkRat 1 4), (mkRat 2 3)]]) (cons_ev rfl (one_ev (etup_ev (cons_ev rfl (cons_ev rfl (cons_ev rfl (cons_ev rfl (cons_ev rfl (cons_ev rfl (one_ev rfl))))))) (show 7 ≤ sizeLine by decide)))) rfl).trans (T_law_pick_TR [(mkRat 1 20), (mkRat 1 10), (mkRat 1 2), (1 : Rat), (mkRat 1 3), (mkRat 1 4), (mkRat 2 3)] ((M_law_level_d1 w).2) (h.c2 hc1)))
  | false =>
    rw [show (M_law_level_r1 w) = (((Rat.divInt ((1 : Int) + (M_law_level_d4 w).1) ((M_law_level_d3 w).1))), (M_law_level_d4 w).2) from by unfold M_law_level_r1; rw [hc1]; rfl]
    refine (ifF_seq (castB (c := (decide ((M_law_level_d1 w).1 < (2 : Int)))) hc1 (MD.lt_ev rfl rfl))).trans ?_
    refine sq (setE (dv := D.int ((M_law_level_d3 w).1)) ((efn_ev (ds := [.well, (eT D.int) [(5 : Int), (12 : Int), (60 : Int), (997 : Int), (1000000 : Int)]]) (cons_ev rfl (one_ev (etup_ev (cons_ev rfl (cons_ev rfl (cons_ev rfl (cons_ev rfl (one_ev rfl))))) (show 5 ≤ sizeLine by decide)))) rfl).trans (T_law_pick_TI [(5 : Int), (12 : Int), (60 : Int), (997 : Int), (1000000 : Int)] ((M_law_level_d1 w).2) (h.c3 hc1)))) ?_
    exact retE ((efn_ev (ds := [D.int ((1 : Int) + (M_law_level_d4 w).1), D.int ((M_law_level_d3 w).1)]) (cons_ev (add_ev rfl ((efn_ev (ds := [.well, D.int ((M_law_level_d3 w).1)]) (cons_ev rfl (one_ev rfl)) rfl).trans (MD.T_draw ((M_law_level_d3 w).1) ((M_law_level_d3 w).2) (h.c4 hc1)))) (one_ev rfl)) rfl).trans (MD.T__law_low ((1 : Int) + (M_law_level_d4 w).1) ((M_law_level_d3 w).1) (h.c5 hc1)))
/-! _law_sum -/
/-! _law_edge -/
def M_law_edge (v_many : Int) (v_some : (List Int)) (v_cut : Rat) : (List (Option Rat)) := (List.map (fun (x1 : Int) => (bif (decide (x1 ∈ v_some)) then (some v_cut) else ((fun (_ : Unit) => (none : (Option Rat))) ()))) (upto (Int.toNat v_many)))
structure S_law_edge (v_many : Int) (v_some : (List Int)) (v_cut : Rat) : Prop where
  c1 : small v_many = true
  c2 : ((upto (Int.toNat v_many))).length ≤ sizeLine
theorem T_law_edge {w : Wl} (v_many : Int) (v_some : (List Int)) (v_cut : Rat) (h : S_law_edge v_many v_some v_cut) : G__law_edge [D.int v_many, (eT D.int) v_some, encR v_cut] w = .ok ((eT (eO encR)) (M_law_edge v_many v_some v_cut)) w := by
  refine run_rt ?_
  exact retE (tupL (mapE (e := D.int) (e2 := (eO encR)) (xs := (upto (Int.toNat v_many))) (f := (fun (x1 : Int) => (bif (decide (x1 ∈ v_some)) then (some v_cut) else ((fun (_ : Unit) => (none : (Option Rat))) ())))) (rng1 rfl h.c1) h.c2 (fun x1 hx1 => ⟨_, rfl, (ifE (e := (eO encR)) (c := (decide (x1 ∈ v_some))) (a := (some v_cut)) (b := ((fun (_ : Unit) => (none : (Option Rat))) ())) (inT (e := D.int) (x := x1) (xs := v_some) eqv_int rfl rfl) (fun hc2 => rfl) (fun hc2 => rfl))⟩)))
/-! _law_weighed -/
/-! _law_sum -/
/-! _law_sum -/
/-! _law_sum -/
/-! _law_ranked -/
/-! _law_cuts -/
/-! _law_any_part -/
def M_law_any_part_d1 (w : Wl) : Int × Wl := M_law_pick_TI [(2 : Int), (3 : Int), (4 : Int), (10 : Int), (20 : Int), (60 : Int), (7 : Int), (1 : Int), (997 : Int), (1000000000 : Int)] w
def M_law_any_part_d2 (w : Wl) : Int × Wl := M_draw ((M_law_any_part_d1 w).1 + (1 : Int)) ((M_law_any_part_d1 w).2)
def M_law_any_part (w : Wl) : Rat × Wl := (((Rat.divInt ((M_law_any_part_d2 w).1) ((M_law_any_part_d1 w).1))), (M_law_any_part_d2 w).2)
structure S_law_any_part (w : Wl) : Prop where
  c1 : S_law_pick_TI [(2 : Int), (3 : Int), (4 : Int), (10 : Int), (20 : Int), (60 : Int), (7 : Int), (1 : Int), (997 : Int), (1000000000 : Int)] w
  c2 : S_draw ((M_law_any_part_d1 w).1 + (1 : Int)) ((M_law_any_part_d1 w).2)
  c3 : Fb ((M_law_any_part_d1 w).1)
theorem T_law_any_part (w : Wl) (h : S_law_any_part w) : G__law_any_part [.well] w = .ok (encR (M_law_any_part w).1) (M_law_any_part w).2 := by
  refine run_rt ?_
  refine sq (setE (dv := D.int ((M_law_any_part_d1 w).1)) ((efn_ev (ds := [.well, (eT D.int) [(2 : Int), (3 : Int), (4 : Int), (10 : Int), (20 : Int), (60 : Int), (7 : Int), (1 : Int), (997 : Int), (1000000000 : Int)]]) (cons_ev rfl (one_ev (etup_ev (cons_ev rfl (cons_ev rfl (cons_ev rfl (cons_ev rfl (cons_ev rfl (cons_ev rfl (cons_ev rfl (cons_ev rfl (cons_ev rfl (one_ev rfl)))))))))) (show 10 ≤ sizeLine by decide)))) rfl).trans (T_law_pick_TI [(2 : Int), (3 : Int), (4 : Int), (10 : Int), (20 : Int), (60 : Int), (7 : Int), (1 : Int), (997 : Int), (1000000000 : Int)] w h.c1))) ?_
  exact retE ((efn_ev (ds := [D.int ((M_law_any_part_d2 w).1), D.int ((M_law_any_part_d1 w).1)]) (cons_ev ((efn_ev (ds := [.well, D.int ((M_law_any_part_d1 w).1 + (1 : Int))]) (cons_ev rfl (one_ev (add_ev rfl rfl))) rfl).trans (MD.T_draw ((M_law_any_part_d1 w).1 + (1 : Int)) ((M_law_any_part_d1 w).2) h.c2)) (one_ev rfl)) rfl).trans (MD.T__law_low ((M_law_any_part_d2 w).1) ((M_law_any_part_d1 w).1) h.c3))
/-! _law_mark -/
def M_law_mark_d1 (v_near : (List Rat)) (w : Wl) : Int × Wl := M_draw (9 : Int) w
def M_law_mark_d2 (v_near : (List Rat)) (w : Wl) : Rat × Wl := M_law_any_part ((M_law_mark_d1 v_near w).2)
def M_law_mark_d3 (v_near : (List Rat)) (w : Wl) : Rat × Wl := M_law_pick_LR v_near ((M_law_mark_d1 v_near w).2)
def M_law_mark_d4 (v_near : (List Rat)) (w : Wl) : Rat × Wl := M_law_pick_TR [(mkRat 1 60), (mkRat 1 10000), (mkRat 1 1000000000000)] ((M_law_mark_d3 v_near w).2)
def M_law_mark_found1 (v_near : (List Rat)) (w : Wl) : Rat := (bif (decide ((M_law_mark_d1 v_near w).1 = (6 : Int))) then (((M_law_mark_d3 v_near w).1 - (M_law_mark_d4 v_near w).1)) else (((M_law_mark_d3 v_near w).1 + (M_law_mark_d4 v_near w).1)))
def M_law_mark_r1 (v_near : (List Rat)) (w : Wl) : Rat × Wl := bif (decide ((M_law_mark_d1 v_near w).1 < (6 : Int))) then ((M_law_mark_d3 v_near w).1, (M_law_mark_d3 v_near w).2) else ((bif (decide ((0 : Int) ≤ (M_law_mark_found1 v_near w).num) && decide ((M_law_mark_found1 v_near w).num ≤ (((M_law_mark_found1 v_near w).den : Nat) : Int))) then (M_law_mark_found1 v_near w) else (M_law_mark_d3 v_near w).1), (M_law_mark_d4 v_near w).2)
def M_law_mark_r2 (v_near : (List Rat)) (w : Wl) : Rat × Wl := bif ((decide ((M_law_mark_d1 v_near w).1 < (2 : Int))) || (decide (v_near = ([] : (List Rat))))) then ((M_law_mark_d2 v_near w).1, (M_law_mark_d2 v_near w).2) else (M_law_mark_r1 v_near w)
def M_law_mark (v_near : (List Rat)) (w : Wl) : Rat × Wl := (M_law_mark_r2 v_near w)
structure S_law_mark (v_near : (List Rat)) (w : Wl) : Prop where
  c1 : S_draw (9 : Int) w
  c2 : ((decide ((M_law_mark_d1 v_near w).1 < (2 : Int))) || (decide (v_near = ([] : (List Rat))))) = true → S_law_any_part ((M_law_mark_d1 v_near w).2)
  c3 : ((decide ((M_law_mark_d1 v_near w).1 < (2 : Int))) || (decide (v_near = ([] : (List Rat))))) = false → S_law_pick_LR v_near ((M_law_mark_d1 v_near w).2)
  c4 : ((decide ((M_law_mark_d1 v_near w).1 < (2 : Int))) || (decide (v_near = ([] : (List Rat))))) = false → (decide ((M_law_mark_d1 v_near w).1 < (6 : Int))) = false → S_law_pick_TR [(mkRat 1 60), (mkRat 1 10000), (mkRat 1 1000000000000)] ((M_law_mark_d3 v_near w).2)
  c5 : ((decide ((M_law_mark_d1 v_near w).1 < (2 : Int))) || (decide (v_near = ([] : (List Rat))))) = false → (decide ((M_law_mark_d1 v_near w).1 < (6 : Int))) = false → (decide ((M_law_mark_d1 v_near w).1 = (6 : Int))) = true → Rs ((M_law_mark_d3 v_near w).1) ((M_law_mark_d4 v_near w).1)
  c6 : ((decide ((M_law_mark_d1 v_near w).1 < (2 : Int))) || (decide (v_near = ([] : (List Rat))))) = false → (decide ((M_law_mark_d1 v_near w).1 < (6 : Int))) = false → (decide ((M_law_mark_d1 v_near w).1 = (6 : Int))) = false → Rs ((M_law_mark_d3 v_near w).1) ((M_law_mark_d4 v_near w).1)
theorem T_law_mark (v_near : (List Rat)) (w : Wl) (h : S_law_mark v_near w) : G__law_mark [.well, (eL encR) v_near] w = .ok (encR (M_law_mark v_near w).1) (M_law_mark v_near w).2 := by
  refine run_rt ?_
  refine sq (setE (dv := D.int ((M_law_mark_d1 v_near w).1)) ((efn_ev (ds := [.well, D.int (9 : Int)]) (cons_ev rfl (one_ev rfl)) rfl).trans (MD.T_draw (9 : Int) w h.c1))) ?_
  show _ = Out.rt (encR (M_law_mark_r2 v_near w).1) (M_law_mark_r2 v_near w).2
  cases hc2 : ((decide ((M_law_mark_d1 v_near w).1 < (2 : Int))) || (decide (v_near = ([] : (List Rat))))) with
  | true =>
    rw [show (M_law_mark_r2 v_near w) = ((M_law_mark_d2 v_near w).1, (M_law_mark_d2 v_near w).2) from by unfold M_law_mark_r2; rw [hc2]; rfl]
    refine ifTs (castB (c := ((decide ((M_law_mark_d1 v_near w).1 < (2 : Int))) || (decide (v_near = ([] : (List Rat)))))) hc2 (orE (c := (decide ((M_law_mark_d1 v_near w).1 < (2 : Int)))) (MD.lt_ev rfl rfl) (fun hc1 => (eqE (e := (eL encR)) (x := v_near) (y := ([] : (List Rat))) eqv_rL rfl rfl)))) ?_
    exact retE ((efn_ev (ds := [.well]) (one_ev rfl) rfl).trans (T_law_any_part ((M_law_mark_d1 v_near w).2) (h.c2 hc2)))
  | false =>
    rw [show (M_law_mark_r2 v_near w) = (M_law_mark_r1 v_near w) from by unfold M_law_mark_r2; rw [hc2]; rfl]
    refine (ifF_seq (castB (c := ((decide ((M_law_mark_d1 v_near w).1 < (2 : Int))) || (decide (v_near = ([] : (List Rat)))))) hc2 (orE (c := (decide ((M_law_mark_d1 v_near w).1 < (2 : Int)))) (MD.lt_ev rfl rfl) (fun hc1 => (eqE (e := (eL encR)) (x := v_near) (y := ([] : (List Rat))) eqv_rL rfl rfl))))).trans ?_
    refine sq (setE (dv := encR ((M_law_mark_d3 v_near w).1)) ((efn_ev (ds := [.well, (eL encR) v_near]) (cons_ev rfl (one_ev rfl)) rfl).trans (T_law_pick_LR v_near ((M_law_mark_d1 v_near w).2) (h.c3 hc2)))) ?_
    show _ = Out.rt (encR (M_law_mark_r1 v_near w).1) (M_law_mark_r1 v_near w).2
    cases hc3 : (decide ((M_law_mark_d1 v_near w).1 < (6 : Int))) with
    | true =>
      rw [show (M_law_mark_r1 v_near w) = ((M_law_mark_d3 v_near w).1, (M_law_mark_d3 v_near w).2) from by unfold M_law_mark_r1; rw [hc3]; rfl]
      refine ifTs (castB (c := (decide ((M_law_mark_d1 v_near w).1 < (6 : Int)))) hc3 (MD.lt_ev rfl rfl)) ?_
      exact retE rfl
    | false =>
      rw [show (M_law_mark_r1 v_near w) = ((bif (decide ((0 : Int) ≤ (M_law_mark_found1 v_near w).num) && decide ((M_law_mark_found1 v_near w).num ≤ (((M_law_mark_found1 v_near w).den : Nat) : Int))) then (M_law_mark_found1 v_near w) else (M_law_mark_d3 v_near w).1), (M_law_mark_d4 v_near w).2) from by unfold M_law_mark_r1; rw [hc3]; rfl]
      refine (ifF_seq (castB (c := (decide ((M_law_mark_d1 v_near w).1 < (6 : Int)))) hc3 (MD.lt_ev rfl rfl))).trans ?_
      refine sq (setE (dv := encR ((M_law_mark_d4 v_near w).1)) ((efn_ev (ds := [.well, (eT encR) [(mkRat 1 60), (mkRat 1 10000), (mkRat 1 1000000000000)]]) (cons_ev rfl (one_ev (etup_ev (cons_ev rfl (cons_ev rfl (one_ev rfl))) (show 3 ≤ sizeLine by decide)))) rfl).trans (T_law_pick_TR [(mkRat 1 60), (mkRat 1 10000), (mkRat 1 1000000000000)] ((M_law_mark_d3 v_near w).2) (h.c4 hc2 hc3)))) ?_
      refine sq (setE (dv := encR (M_law_mark_found1 v_near w)) (ifE (e := encR) (c := (decide ((M_law_mark_d1 v_near w).1 = (6 : Int)))) (a := (((M_law_mark_d3 v_near w).1 - (M_law_mark_d4 v_near w).1))) (b := (((M_law_mark_d3 v_near w).1 + (M_law_mark_d4 v_near w).1))) (eqi_ev rfl rfl) (fun hc4 => ((efn_ev (ds := [encR ((M_law_mark_d3 v_near w).1), encR ((M_law_mark_d4 v_near w).1)]) (cons_ev rfl (one_ev rfl)) rfl).trans (MD.T__law_sub ((M_law_mark_d3 v_near w).1) ((M_law_mark_d4 v_near w).1) (h.c5 hc2 hc3 hc4)))) (fun hc4 => ((efn_ev (ds := [encR ((M_law_mark_d3 v_near w).1), encR ((M_law_mark_d4 v_near w).1)]) (cons_ev rfl (one_ev rfl)) rfl).trans (MD.T__law_add ((M_law_mark_d3 v_near w).1) ((M_law_mark_d4 v_near w).1) (h.c6 hc2 hc3 hc4)))))) ?_
      exact retE (ifE (e := encR) (c := (decide ((0 : Int) ≤ (M_law_mark_found1 v_near w).num) && decide ((M_law_mark_found1 v_near w).num ≤ (((M_law_mark_found1 v_near w).den : Nat) : Int)))) (a := (M_law_mark_found1 v_near w)) (b := (M_law_mark_d3 v_near w).1) (lele rfl (ixR0 rfl) (ixR1 rfl)) (fun hc5 => rfl) (fun hc5 => rfl))
/-! _law_marks -/
def M_law_marks_found1 (v_many : Int) (v_near : (List Rat)) (w : Wl) : (List Rat) := ([] : (List Rat))
def M_law_marks_d1 (v_many : Int) (v_near : (List Rat)) (w : Wl) (x1 : Int) (s2 : (List Rat)) (w4 : Wl) : Rat × Wl := M_law_mark v_near w4
def M_law_marks_d2 (v_many : Int) (v_near : (List Rat)) (w : Wl) (x1 : Int) (s2 : (List Rat)) (w4 : Wl) : Int × Wl := M_draw (6 : Int) ((M_law_marks_d1 v_many v_near w x1 s2 w4).2)
def M_law_marks_u1 (v_many : Int) (v_near : (List Rat)) (w : Wl) (x1 : Int) (s2 : (List Rat)) (w4 : Wl) : Wl := bif (decide ((0 : Int) < x1)) then (M_law_marks_d2 v_many v_near w x1 s2 w4).2 else (M_law_marks_d1 v_many v_near w x1 s2 w4).2
def M_law_marks_found2 (v_many : Int) (v_near : (List Rat)) (w : Wl) (x1 : Int) (s2 : (List Rat)) (w4 : Wl) : (List Rat) := (s2 ++ [(bif ((decide ((0 : Int) < x1)) && (decide ((M_law_marks_d2 v_many v_near w x1 s2 w4).1 = (0 : Int)))) then (ixI s2 (0 : Int)) else (M_law_marks_d1 v_many v_near w x1 s2 w4).1)])
def M_law_marks_step1 (v_many : Int) (v_near : (List Rat)) (w : Wl) (x1 : Int) (s2 : (List Rat)) (w4 : Wl) : (List Rat) × Wl := ((M_law_marks_found2 v_many v_near w x1 s2 w4), (M_law_marks_u1 v_many v_near w x1 s2 w4))
structure S_law_marks_l1 (v_many : Int) (v_near : (List Rat)) (w : Wl) (x1 : Int) (s2 : (List Rat)) (w4 : Wl) : Prop where
  c1 : S_law_mark v_near w4
  c2 : (decide ((0 : Int) < x1)) = true → S_draw (6 : Int) ((M_law_marks_d1 v_many v_near w x1 s2 w4).2)
  c3 : ((decide ((0 : Int) < x1)) && (decide ((M_law_marks_d2 v_many v_near w x1 s2 w4).1 = (0 : Int)))) = true → 0 ≤ (0 : Int) ∧ (0 : Int) < (s2).length
  c4 : (s2).length < sizeLine
def M_law_marks_l1 (v_many : Int) (v_near : (List Rat)) (w : Wl) : (List Rat) × Wl := foldW (M_law_marks_step1 v_many v_near w) (upto (Int.toNat v_many)) (M_law_marks_found1 v_many v_near w) w
def M_law_marks (v_many : Int) (v_near : (List Rat)) (w : Wl) : (List Rat) × Wl := ((M_law_marks_l1 v_many v_near w).1, (M_law_marks_l1 v_many v_near w).2)
structure S_law_marks (v_many : Int) (v_near : (List Rat)) (w : Wl) : Prop where
  c1 : small v_many = true
  c2 : SafeLW (M_law_marks_step1 v_many v_near w) (S_law_marks_l1 v_many v_near w) (upto (Int.toNat v_many)) (M_law_marks_found1 v_many v_near w) w
theorem T_law_marks (v_many : Int) (v_near : (List Rat)) (w : Wl) (h : S_law_marks v_many v_near w) : G__law_marks [.well, D.int v_many, (eL encR) v_near] w = .ok ((eT encR) (M_law_marks v_many v_near w).1) (M_law_marks v_many v_near w).2 := by
  refine run_rt ?_
  refine sq (ownE (e := encR) (xs := (M_law_marks_found1 v_many v_near w)) rfl) ?_
  refine sqX (Q := (fun (s2 : (List Rat)) (en : List Sl) => ∃ j_k j_one : Sl, en = [.dat .well, .dat (D.int v_many), .dat ((eL encR) v_near), .own (List.map encR s2), j_k, j_one]) ((M_law_marks_l1 v_many v_near w).1)) (forWE (e := D.int) (xs := (upto (Int.toNat v_many))) (M_law_marks_step1 v_many v_near w) (S_law_marks_l1 v_many v_near w) (fun (s2 : (List Rat)) (en : List Sl) => ∃ j_k j_one : Sl, en = [.dat .well, .dat (D.int v_many), .dat ((eL encR) v_near), .own (List.map encR s2), j_k, j_one]) (s0 := (M_law_marks_found1 v_many v_near w)) (rng1 rfl h.c1) ⟨_, _, rfl⟩ h.c2 (fun x1 s2 en w4 hx1 g3 hq => ?_)) (fun en7 hq8 => ?_)
  · obtain ⟨j_k, j_one, rfl⟩ := hq
    refine ⟨_, rfl, ?_⟩
    refine NxR.sq (setE (dv := encR ((M_law_marks_d1 v_many v_near w x1 s2 w4).1)) ((efn_ev (ds := [.well, (eL encR) v_near]) (cons_ev rfl (one_ev rfl)) rfl).trans (T_law_mark v_near w4 g3.c1))) ?_
    refine NxR.last (appE (e := encR) (xs := s2) (x := (bif ((decide ((0 : Int) < x1)) && (decide ((M_law_marks_d2 v_many v_near w x1 s2 w4).1 = (0 : Int)))) then (ixI s2 (0 : Int)) else (M_law_marks_d1 v_many v_near w x1 s2 w4).1)) rfl (ifE (e := encR) (c := ((decide ((0 : Int) < x1)) && (decide ((M_law_marks_d2 v_many v_near w x1 s2 w4).1 = (0 : Int))))) (a := (ixI s2 (0 : Int))) (b := (M_law_marks_d1 v_many v_near w x1 s2 w4).1) (andW (c := (decide ((0 : Int) < x1))) (w1 := (M_law_marks_d1 v_many v_near w x1 s2 w4).2) (w2 := (M_law_marks_d2 v_many v_near w x1 s2 w4).2) (gt_ev rfl rfl) (fun hc5 => (eqi_ev ((efn_ev (ds := [.well, D.int (6 : Int)]) (cons_ev rfl (one_ev rfl)) rfl).trans (MD.T_draw (6 : Int) ((M_law_marks_d1 v_many v_near w x1 s2 w4).2) (g3.c2 hc5))) rfl))) (fun hc6 => (ixL rfl rfl (g3.c3 hc6))) (fun hc6 => rfl)) g3.c4) ?_
    exact by first | rfl | trivial | exact ⟨_, rfl⟩ | exact ⟨_, _, rfl⟩ | exact ⟨_, _, _, rfl⟩ | exact ⟨_, _, _, _, rfl⟩ | exact ⟨_, _, _, _, _, rfl⟩ | exact ⟨_, _, _, _, _, _, rfl⟩ | exact ⟨_, _, _, _, _, _, _, rfl⟩ | exact ⟨_, _, _, _, _, _, _, _, rfl⟩
  obtain ⟨j_k, j_one, rfl⟩ := hq8
  exact retE (tupL rfl)
/-! _law_order -/
/-! _law_order -/
def M_law_order_TR_found1 (v_seen : (List Rat)) : (List Int) := []
def M_law_order_TR_at1 (v_seen : (List Rat)) (x1 : Int) (s2 : (List Int)) : Int := (((List.filter (fun (x4 : Int) => (!((decide ((ixI v_seen x1) < (ixI v_seen x4)))))) s2)).length : Int)
def M_law_order_TR_found2 (v_seen : (List Rat)) (x1 : Int) (s2 : (List Int)) : (List Int) := (((slI s2 none (some (M_law_order_TR_at1 v_seen x1 s2))) ++ [x1]) ++ (slI s2 (some (M_law_order_TR_at1 v_seen x1 s2)) none))
def M_law_order_TR_step1 (v_seen : (List Rat)) (x1 : Int) (s2 : (List Int)) : (List Int) := (M_law_order_TR_found2 v_seen x1 s2)
structure S_law_order_TR_l1 (v_seen : (List Rat)) (x1 : Int) (s2 : (List Int)) : Prop where
  c1 : (s2).length ≤ sizeLine
  c2 : ∀ x4 : Int, x4 ∈ s2 → 0 ≤ x1 ∧ x1 < (v_seen).length
  c3 : ∀ x4 : Int, x4 ∈ s2 → 0 ≤ x4 ∧ x4 < (v_seen).length
  c4 : ∀ x4 : Int, x4 ∈ s2 → Rs (ixI v_seen x1) (ixI v_seen x4)
  c5 : ((slI s2 none (some (M_law_order_TR_at1 v_seen x1 s2)))).length + ([x1]).length ≤ sizeLine
  c6 : (((slI s2 none (some (M_law_order_TR_at1 v_seen x1 s2))) ++ [x1])).length + ((slI s2 (some (M_law_order_TR_at1 v_seen x1 s2)) none)).length ≤ sizeLine
def M_law_order_TR_l1 (v_seen : (List Rat)) : (List Int) := foldS (M_law_order_TR_step1 v_seen) (upto (Int.toNat ((v_seen).length : Int))) (M_law_order_TR_found1 v_seen)
def M_law_order_TR (v_seen : (List Rat)) : (List Int) := (M_law_order_TR_l1 v_seen)
structure S_law_order_TR (v_seen : (List Rat)) : Prop where
  c1 : small ((v_seen).length : Int) = true
  c2 : SafeL (M_law_order_TR_step1 v_seen) (S_law_order_TR_l1 v_seen) (upto (Int.toNat ((v_seen).length : Int))) (M_law_order_TR_found1 v_seen)
theorem T_law_order_TR {w : Wl} (v_seen : (List Rat)) (h : S_law_order_TR v_seen) : G__law_order [(eT encR) v_seen] w = .ok ((eL D.int) (M_law_order_TR v_seen)) w := by
  refine run_rt ?_
  refine sq (setE (dv := (eL D.int) (M_law_order_TR_found1 v_seen)) rfl) ?_
  refine sqX (Q := (fun (s2 : (List Int)) (en : List Sl) => ∃ j_k j_at : Sl, en = [.dat ((eT encR) v_seen), .dat ((eL D.int) s2), j_k, j_at, .non]) (M_law_order_TR_l1 v_seen)) (forE (e := D.int) (xs := (upto (Int.toNat ((v_seen).length : Int)))) (M_law_order_TR_step1 v_seen) (S_law_order_TR_l1 v_seen) (fun (s2 : (List Int)) (en : List Sl) => ∃ j_k j_at : Sl, en = [.dat ((eT encR) v_seen), .dat ((eL D.int) s2), j_k, j_at, .non]) (s0 := (M_law_order_TR_found1 v_seen)) (rng1 (lenT rfl) h.c1) ⟨_, _, rfl⟩ h.c2 (fun x1 s2 en hx1 g3 hq => ?_)) (fun en6 hq7 => ?_)
  · obtain ⟨j_k, j_at, rfl⟩ := hq
    refine ⟨_, rfl, ?_⟩
    refine NxR.sq (setE (dv := D.int (M_law_order_TR_at1 v_seen x1 s2)) (lenL (filtI (filtE (e := D.int) (e2 := D.int) (xs := s2) (p := (fun (x4 : Int) => (!((decide ((ixI v_seen x1) < (ixI v_seen x4))))))) (f := (fun (x4 : Int) => x4)) (seqL rfl) g3.c1 (fun x4 hx4 => ⟨_, rfl, (not_ev (tru_ev ((efn_ev (ds := [encR (ixI v_seen x1), encR (ixI v_seen x4)]) (cons_ev (ixT rfl rfl (g3.c2 x4 hx4)) (one_ev (ixT rfl rfl (g3.c3 x4 hx4)))) rfl).trans (MD.T__law_below (ixI v_seen x1) (ixI v_seen x4) (g3.c4 x4 hx4))))), fun hc5 => rfl⟩))))) ?_
    refine NxR.last (setE (dv := (eL D.int) (M_law_order_TR_found2 v_seen x1 s2)) (catL (catL (slL rfl prN (prS rfl)) (elst_ev (one_ev rfl) (show 1 ≤ sizeLine by decide)) g3.c5) (slL rfl (prS rfl) prN) g3.c6)) ?_
    exact by first | rfl | trivial | exact ⟨_, rfl⟩ | exact ⟨_, _, rfl⟩ | exact ⟨_, _, _, rfl⟩ | exact ⟨_, _, _, _, rfl⟩ | exact ⟨_, _, _, _, _, rfl⟩ | exact ⟨_, _, _, _, _, _, rfl⟩ | exact ⟨_, _, _, _, _, _, _, rfl⟩ | exact ⟨_, _, _, _, _, _, _, _, rfl⟩
  obtain ⟨j_k, j_at, rfl⟩ := hq7
  exact retE rfl
/-! _law_edges -/
/-! _law_harmonic -/
/-! _law_split -/
/-! _law_mesh_row -/
/-! _law_mesh -/
/-! _law_rest -/
/-! _law_rest -/
/-! _law_mixed -/
/-! _law_mixed -/
/-! _law_taken -/
def M_law_taken_lines1 (v_loads : (List Rat)) (v_mesh : (List (List Rat))) (v_out : Int) : (List (List Rat)) := ([] : (List (List Rat)))
def M_law_taken_rest1 (v_loads : (List Rat)) (v_mesh : (List (List Rat))) (v_out : Int) : (List Rat) := (List.map (fun (x1 : (Int × Rat)) => ((x1.2 + (((ixI v_loads v_out) * (ixI (ixI v_mesh v_out) x1.1)))))) (enumI v_loads))
def M_law_taken_rest2 (v_loads : (List Rat)) (v_mesh : (List (List Rat))) (v_out : Int) : (List Rat) := (List.set (M_law_taken_rest1 v_loads v_mesh v_out) (Int.toNat v_out) (0 : Rat))
def M_law_taken_back1 (v_loads : (List Rat)) (v_mesh : (List (List Rat))) (v_out : Int) (x2 : Int) (s3 : (List (List Rat))) : Rat := (((ixI (ixI v_mesh x2) v_out) * (ixI (ixI v_mesh v_out) x2)))
def M_law_taken_line1 (v_loads : (List Rat)) (v_mesh : (List (List Rat))) (v_out : Int) (x2 : Int) (s3 : (List (List Rat))) : (List Rat) := ([] : (List Rat))
def M_law_taken_line2 (v_loads : (List Rat)) (v_mesh : (List (List Rat))) (v_out : Int) (x2 : Int) (s3 : (List (List Rat))) (x5 : Int) (s6 : (List Rat)) : (List Rat) := (s6 ++ [(0 : Rat)])
def M_law_taken_way1 (v_loads : (List Rat)) (v_mesh : (List (List Rat))) (v_out : Int) (x2 : Int) (s3 : (List (List Rat))) (x5 : Int) (s6 : (List Rat)) : Rat := (((ixI (ixI v_mesh x2) x5) + (((ixI (ixI v_mesh x2) v_out) * (ixI (ixI v_mesh v_out) x5)))))
def M_law_taken_line3 (v_loads : (List Rat)) (v_mesh : (List (List Rat))) (v_out : Int) (x2 : Int) (s3 : (List (List Rat))) (x5 : Int) (s6 : (List Rat)) : (List Rat) := (s6 ++ [(((M_law_taken_way1 v_loads v_mesh v_out x2 s3 x5 s6) / (((1 : Rat) - (M_law_taken_back1 v_loads v_mesh v_out x2 s3)))))])
def M_law_taken_line4 (v_loads : (List Rat)) (v_mesh : (List (List Rat))) (v_out : Int) (x2 : Int) (s3 : (List (List Rat))) (x5 : Int) (s6 : (List Rat)) : (List Rat) := bif ((decide (v_out ∈ [x2, x5])) || ((decide (x2 = x5)) || (decide ((M_law_taken_back1 v_loads v_mesh v_out x2 s3) = (1 : Rat))))) then (M_law_taken_line2 v_loads v_mesh v_out x2 s3 x5 s6) else (M_law_taken_line3 v_loads v_mesh v_out x2 s3 x5 s6)
def M_law_taken_step2 (v_loads : (List Rat)) (v_mesh : (List (List Rat))) (v_out : Int) (x2 : Int) (s3 : (List (List Rat))) (x5 : Int) (s6 : (List Rat)) : (List Rat) := (M_law_taken_line4 v_loads v_mesh v_out x2 s3 x5 s6)
structure S_law_taken_l2 (v_loads : (List Rat)) (v_mesh : (List (List Rat))) (v_out : Int) (x2 : Int) (s3 : (List (List Rat))) (x5 : Int) (s6 : (List Rat)) : Prop where
  c1 : ((decide (v_out ∈ [x2, x5])) || ((decide (x2 = x5)) || (decide ((M_law_taken_back1 v_loads v_mesh v_out x2 s3) = (1 : Rat))))) = true → (s6).length < sizeLine
  c2 : ((decide (v_out ∈ [x2, x5])) || ((decide (x2 = x5)) || (decide ((M_law_taken_back1 v_loads v_mesh v_out x2 s3) = (1 : Rat))))) = false → 0 ≤ x2 ∧ x2 < (v_mesh).length
  c3 : ((decide (v_out ∈ [x2, x5])) || ((decide (x2 = x5)) || (decide ((M_law_taken_back1 v_loads v_mesh v_out x2 s3) = (1 : Rat))))) = false → 0 ≤ x5 ∧ x5 < ((ixI v_mesh x2)).length
  c4 : ((decide (v_out ∈ [x2, x5])) || ((decide (x2 = x5)) || (decide ((M_law_taken_back1 v_loads v_mesh v_out x2 s3) = (1 : Rat))))) = false → 0 ≤ v_out ∧ v_out < ((ixI v_mesh x2)).length
  c5 : ((decide (v_out ∈ [x2, x5])) || ((decide (x2 = x5)) || (decide ((M_law_taken_back1 v_loads v_mesh v_out x2 s3) = (1 : Rat))))) = false → 0 ≤ v_out ∧ v_out < (v_mesh).length
  c6 : ((decide (v_out ∈ [x2, x5])) || ((decide (x2 = x5)) || (decide ((M_law_taken_back1 v_loads v_mesh v_out x2 s3) = (1 : Rat))))) = false → 0 ≤ x5 ∧ x5 < ((ixI v_mesh v_out)).length
  c7 : ((decide (v_out ∈ [x2, x5])) || ((decide (x2 = x5)) || (decide ((M_law_taken_back1 v_loads v_mesh v_out x2 s3) = (1 : Rat))))) = false → Rs (ixI (ixI v_mesh x2) v_out) (ixI (ixI v_mesh v_out) x5)
  c8 : ((decide (v_out ∈ [x2, x5])) || ((decide (x2 = x5)) || (decide ((M_law_taken_back1 v_loads v_mesh v_out x2 s3) = (1 : Rat))))) = false → Rs (ixI (ixI v_mesh x2) x5) (((ixI (ixI v_mesh x2) v_out) * (ixI (ixI v_mesh v_out) x5)))
  c9 : ((decide (v_out ∈ [x2, x5])) || ((decide (x2 = x5)) || (decide ((M_law_taken_back1 v_loads v_mesh v_out x2 s3) = (1 : Rat))))) = false → Rs (1 : Rat) (M_law_taken_back1 v_loads v_mesh v_out x2 s3)
  c10 : ((decide (v_out ∈ [x2, x5])) || ((decide (x2 = x5)) || (decide ((M_law_taken_back1 v_loads v_mesh v_out x2 s3) = (1 : Rat))))) = false → Rs (M_law_taken_way1 v_loads v_mesh v_out x2 s3 x5 s6) (((1 : Rat) - (M_law_taken_back1 v_loads v_mesh v_out x2 s3))) ∧ 0 < (((1 : Rat) - (M_law_taken_back1 v_loads v_mesh v_out x2 s3)))
  c11 : ((decide (v_out ∈ [x2, x5])) || ((decide (x2 = x5)) || (decide ((M_law_taken_back1 v_loads v_mesh v_out x2 s3) = (1 : Rat))))) = false → (s6).length < sizeLine
def M_law_taken_l1 (v_loads : (List Rat)) (v_mesh : (List (List Rat))) (v_out : Int) (x2 : Int) (s3 : (List (List Rat))) : (List Rat) := foldS (M_law_taken_step2 v_loads v_mesh v_out x2 s3) (upto (Int.toNat ((v_loads).length : Int))) (M_law_taken_line1 v_loads v_mesh v_out x2 s3)
def M_law_taken_lines2 (v_loads : (List Rat)) (v_mesh : (List (List Rat))) (v_out : Int) (x2 : Int) (s3 : (List (List Rat))) : (List (List Rat)) := (s3 ++ [(M_law_taken_l1 v_loads v_mesh v_out x2 s3)])
def M_law_taken_step1 (v_loads : (List Rat)) (v_mesh : (List (List Rat))) (v_out : Int) (x2 : Int) (s3 : (List (List Rat))) : (List (List Rat)) := (M_law_taken_lines2 v_loads v_mesh v_out x2 s3)
structure S_law_taken_l1 (v_loads : (List Rat)) (v_mesh : (List (List Rat))) (v_out : Int) (x2 : Int) (s3 : (List (List Rat))) : Prop where
  c1 : 0 ≤ x2 ∧ x2 < (v_mesh).length
  c2 : 0 ≤ v_out ∧ v_out < ((ixI v_mesh x2)).length
  c3 : 0 ≤ v_out ∧ v_out < (v_mesh).length
  c4 : 0 ≤ x2 ∧ x2 < ((ixI v_mesh v_out)).length
  c5 : Rs (ixI (ixI v_mesh x2) v_out) (ixI (ixI v_mesh v_out) x2)
  c6 : small ((v_loads).length : Int) = true
  c7 : SafeL (M_law_taken_step2 v_loads v_mesh v_out x2 s3) (S_law_taken_l2 v_loads v_mesh v_out x2 s3) (upto (Int.toNat ((v_loads).length : Int))) (M_law_taken_line1 v_loads v_mesh v_out x2 s3)
  c8 : (s3).length < sizeLine
def M_law_taken_l2 (v_loads : (List Rat)) (v_mesh : (List (List Rat))) (v_out : Int) : (List (List Rat)) := foldS (M_law_taken_step1 v_loads v_mesh v_out) (upto (Int.toNat ((v_loads).length : Int))) (M_law_taken_lines1 v_loads v_mesh v_out)
def M_law_taken (v_loads : (List Rat)) (v_mesh : (List (List Rat))) (v_out : Int) : ((List Rat) × (List (List Rat))) := ((M_law_taken_rest2 v_loads v_mesh v_out), (M_law_taken_l2 v_loads v_mesh v_out))
structure S_law_taken (v_loads : (List Rat)) (v_mesh : (List (List Rat))) (v_out : Int) : Prop where
  c1 : ((enumI v_loads)).length ≤ sizeLine
  c2 : ∀ x1 : (Int × Rat), x1 ∈ (enumI v_loads) → 0 ≤ v_out ∧ v_out < (v_loads).length
  c3 : ∀ x1 : (Int × Rat), x1 ∈ (enumI v_loads) → 0 ≤ v_out ∧ v_out < (v_mesh).length
  c4 : ∀ x1 : (Int × Rat), x1 ∈ (enumI v_loads) → 0 ≤ x1.1 ∧ x1.1 < ((ixI v_mesh v_out)).length
  c5 : ∀ x1 : (Int × Rat), x1 ∈ (enumI v_loads) → Rs (ixI v_loads v_out) (ixI (ixI v_mesh v_out) x1.1)
  c6 : ∀ x1 : (Int × Rat), x1 ∈ (enumI v_loads) → Rs x1.2 (((ixI v_loads v_out) * (ixI (ixI v_mesh v_out) x1.1)))
  c7 : 0 ≤ v_out ∧ v_out < ((M_law_taken_rest1 v_loads v_mesh v_out)).length
  c8 : small ((v_loads).length : Int) = true
  c9 : SafeL (M_law_taken_step1 v_loads v_mesh v_out) (S_law_taken_l1 v_loads v_mesh v_out) (upto (Int.toNat ((v_loads).length : Int))) (M_law_taken_lines1 v_loads v_mesh v_out)
/-! _law_left -/
/-! _law_left -/
/-! _law_webbed -/
/-! _law_is_in -/
def M_law_is_in_r1 (v_seen : (List Rat)) (v_edge : (List (Option Rat))) (x1 : (Rat × (Option Rat))) (s2 : Unit) : Sum Unit Bool := bif (andN x1.2 (fun y4 => ((decide (y4 < x1.1))))) then Sum.inr false else Sum.inl ()
def M_law_is_in_step1 (v_seen : (List Rat)) (v_edge : (List (Option Rat))) (x1 : (Rat × (Option Rat))) (s2 : Unit) : Sum Unit Bool := (M_law_is_in_r1 v_seen v_edge x1 s2)
structure S_law_is_in_l1 (v_seen : (List Rat)) (v_edge : (List (Option Rat))) (x1 : (Rat × (Option Rat))) (s2 : Unit) : Prop where
  c1 : ∀ y4 : Rat, x1.2 = some y4 → Rs y4 x1.1
def M_law_is_in_l1 (v_seen : (List Rat)) (v_edge : (List (Option Rat))) : Sum Unit Bool := foldE (M_law_is_in_step1 v_seen v_edge) (List.zip v_seen v_edge) ()
def M_law_is_in_r2 (v_seen : (List Rat)) (v_edge : (List (Option Rat))) : Bool := endE (M_law_is_in_l1 v_seen v_edge) (fun (t6 : Unit) => true)
def M_law_is_in (v_seen : (List Rat)) (v_edge : (List (Option Rat))) : Bool := (M_law_is_in_r2 v_seen v_edge)
structure S_law_is_in (v_seen : (List Rat)) (v_edge : (List (Option Rat))) : Prop where
  c1 : SafeE (M_law_is_in_step1 v_seen v_edge) (S_law_is_in_l1 v_seen v_edge) (List.zip v_seen v_edge) ()
theorem T_law_is_in {w : Wl} (v_seen : (List Rat)) (v_edge : (List (Option Rat))) (h : S_law_is_in v_seen v_edge) : G__law_is_in [(eT encR) v_seen, (eT (eO encR)) v_edge] w = .ok (D.bl (M_law_is_in v_seen v_edge)) w := by
  refine run_rt ?_
  show _ = Out.rt (D.bl (endE (M_law_is_in_l1 v_seen v_edge) (fun (t6 : Unit) => true))) w
  refine sqE (Q := (fun (s2 : Unit) (en : List Sl) => ∃ j_mark j_cut : Sl, en = [.dat ((eT encR) v_seen), .dat ((eT (eO encR)) v_edge), j_mark, j_cut])) (f := (fun (t6 : Unit) => true)) (forRE (e := (eP encR (eO encR))) (xs := (List.zip v_seen v_edge)) D.bl (M_law_is_in_step1 v_seen v_edge) (S_law_is_in_l1 v_seen v_edge) (fun (s2 : Unit) (en : List Sl) => ∃ j_mark j_cut : Sl, en = [.dat ((eT encR) v_seen), .dat ((eT (eO encR)) v_edge), j_mark, j_cut]) (s0 := ()) (zipTT rfl rfl) ⟨_, _, rfl⟩ h.c1 (fun x1 s2 en hx1 g3 hq => ?_)) (fun t6 en7 he9 hq8 => ?_)
  · obtain ⟨j_mark, j_cut, rfl⟩ := hq
    refine ⟨_, rfl, ?_⟩
    show NxE _ _ _ (M_law_is_in_r1 v_seen v_edge x1 s2) _
    cases hc5 : (andN x1.2 (fun y4 => ((decide (y4 < x1.1))))) with
    | true =>
      rw [show (M_law_is_in_r1 v_seen v_edge x1 s2) = Sum.inr false from by unfold M_law_is_in_r1; rw [hc5]; rfl]
      refine sif_T (castB (c := (andN x1.2 (fun y4 => ((decide (y4 < x1.1)))))) hc5 (andNE (p := fun y4 => ((decide (y4 < x1.1)))) (notN_ev (fun _ => rfl) rfl) (fun y4 hy4 => (tru_ev ((efn_ev (ds := [encR y4, encR x1.1]) (cons_ev (nar (e := encR) (x := x1.2) rfl hy4) (one_ev rfl)) rfl).trans (MD.T__law_below y4 x1.1 (g3.c1 y4 hy4))))))) ?_
      exact retE rfl
    | false =>
      rw [show (M_law_is_in_r1 v_seen v_edge x1 s2) = Sum.inl () from by unfold M_law_is_in_r1; rw [hc5]; rfl]
      refine NxR.last (en1 := [.dat ((eT encR) v_seen), .dat ((eT (eO encR)) v_edge), .dat (encR x1.1), .dat ((eO encR) x1.2)]) ((ifF (castB (c := (andN x1.2 (fun y4 => ((decide (y4 < x1.1)))))) hc5 (andNE (p := fun y4 => ((decide (y4 < x1.1)))) (notN_ev (fun _ => rfl) rfl) (fun y4 hy4 => (tru_ev ((efn_ev (ds := [encR y4, encR x1.1]) (cons_ev (nar (e := encR) (x := x1.2) rfl hy4) (one_ev rfl)) rfl).trans (MD.T__law_below y4 x1.1 (g3.c1 y4 hy4)))))))).trans rfl) ?_
      exact by first | rfl | trivial | exact ⟨_, rfl⟩ | exact ⟨_, _, rfl⟩ | exact ⟨_, _, _, rfl⟩ | exact ⟨_, _, _, _, rfl⟩ | exact ⟨_, _, _, _, _, rfl⟩ | exact ⟨_, _, _, _, _, _, rfl⟩ | exact ⟨_, _, _, _, _, _, _, rfl⟩ | exact ⟨_, _, _, _, _, _, _, _, rfl⟩
  obtain ⟨j_mark, j_cut, rfl⟩ := hq8
  exact retE rfl
/-! _law_open -/
/-! _law_is_in -/
def M_law_is_in_v2_r1 (v_seen : (List Rat)) (v_edge : (List (Option KR))) (x1 : (Rat × (Option KR))) (s2 : Unit) : Sum Unit Bool := bif (andN x1.2 (fun y4 => ((decide (y4.q < (KR.r x1.1).q))))) then Sum.inr false else Sum.inl ()
def M_law_is_in_v2_step1 (v_seen : (List Rat)) (v_edge : (List (Option KR))) (x1 : (Rat × (Option KR))) (s2 : Unit) : Sum Unit Bool := (M_law_is_in_v2_r1 v_seen v_edge x1 s2)
structure S_law_is_in_v2_l1 (v_seen : (List Rat)) (v_edge : (List (Option KR))) (x1 : (Rat × (Option KR))) (s2 : Unit) : Prop where
  c1 : ∀ y4 : KR, x1.2 = some y4 → Rs y4.q (KR.r x1.1).q
def M_law_is_in_v2_l1 (v_seen : (List Rat)) (v_edge : (List (Option KR))) : Sum Unit Bool := foldE (M_law_is_in_v2_step1 v_seen v_edge) (List.zip v_seen v_edge) ()
def M_law_is_in_v2_r2 (v_seen : (List Rat)) (v_edge : (List (Option KR))) : Bool := endE (M_law_is_in_v2_l1 v_seen v_edge) (fun (t6 : Unit) => true)
def M_law_is_in_v2 (v_seen : (List Rat)) (v_edge : (List (Option KR))) : Bool := (M_law_is_in_v2_r2 v_seen v_edge)
structure S_law_is_in_v2 (v_seen : (List Rat)) (v_edge : (List (Option KR))) : Prop where
  c1 : SafeE (M_law_is_in_v2_step1 v_seen v_edge) (S_law_is_in_v2_l1 v_seen v_edge) (List.zip v_seen v_edge) ()
theorem T_law_is_in_v2 {w : Wl} (v_seen : (List Rat)) (v_edge : (List (Option KR))) (h : S_law_is_in_v2 v_seen v_edge) : G__law_is_in [(eT encR) v_seen, (eT (eO eK)) v_edge] w = .ok (D.bl (M_law_is_in_v2 v_seen v_edge)) w := by
  refine run_rt ?_
  show _ = Out.rt (D.bl (endE (M_law_is_in_v2_l1 v_seen v_edge) (fun (t6 : Unit) => true))) w
  refine sqE (Q := (fun (s2 : Unit) (en : List Sl) => ∃ j_mark j_cut : Sl, en = [.dat ((eT encR) v_seen), .dat ((eT (eO eK)) v_edge), j_mark, j_cut])) (f := (fun (t6 : Unit) => true)) (forRE (e := (eP encR (eO eK))) (xs := (List.zip v_seen v_edge)) D.bl (M_law_is_in_v2_step1 v_seen v_edge) (S_law_is_in_v2_l1 v_seen v_edge) (fun (s2 : Unit) (en : List Sl) => ∃ j_mark j_cut : Sl, en = [.dat ((eT encR) v_seen), .dat ((eT (eO eK)) v_edge), j_mark, j_cut]) (s0 := ()) (zipTT rfl rfl) ⟨_, _, rfl⟩ h.c1 (fun x1 s2 en hx1 g3 hq => ?_)) (fun t6 en7 he9 hq8 => ?_)
  · obtain ⟨j_mark, j_cut, rfl⟩ := hq
    refine ⟨_, rfl, ?_⟩
    show NxE _ _ _ (M_law_is_in_v2_r1 v_seen v_edge x1 s2) _
    cases hc5 : (andN x1.2 (fun y4 => ((decide (y4.q < (KR.r x1.1).q))))) with
    | true =>
      rw [show (M_law_is_in_v2_r1 v_seen v_edge x1 s2) = Sum.inr false from by unfold M_law_is_in_v2_r1; rw [hc5]; rfl]
      refine sif_T (castB (c := (andN x1.2 (fun y4 => ((decide (y4.q < (KR.r x1.1).q)))))) hc5 (andNE (p := fun y4 => ((decide (y4.q < (KR.r x1.1).q)))) (notN_ev isN_K rfl) (fun y4 hy4 => (tru_ev ((efn_ev (ds := [eK y4, eK (KR.r x1.1)]) (cons_ev (nar (e := eK) (x := x1.2) rfl hy4) (one_ev rfl)) rfl).trans (MD.T__law_below_k y4 (KR.r x1.1) (g3.c1 y4 hy4))))))) ?_
      exact retE rfl
    | false =>
      rw [show (M_law_is_in_v2_r1 v_seen v_edge x1 s2) = Sum.inl () from by unfold M_law_is_in_v2_r1; rw [hc5]; rfl]
      refine NxR.last (en1 := [.dat ((eT encR) v_seen), .dat ((eT (eO eK)) v_edge), .dat (encR x1.1), .dat ((eO eK) x1.2)]) ((ifF (castB (c := (andN x1.2 (fun y4 => ((decide (y4.q < (KR.r x1.1).q)))))) hc5 (andNE (p := fun y4 => ((decide (y4.q < (KR.r x1.1).q)))) (notN_ev isN_K rfl) (fun y4 hy4 => (tru_ev ((efn_ev (ds := [eK y4, eK (KR.r x1.1)]) (cons_ev (nar (e := eK) (x := x1.2) rfl hy4) (one_ev rfl)) rfl).trans (MD.T__law_below_k y4 (KR.r x1.1) (g3.c1 y4 hy4)))))))).trans rfl) ?_
      exact by first | rfl | trivial | exact ⟨_, rfl⟩ | exact ⟨_, _, rfl⟩ | exact ⟨_, _, _, rfl⟩ | exact ⟨_, _, _, _, rfl⟩ | exact ⟨_, _, _, _, _, rfl⟩ | exact ⟨_, _, _, _, _, _, rfl⟩ | exact ⟨_, _, _, _, _, _, _, rfl⟩ | exact ⟨_, _, _, _, _, _, _, _, rfl⟩
  obtain ⟨j_mark, j_cut, rfl⟩ := hq8
  exact retE rfl
/-! _law_greater -/
def M_law_greater (v_one : Rat) (v_two : Rat) : Rat := (bif ((decide (v_one < v_two))) then v_two else v_one)
structure S_law_greater (v_one : Rat) (v_two : Rat) : Prop where
  c1 : Rs v_one v_two
theorem T_law_greater {w : Wl} (v_one : Rat) (v_two : Rat) (h : S_law_greater v_one v_two) : G__law_greater [encR v_one, encR v_two] w = .ok (encR (M_law_greater v_one v_two)) w := by
  refine run_rt ?_
  exact retE (ifE (e := encR) (c := ((decide (v_one < v_two)))) (a := v_two) (b := v_one) (tru_ev ((efn_ev (ds := [encR v_one, encR v_two]) (cons_ev rfl (one_ev rfl)) rfl).trans (MD.T__law_below v_one v_two h.c1))) (fun hc1 => rfl) (fun hc1 => rfl))
/-! _law_greater -/
/-! _law_greater -/
def M_law_greater_v3 (v_one : KR) (v_two : KR) : KR := (bif ((decide (v_one.q < v_two.q))) then v_two else v_one)
structure S_law_greater_v3 (v_one : KR) (v_two : KR) : Prop where
  c1 : Rs v_one.q v_two.q
theorem T_law_greater_v3 {w : Wl} (v_one : KR) (v_two : KR) (h : S_law_greater_v3 v_one v_two) : G__law_greater [eK v_one, eK v_two] w = .ok (eK (M_law_greater_v3 v_one v_two)) w := by
  refine run_rt ?_
  exact retE (ifE (e := eK) (c := ((decide (v_one.q < v_two.q)))) (a := v_two) (b := v_one) (tru_ev ((efn_ev (ds := [eK v_one, eK v_two]) (cons_ev rfl (one_ev rfl)) rfl).trans (MD.T__law_below_k v_one v_two h.c1))) (fun hc1 => rfl) (fun hc1 => rfl))
/-! _law_low_level -/
def M_law_low_level_d1 (w : Wl) : Rat × Wl := M_law_level w
def M_law_low_level (w : Wl) : Rat × Wl := ((bif (!(decide ((M_law_low_level_d1 w).1 = (1 : Rat)))) then (M_law_low_level_d1 w).1 else (mkRat 9 10)), (M_law_low_level_d1 w).2)
structure S_law_low_level (w : Wl) : Prop where
  c1 : S_law_level w
theorem T_law_low_level (w : Wl) (h : S_law_low_level w) : G__law_low_level [.well] w = .ok (encR (M_law_low_level w).1) (M_law_low_level w).2 := by
  refine run_rt ?_
  refine sq (setE (dv := encR ((M_law_low_level_d1 w).1)) ((efn_ev (ds := [.well]) (one_ev rfl) rfl).trans (T_law_level w h.c1))) ?_
  exact retE (ifE (e := encR) (c := (!(decide ((M_law_low_level_d1 w).1 = (1 : Rat))))) (a := (M_law_low_level_d1 w).1) (b := (mkRat 9 10)) (neE (e := encR) (x := (M_law_low_level_d1 w).1) (y := (1 : Rat)) eqv_rat rfl rfl) (fun hc1 => rfl) (fun hc1 => rfl))
/-! _law_steps -/
def M_law_steps_d1 (v_many : Int) (w : Wl) : Int × Wl := M_draw (5 : Int) w
def M_law_steps_d2 (v_many : Int) (w : Wl) : Int × Wl := M_law_pick_TI [(20 : Int), (10 : Int), (6 : Int), (60 : Int), (1000 : Int)] ((M_law_steps_d1 v_many w).2)
def M_law_steps_z1 (v_many : Int) (w : Wl) : (Int × Int) := ((M_law_steps_d1 v_many w).1, (M_law_steps_d2 v_many w).1)
def M_law_steps_d3 (v_many : Int) (w : Wl) : Rat × Wl := M_law_low_level ((M_law_steps_d2 v_many w).2)
def M_law_steps_d4 (v_many : Int) (w : Wl) : Rat × Wl := M_law_low_level ((M_law_steps_d2 v_many w).2)
def M_law_steps_d5 (v_many : Int) (w : Wl) : Int × Wl := M_law_pick_TI [(M_law_steps_z1 v_many w).2, (M_law_steps_z1 v_many w).2, ((1 : Int) + ((M_law_steps_z1 v_many w).2 / (3 : Int))), ((1 : Int) + ((M_law_steps_z1 v_many w).2 / (3 : Int))), (2 : Int)] ((M_law_steps_d2 v_many w).2)
def M_law_steps_d6 (v_many : Int) (w : Wl) (x5 : Int) (w6 : Wl) : Int × Wl := M_draw ((M_law_steps_d5 v_many w).1) w6
structure S_law_steps_c1 (v_many : Int) (w : Wl) (x5 : Int) (w6 : Wl) : Prop where
  c1 : S_draw ((M_law_steps_d5 v_many w).1) w6
def M_law_steps_p1 (v_many : Int) (w : Wl) : Int → Wl → Bool × Wl := (fun (x5 : Int) (w6 : Wl) => (true, w6))
def M_law_steps_f1 (v_many : Int) (w : Wl) : Int → Wl → Int × Wl := (fun (x5 : Int) (w6 : Wl) => ((M_law_steps_d6 v_many w x5 w6).1, (M_law_steps_d6 v_many w x5 w6).2))
def M_law_steps_l1 (v_many : Int) (w : Wl) : (List Int) × Wl := lcW (M_law_steps_p1 v_many w) (M_law_steps_f1 v_many w) (upto (Int.toNat v_many)) (M_law_steps_d5 v_many w).2
def M_law_steps_tops1 (v_many : Int) (w : Wl) : (List Int) := (sortI (M_law_steps_l1 v_many w).1)
def M_law_steps_r1 (v_many : Int) (w : Wl) : (List Rat) × Wl := bif (decide ((M_law_steps_z1 v_many w).1 = (1 : Int))) then ((List.map (fun (x4 : Int) => (((M_law_steps_d4 v_many w).1 * ((Rat.divInt (1 : Int) (v_many - x4)))))) (upto (Int.toNat v_many))), (M_law_steps_d4 v_many w).2) else ((List.map (fun (x9 : Int) => ((Rat.divInt x9 ((M_law_steps_z1 v_many w).2)))) (M_law_steps_tops1 v_many w)), (M_law_steps_l1 v_many w).2)
def M_law_steps_r2 (v_many : Int) (w : Wl) : (List Rat) × Wl := bif (decide ((M_law_steps_z1 v_many w).1 = (0 : Int))) then ((List.map (fun (x2 : Int) => (((M_law_steps_d3 v_many w).1 * ((Rat.divInt (x2 + (1 : Int)) v_many))))) (upto (Int.toNat v_many))), (M_law_steps_d3 v_many w).2) else (M_law_steps_r1 v_many w)
def M_law_steps (v_many : Int) (w : Wl) : (List Rat) × Wl := (M_law_steps_r2 v_many w)
structure S_law_steps (v_many : Int) (w : Wl) : Prop where
  c1 : S_draw (5 : Int) w
  c2 : S_law_pick_TI [(20 : Int), (10 : Int), (6 : Int), (60 : Int), (1000 : Int)] ((M_law_steps_d1 v_many w).2)
  c3 : (decide ((M_law_steps_z1 v_many w).1 = (0 : Int))) = true → S_law_low_level ((M_law_steps_d2 v_many w).2)
  c4 : (decide ((M_law_steps_z1 v_many w).1 = (0 : Int))) = true → small v_many = true
  c5 : (decide ((M_law_steps_z1 v_many w).1 = (0 : Int))) = true → ((upto (Int.toNat v_many))).length ≤ sizeLine
  c6 : (decide ((M_law_steps_z1 v_many w).1 = (0 : Int))) = true → ∀ x2 : Int, x2 ∈ (upto (Int.toNat v_many)) → Fb v_many
  c7 : (decide ((M_law_steps_z1 v_many w).1 = (0 : Int))) = true → ∀ x2 : Int, x2 ∈ (upto (Int.toNat v_many)) → Rs ((M_law_steps_d3 v_many w).1) ((Rat.divInt (x2 + (1 : Int)) v_many))
  c8 : (decide ((M_law_steps_z1 v_many w).1 = (0 : Int))) = false → (decide ((M_law_steps_z1 v_many w).1 = (1 : Int))) = true → S_law_low_level ((M_law_steps_d2 v_many w).2)
  c9 : (decide ((M_law_steps_z1 v_many w).1 = (0 : Int))) = false → (decide ((M_law_steps_z1 v_many w).1 = (1 : Int))) = true → small v_many = true
  c10 : (decide ((M_law_steps_z1 v_many w).1 = (0 : Int))) = false → (decide ((M_law_steps_z1 v_many w).1 = (1 : Int))) = true → ((upto (Int.toNat v_many))).length ≤ sizeLine
  c11 : (decide ((M_law_steps_z1 v_many w).1 = (0 : Int))) = false → (decide ((M_law_steps_z1 v_many w).1 = (1 : Int))) = true → ∀ x4 : Int, x4 ∈ (upto (Int.toNat v_many)) → Fb (v_many - x4)
  c12 : (decide ((M_law_steps_z1 v_many w).1 = (0 : Int))) = false → (decide ((M_law_steps_z1 v_many w).1 = (1 : Int))) = true → ∀ x4 : Int, x4 ∈ (upto (Int.toNat v_many)) → Rs ((M_law_steps_d4 v_many w).1) ((Rat.divInt (1 : Int) (v_many - x4)))
  c13 : (decide ((M_law_steps_z1 v_many w).1 = (0 : Int))) = false → (decide ((M_law_steps_z1 v_many w).1 = (1 : Int))) = false → CDivW (M_law_steps_z1 v_many w).2 (3 : Int)
  c14 : (decide ((M_law_steps_z1 v_many w).1 = (0 : Int))) = false → (decide ((M_law_steps_z1 v_many w).1 = (1 : Int))) = false → S_law_pick_TI [(M_law_steps_z1 v_many w).2, (M_law_steps_z1 v_many w).2, ((1 : Int) + ((M_law_steps_z1 v_many w).2 / (3 : Int))), ((1 : Int) + ((M_law_steps_z1 v_many w).2 / (3 : Int))), (2 : Int)] ((M_law_steps_d2 v_many w).2)
  c15 : (decide ((M_law_steps_z1 v_many w).1 = (0 : Int))) = false → (decide ((M_law_steps_z1 v_many w).1 = (1 : Int))) = false → small v_many = true
  c16 : (decide ((M_law_steps_z1 v_many w).1 = (0 : Int))) = false → (decide ((M_law_steps_z1 v_many w).1 = (1 : Int))) = false → ((upto (Int.toNat v_many))).length ≤ sizeLine
  c17 : (decide ((M_law_steps_z1 v_many w).1 = (0 : Int))) = false → (decide ((M_law_steps_z1 v_many w).1 = (1 : Int))) = false → SafeW (M_law_steps_p1 v_many w) (M_law_steps_f1 v_many w) (fun x5 w6 => S_law_steps_c1 v_many w x5 w6) (upto (Int.toNat v_many)) (M_law_steps_d5 v_many w).2
  c18 : (decide ((M_law_steps_z1 v_many w).1 = (0 : Int))) = false → (decide ((M_law_steps_z1 v_many w).1 = (1 : Int))) = false → ((M_law_steps_l1 v_many w).1).length ≤ 1000
  c19 : (decide ((M_law_steps_z1 v_many w).1 = (0 : Int))) = false → (decide ((M_law_steps_z1 v_many w).1 = (1 : Int))) = false → ((M_law_steps_tops1 v_many w)).length ≤ sizeLine
  c20 : (decide ((M_law_steps_z1 v_many w).1 = (0 : Int))) = false → (decide ((M_law_steps_z1 v_many w).1 = (1 : Int))) = false → ∀ x9 : Int, x9 ∈ (M_law_steps_tops1 v_many w) → Fb ((M_law_steps_z1 v_many w).2)
theorem T_law_steps (v_many : Int) (w : Wl) (h : S_law_steps v_many w) : G__law_steps [.well, D.int v_many] w = .ok ((eT encR) (M_law_steps v_many w).1) (M_law_steps v_many w).2 := by
  refine run_rt ?_
  refine sq (asgE (etup_ev (cons_ev ((efn_ev (ds := [.well, D.int (5 : Int)]) (cons_ev rfl (one_ev rfl)) rfl).trans (MD.T_draw (5 : Int) w h.c1)) (one_ev ((efn_ev (ds := [.well, (eT D.int) [(20 : Int), (10 : Int), (6 : Int), (60 : Int), (1000 : Int)]]) (cons_ev rfl (one_ev (etup_ev (cons_ev rfl (cons_ev rfl (cons_ev rfl (cons_ev rfl (one_ev rfl))))) (show 5 ≤ sizeLine by decide)))) rfl).trans (T_law_pick_TI [(20 : Int), (10 : Int), (6 : Int), (60 : Int), (1000 : Int)] ((M_law_steps_d1 v_many w).2) h.c2)))) (show 2 ≤ sizeLine by decide)) rfl) ?_
  show _ = Out.rt ((eT encR) (M_law_steps_r2 v_many w).1) (M_law_steps_r2 v_many w).2
  cases hc1 : (decide ((M_law_steps_z1 v_many w).1 = (0 : Int))) with
  | true =>
    rw [show (M_law_steps_r2 v_many w) = ((List.map (fun (x2 : Int) => (((M_law_steps_d3 v_many w).1 * ((Rat.divInt (x2 + (1 : Int)) v_many))))) (upto (Int.toNat v_many))), (M_law_steps_d3 v_many w).2) from by unfold M_law_steps_r2; rw [hc1]; rfl]
    refine ifTs (castB (c := (decide ((M_law_steps_z1 v_many w).1 = (0 : Int)))) hc1 (eqi_ev rfl rfl)) ?_
    refine sq (setE (dv := encR ((M_law_steps_d3 v_many w).1)) ((efn_ev (ds := [.well]) (one_ev rfl) rfl).trans (T_law_low_level ((M_law_steps_d2 v_many w).2) (h.c3 hc1)))) ?_
    exact retE (tupL (mapE (e := D.int) (e2 := encR) (xs := (upto (Int.toNat v_many))) (f := (fun (x2 : Int) => (((M_law_steps_d3 v_many w).1 * ((Rat.divInt (x2 + (1 : Int)) v_many)))))) (rng1 rfl (h.c4 hc1)) (h.c5 hc1) (fun x2 hx2 => ⟨_, rfl, ((efn_ev (ds := [encR ((M_law_steps_d3 v_many w).1), encR ((Rat.divInt (x2 + (1 : Int)) v_many))]) (cons_ev rfl (one_ev ((efn_ev (ds := [D.int (x2 + (1 : Int)), D.int v_many]) (cons_ev (add_ev rfl rfl) (one_ev rfl)) rfl).trans (MD.T__law_low (x2 + (1 : Int)) v_many (h.c6 hc1 x2 hx2))))) rfl).trans (MD.T__law_mul ((M_law_steps_d3 v_many w).1) ((Rat.divInt (x2 + (1 : Int)) v_many)) (h.c7 hc1 x2 hx2)))⟩)))
  | false =>
    rw [show (M_law_steps_r2 v_many w) = (M_law_steps_r1 v_many w) from by unfold M_law_steps_r2; rw [hc1]; rfl]
    refine (ifF_seq (castB (c := (decide ((M_law_steps_z1 v_many w).1 = (0 : Int)))) hc1 (eqi_ev rfl rfl))).trans ?_
    show _ = Out.rt ((eT encR) (M_law_steps_r1 v_many w).1) (M_law_steps_r1 v_many w).2
    cases hc3 : (decide ((M_law_steps_z1 v_many w).1 = (1 : Int))) with
    | true =>
      rw [show (M_law_steps_r1 v_many w) = ((List.map (fun (x4 : Int) => (((M_law_steps_d4 v_many w).1 * ((Rat.divInt (1 : Int) (v_many - x4)))))) (upto (Int.toNat v_many))), (M_law_steps_d4 v_many w).2) from by unfold M_law_steps_r1; rw [hc3]; rfl]
      refine ifTs (castB (c := (decide ((M_law_steps_z1 v_many w).1 = (1 : Int)))) hc3 (eqi_ev rfl rfl)) ?_
      refine sq (setE (dv := encR ((M_law_steps_d4 v_many w).1)) ((efn_ev (ds := [.well]) (one_ev rfl) rfl).trans (T_law_low_level ((M_law_steps_d2 v_many w).2) (h.c8 hc1 hc3)))) ?_
      exact retE (tupL (mapE (e := D.int) (e2 := encR) (xs := (upto (Int.toNat v_many))) (f := (fun (x4 : Int) => (((M_law_steps_d4 v_many w).1 * ((Rat.divInt (1 : Int) (v_many - x4))))))) (rng1 rfl (h.c9 hc1 hc3)) (h.c10 hc1 hc3) (fun x4 hx4 => ⟨_, rfl, ((efn_ev (ds := [encR ((M_law_steps_d4 v_many w).1), encR ((Rat.divInt (1 : Int) (v_many - x4)))]) (cons_ev rfl (one_ev ((efn_ev (ds := [D.int (1 : Int), D.int (v_many - x4)]) (cons_ev rfl (one_ev (MD.sub_ev rfl rfl))) rfl).trans (MD.T__law_low (1 : Int) (v_many - x4) (h.c11 hc1 hc3 x4 hx4))))) rfl).trans (MD.T__law_mul ((M_law_steps_d4 v_many w).1) ((Rat.divInt (1 : Int) (v_many - x4))) (h.c12 hc1 hc3 x4 hx4)))⟩)))
    | false =>
      rw [show (M_law_steps_r1 v_many w) = ((List.map (fun (x9 : Int) => ((Rat.divInt x9 ((M_law_steps_z1 v_many w).2)))) (M_law_steps_tops1 v_many w)), (M_law_steps_l1 v_many w).2) from by unfold M_law_steps_r1; rw [hc3]; rfl]
      refine (ifF_seq (castB (c := (decide ((M_law_steps_z1 v_many w).1 = (1 : Int)))) hc3 (eqi_ev rfl rfl))).trans ?_
      refine sq (setE (dv := D.int ((M_law_steps_d5 v_many w).1)) ((efn_ev (ds := [.well, (eT D.int) [(M_law_steps_z1 v_many w).2, (M_law_steps_z1 v_many w).2, ((1 : Int) + ((M_law_steps_z1 v_many w).2 / (3 : Int))), ((1 : Int) + ((M_law_steps_z1 v_many w).2 / (3 : Int))), (2 : Int)]]) (cons_ev rfl (one_ev (etup_ev (cons_ev rfl (cons_ev rfl (cons_ev (add_ev rfl (fdivS_ev rfl rfl (h.c13 hc1 hc3))) (cons_ev (add_ev rfl (fdivS_ev rfl rfl (h.c13 hc1 hc3))) (one_ev rfl))))) (show 5 ≤ sizeLine by decide)))) rfl).trans (T_law_pick_TI [(M_law_steps_z1 v_many w).2, (M_law_steps_z1 v_many w).2, ((1 : Int) + ((M_law_steps_z1 v_many w).2 / (3 : Int))), ((1 : Int) + ((M_law_steps_z1 v_many w).2 / (3 : Int))), (2 : Int)] ((M_law_steps_d2 v_many w).2) (h.c14 hc1 hc3)))) ?_
      refine sq (setE (dv := (eL D.int) (M_law_steps_tops1 v_many w)) (sortI_ev (lcWE (e := D.int) (e2 := D.int) (p := (M_law_steps_p1 v_many w)) (f := (M_law_steps_f1 v_many w)) (S := fun x5 w6 => S_law_steps_c1 v_many w x5 w6) (xs := (upto (Int.toNat v_many))) (rng1 rfl (h.c15 hc1 hc3)) (h.c16 hc1 hc3) (h.c17 hc1 hc3) (fun x5 w6 g7 => ⟨_, rfl, rfl, fun _ => ((efn_ev (ds := [.well, D.int ((M_law_steps_d5 v_many w).1)]) (cons_ev rfl (one_ev rfl)) rfl).trans (MD.T_draw ((M_law_steps_d5 v_many w).1) w6 g7.c1))⟩)) (h.c18 hc1 hc3))) ?_
      exact retE (tupL (mapE (e := D.int) (e2 := encR) (xs := (M_law_steps_tops1 v_many w)) (f := (fun (x9 : Int) => ((Rat.divInt x9 ((M_law_steps_z1 v_many w).2))))) (seqL rfl) (h.c19 hc1 hc3) (fun x9 hx9 => ⟨_, rfl, ((efn_ev (ds := [D.int x9, D.int ((M_law_steps_z1 v_many w).2)]) (cons_ev rfl (one_ev rfl)) rfl).trans (MD.T__law_low x9 ((M_law_steps_z1 v_many w).2) (h.c20 hc1 hc3 x9 hx9)))⟩)))
/-! _law_stepped -/
def M_law_stepped_TR_TR_B_most1 (v_seen : (List Rat)) (v_steps : (List Rat)) (v_is_up : Bool) (x1 : Int) (s2 : Int) : Int := (x1 + (1 : Int))
def M_law_stepped_TR_TR_B_most2 (v_seen : (List Rat)) (v_steps : (List Rat)) (v_is_up : Bool) (x1 : Int) (s2 : Int) : Int := bif ((!((decide ((ixI v_steps x1) < (ixI v_seen (ixI (M_law_order_TR v_seen) x1)))))) && (v_is_up || (decide (s2 = x1)))) then (M_law_stepped_TR_TR_B_most1 v_seen v_steps v_is_up x1 s2) else s2
def M_law_stepped_TR_TR_B_step1 (v_seen : (List Rat)) (v_steps : (List Rat)) (v_is_up : Bool) (x1 : Int) (s2 : Int) : Int := (M_law_stepped_TR_TR_B_most2 v_seen v_steps v_is_up x1 s2)
structure S_law_stepped_TR_TR_B_l1 (v_seen : (List Rat)) (v_steps : (List Rat)) (v_is_up : Bool) (x1 : Int) (s2 : Int) : Prop where
  c1 : 0 ≤ x1 ∧ x1 < (v_steps).length
  c2 : 0 ≤ x1 ∧ x1 < ((M_law_order_TR v_seen)).length
  c3 : 0 ≤ (ixI (M_law_order_TR v_seen) x1) ∧ (ixI (M_law_order_TR v_seen) x1) < (v_seen).length
  c4 : Rs (ixI v_steps x1) (ixI v_seen (ixI (M_law_order_TR v_seen) x1))
def M_law_stepped_TR_TR_B_l1 (v_seen : (List Rat)) (v_steps : (List Rat)) (v_is_up : Bool) : Int := foldS (M_law_stepped_TR_TR_B_step1 v_seen v_steps v_is_up) (upto (Int.toNat ((v_seen).length : Int))) (0 : Int)
def M_law_stepped_TR_TR_B (v_seen : (List Rat)) (v_steps : (List Rat)) (v_is_up : Bool) : (List Int) := (sortI (slI (M_law_order_TR v_seen) none (some (M_law_stepped_TR_TR_B_l1 v_seen v_steps v_is_up))))
structure S_law_stepped_TR_TR_B (v_seen : (List Rat)) (v_steps : (List Rat)) (v_is_up : Bool) : Prop where
  c1 : S_law_order_TR v_seen
  c2 : small ((v_seen).length : Int) = true
  c3 : SafeL (M_law_stepped_TR_TR_B_step1 v_seen v_steps v_is_up) (S_law_stepped_TR_TR_B_l1 v_seen v_steps v_is_up) (upto (Int.toNat ((v_seen).length : Int))) (0 : Int)
  c4 : ((slI (M_law_order_TR v_seen) none (some (M_law_stepped_TR_TR_B_l1 v_seen v_steps v_is_up)))).length ≤ 1000
theorem T_law_stepped_TR_TR_B {w : Wl} (v_seen : (List Rat)) (v_steps : (List Rat)) (v_is_up : Bool) (h : S_law_stepped_TR_TR_B v_seen v_steps v_is_up) : G__law_stepped [(eT encR) v_seen, (eT encR) v_steps, D.bl v_is_up] w = .ok ((eT D.int) (M_law_stepped_TR_TR_B v_seen v_steps v_is_up)) w := by
  refine run_rt ?_
  refine sq (parE (cons_ev ((efn_ev (ds := [(eT encR) v_seen]) (one_ev rfl) rfl).trans (T_law_order_TR v_seen h.c1)) (one_ev rfl))) ?_
  refine sqX (Q := (fun (s2 : Int) (en : List Sl) => ∃ j_k : Sl, en = [.dat ((eT encR) v_seen), .dat ((eT encR) v_steps), .dat (D.bl v_is_up), .dat ((eL D.int) (M_law_order_TR v_seen)), .dat (D.int s2), j_k]) (M_law_stepped_TR_TR_B_l1 v_seen v_steps v_is_up)) (forE (e := D.int) (xs := (upto (Int.toNat ((v_seen).length : Int)))) (M_law_stepped_TR_TR_B_step1 v_seen v_steps v_is_up) (S_law_stepped_TR_TR_B_l1 v_seen v_steps v_is_up) (fun (s2 : Int) (en : List Sl) => ∃ j_k : Sl, en = [.dat ((eT encR) v_seen), .dat ((eT encR) v_steps), .dat (D.bl v_is_up), .dat ((eL D.int) (M_law_order_TR v_seen)), .dat (D.int s2), j_k]) (s0 := (0 : Int)) (rng1 (lenT rfl) h.c2) ⟨_, rfl⟩ h.c3 (fun x1 s2 en hx1 g3 hq => ?_)) (fun en7 hq8 => ?_)
  · obtain ⟨j_k, rfl⟩ := hq
    refine ⟨_, rfl, ?_⟩
    refine NxR.last (iteE (c := ((!((decide ((ixI v_steps x1) < (ixI v_seen (ixI (M_law_order_TR v_seen) x1)))))) && (v_is_up || (decide (s2 = x1))))) (en1 := [.dat ((eT encR) v_seen), .dat ((eT encR) v_steps), .dat (D.bl v_is_up), .dat ((eL D.int) (M_law_order_TR v_seen)), .dat (D.int (M_law_stepped_TR_TR_B_most2 v_seen v_steps v_is_up x1 s2)), .dat (D.int x1)]) (w1 := w) (w2 := w) (andE (c := (!((decide ((ixI v_steps x1) < (ixI v_seen (ixI (M_law_order_TR v_seen) x1))))))) (not_ev (tru_ev ((efn_ev (ds := [encR (ixI v_steps x1), encR (ixI v_seen (ixI (M_law_order_TR v_seen) x1))]) (cons_ev (ixT rfl rfl g3.c1) (one_ev (ixT rfl (ixL rfl rfl g3.c2) g3.c3))) rfl).trans (MD.T__law_below (ixI v_steps x1) (ixI v_seen (ixI (M_law_order_TR v_seen) x1)) g3.c4)))) (fun hc4 => (orE (c := v_is_up) (tru_ev rfl) (fun hc5 => (eqi_ev rfl rfl))))) (fun hc6 => (by rw [show (M_law_stepped_TR_TR_B_most2 v_seen v_steps v_is_up x1 s2) = (M_law_stepped_TR_TR_B_most1 v_seen v_steps v_is_up x1 s2) from by unfold M_law_stepped_TR_TR_B_most2; rw [hc6]; rfl]; exact (setE (dv := D.int (M_law_stepped_TR_TR_B_most1 v_seen v_steps v_is_up x1 s2)) (add_ev rfl rfl)))) (fun hc6 => (by rw [show (M_law_stepped_TR_TR_B_most2 v_seen v_steps v_is_up x1 s2) = s2 from by unfold M_law_stepped_TR_TR_B_most2; rw [hc6]; rfl]; exact passE))) ?_
    exact by first | rfl | trivial | exact ⟨_, rfl⟩ | exact ⟨_, _, rfl⟩ | exact ⟨_, _, _, rfl⟩ | exact ⟨_, _, _, _, rfl⟩ | exact ⟨_, _, _, _, _, rfl⟩ | exact ⟨_, _, _, _, _, _, rfl⟩ | exact ⟨_, _, _, _, _, _, _, rfl⟩ | exact ⟨_, _, _, _, _, _, _, _, rfl⟩
  obtain ⟨j_k, rfl⟩ := hq8
  exact retE (tupL (sortI_ev (slL rfl prN (prS rfl)) h.c4))
/-! _law_is_inside -/
/-! _law_led -/
/-! _law_led_set -/
/-! _law_full -/
/-! _law_even -/
/-! _law_holm -/
/-! _law_sure -/
/-! _law_hommel -/
/-! _law_share -/
def M_law_share (v_seen : (List Rat)) (v_steps : (List Rat)) (v_part : (List Int)) : Rat := (bif (!(decide ((M_law_stepped_TR_TR_B v_seen v_steps true) = []))) then ((Rat.divInt (((List.filter (fun (x2 : Int) => (decide (x2 ∈ v_part))) (M_law_stepped_TR_TR_B v_seen v_steps true))).length : Int) (((M_law_stepped_TR_TR_B v_seen v_steps true)).length : Int))) else (0 : Rat))
structure S_law_share (v_seen : (List Rat)) (v_steps : (List Rat)) (v_part : (List Int)) : Prop where
  c1 : S_law_stepped_TR_TR_B v_seen v_steps true
  c2 : (!(decide ((M_law_stepped_TR_TR_B v_seen v_steps true) = []))) = true → ((M_law_stepped_TR_TR_B v_seen v_steps true)).length ≤ sizeLine
  c3 : (!(decide ((M_law_stepped_TR_TR_B v_seen v_steps true) = []))) = true → Fb (((M_law_stepped_TR_TR_B v_seen v_steps true)).length : Int)
theorem T_law_share {w : Wl} (v_seen : (List Rat)) (v_steps : (List Rat)) (v_part : (List Int)) (h : S_law_share v_seen v_steps v_part) : G__law_share [(eT encR) v_seen, (eT encR) v_steps, (eT D.int) v_part] w = .ok (encR (M_law_share v_seen v_steps v_part)) w := by
  refine run_rt ?_
  refine sq (setE (dv := (eT D.int) (M_law_stepped_TR_TR_B v_seen v_steps true)) ((efn_ev (ds := [(eT encR) v_seen, (eT encR) v_steps, D.bl true]) (cons_ev rfl (cons_ev rfl (one_ev rfl))) rfl).trans (T_law_stepped_TR_TR_B v_seen v_steps true h.c1))) ?_
  exact retE (ifE (e := encR) (c := (!(decide ((M_law_stepped_TR_TR_B v_seen v_steps true) = [])))) (a := ((Rat.divInt (((List.filter (fun (x2 : Int) => (decide (x2 ∈ v_part))) (M_law_stepped_TR_TR_B v_seen v_steps true))).length : Int) (((M_law_stepped_TR_TR_B v_seen v_steps true)).length : Int)))) (b := (0 : Rat)) (neE (e := (eT D.int)) (x := (M_law_stepped_TR_TR_B v_seen v_steps true)) (y := []) eqv_isT rfl rfl) (fun hc1 => ((efn_ev (ds := [D.int (((List.filter (fun (x2 : Int) => (decide (x2 ∈ v_part))) (M_law_stepped_TR_TR_B v_seen v_steps true))).length : Int), D.int (((M_law_stepped_TR_TR_B v_seen v_steps true)).length : Int)]) (cons_ev (lenL (filtI (filtE (e := D.int) (e2 := D.int) (xs := (M_law_stepped_TR_TR_B v_seen v_steps true)) (p := (fun (x2 : Int) => (decide (x2 ∈ v_part)))) (f := (fun (x2 : Int) => x2)) (seqT rfl) (h.c2 hc1) (fun x2 hx2 => ⟨_, rfl, (inT (e := D.int) (x := x2) (xs := v_part) eqv_int rfl rfl), fun hc3 => rfl⟩)))) (one_ev (lenT rfl))) rfl).trans (MD.T__law_low (((List.filter (fun (x2 : Int) => (decide (x2 ∈ v_part))) (M_law_stepped_TR_TR_B v_seen v_steps true))).length : Int) (((M_law_stepped_TR_TR_B v_seen v_steps true)).length : Int) (h.c3 hc1)))) (fun hc1 => rfl))
/-! _law_worths -/
def M_law_worths_many1 (v_steps : (List Rat)) (v_part : (List Int)) : Int := ((v_steps).length : Int)
def M_law_worths_found1 (v_steps : (List Rat)) (v_part : (List Int)) : (List ((List (Option Rat)) × Rat)) := ([] : (List ((List (Option Rat)) × Rat)))
def M_law_worths_a1 (v_steps : (List Rat)) (v_part : (List Int)) (x1 : Int) (s2 : (List ((List (Option Rat)) × Rat))) (x4 : (List Int)) (s5 : (List ((List (Option Rat)) × Rat))) : Int := ((x4).length : Int)
def M_law_worths_found2 (v_steps : (List Rat)) (v_part : (List Int)) (x1 : Int) (s2 : (List ((List (Option Rat)) × Rat))) (x4 : (List Int)) (s5 : (List ((List (Option Rat)) × Rat))) : (List ((List (Option Rat)) × Rat)) := (s5 ++ [((M_law_edge (M_law_worths_many1 v_steps v_part) x4 (ixI v_steps (((M_law_worths_a1 v_steps v_part x1 s2 x4 s5) + x1) - (1 : Int)))), ((Rat.divInt (M_law_worths_a1 v_steps v_part x1 s2 x4 s5) ((M_law_worths_a1 v_steps v_part x1 s2 x4 s5) + x1))))])
def M_law_worths_step2 (v_steps : (List Rat)) (v_part : (List Int)) (x1 : Int) (s2 : (List ((List (Option Rat)) × Rat))) (x4 : (List Int)) (s5 : (List ((List (Option Rat)) × Rat))) : (List ((List (Option Rat)) × Rat)) := (M_law_worths_found2 v_steps v_part x1 s2 x4 s5)
structure S_law_worths_l2 (v_steps : (List Rat)) (v_part : (List Int)) (x1 : Int) (s2 : (List ((List (Option Rat)) × Rat))) (x4 : (List Int)) (s5 : (List ((List (Option Rat)) × Rat))) : Prop where
  c1 : 0 ≤ (((M_law_worths_a1 v_steps v_part x1 s2 x4 s5) + x1) - (1 : Int)) ∧ (((M_law_worths_a1 v_steps v_part x1 s2 x4 s5) + x1) - (1 : Int)) < (v_steps).length
  c2 : S_law_edge (M_law_worths_many1 v_steps v_part) x4 (ixI v_steps (((M_law_worths_a1 v_steps v_part x1 s2 x4 s5) + x1) - (1 : Int)))
  c3 : Fb ((M_law_worths_a1 v_steps v_part x1 s2 x4 s5) + x1)
  c4 : (s5).length < sizeLine
def M_law_worths_l1 (v_steps : (List Rat)) (v_part : (List Int)) (x1 : Int) (s2 : (List ((List (Option Rat)) × Rat))) : (List ((List (Option Rat)) × Rat)) := foldS (M_law_worths_step2 v_steps v_part x1 s2) ((subsL v_part)) s2
def M_law_worths_step1 (v_steps : (List Rat)) (v_part : (List Int)) (x1 : Int) (s2 : (List ((List (Option Rat)) × Rat))) : (List ((List (Option Rat)) × Rat)) := (M_law_worths_l1 v_steps v_part x1 s2)
structure S_law_worths_l1 (v_steps : (List Rat)) (v_part : (List Int)) (x1 : Int) (s2 : (List ((List (Option Rat)) × Rat))) : Prop where
  c1 : v_part ∈ ssets 5
  c2 : SafeL (M_law_worths_step2 v_steps v_part x1 s2) (S_law_worths_l2 v_steps v_part x1 s2) ((subsL v_part)) s2
def M_law_worths_l2 (v_steps : (List Rat)) (v_part : (List Int)) : (List ((List (Option Rat)) × Rat)) := foldS (M_law_worths_step1 v_steps v_part) (upto (Int.toNat (((M_law_worths_many1 v_steps v_part) - ((v_part).length : Int)) + (1 : Int)))) (M_law_worths_found1 v_steps v_part)
def M_law_worths (v_steps : (List Rat)) (v_part : (List Int)) : (List ((List (Option Rat)) × Rat)) := (M_law_worths_l2 v_steps v_part)
structure S_law_worths (v_steps : (List Rat)) (v_part : (List Int)) : Prop where
  c1 : small (((M_law_worths_many1 v_steps v_part) - ((v_part).length : Int)) + (1 : Int)) = true
  c2 : SafeL (M_law_worths_step1 v_steps v_part) (S_law_worths_l1 v_steps v_part) (upto (Int.toNat (((M_law_worths_many1 v_steps v_part) - ((v_part).length : Int)) + (1 : Int)))) (M_law_worths_found1 v_steps v_part)
theorem T_law_worths {w : Wl} (v_steps : (List Rat)) (v_part : (List Int)) (h : S_law_worths v_steps v_part) : G__law_worths [(eT encR) v_steps, (eT D.int) v_part] w = .ok ((eT (eP (eT (eO encR)) encR)) (M_law_worths v_steps v_part)) w := by
  refine run_rt ?_
  refine sq (pm2E (s1 := Sl.dat (D.int (M_law_worths_many1 v_steps v_part))) (s2 := Sl.own (List.map (eP (eT (eO encR)) encR) (M_law_worths_found1 v_steps v_part))) (cons_ev (lenT rfl) (one_ev rfl)) rfl rfl) ?_
  refine sqX (Q := (fun (s2 : (List ((List (Option Rat)) × Rat))) (en : List Sl) => ∃ j_b j_some j_a : Sl, en = [.dat ((eT encR) v_steps), .dat ((eT D.int) v_part), .dat (D.int (M_law_worths_many1 v_steps v_part)), .own (List.map (eP (eT (eO encR)) encR) s2), j_b, j_some, j_a]) (M_law_worths_l2 v_steps v_part)) (forE (e := D.int) (xs := (upto (Int.toNat (((M_law_worths_many1 v_steps v_part) - ((v_part).length : Int)) + (1 : Int))))) (M_law_worths_step1 v_steps v_part) (S_law_worths_l1 v_steps v_part) (fun (s2 : (List ((List (Option Rat)) × Rat))) (en : List Sl) => ∃ j_b j_some j_a : Sl, en = [.dat ((eT encR) v_steps), .dat ((eT D.int) v_part), .dat (D.int (M_law_worths_many1 v_steps v_part)), .own (List.map (eP (eT (eO encR)) encR) s2), j_b, j_some, j_a]) (s0 := (M_law_worths_found1 v_steps v_part)) (rng1 (add_ev (MD.sub_ev rfl (lenT rfl)) rfl) h.c1) ⟨_, _, _, rfl⟩ h.c2 (fun x1 s2 en hx1 g3 hq => ?_)) (fun en9 hq10 => ?_)
  · obtain ⟨j_b, j_some, j_a, rfl⟩ := hq
    refine ⟨_, rfl, ?_⟩
    refine NxR.lastX (Q := (fun (s5 : (List ((List (Option Rat)) × Rat))) (en : List Sl) => ∃ j_some j_a : Sl, en = [.dat ((eT encR) v_steps), .dat ((eT D.int) v_part), .dat (D.int (M_law_worths_many1 v_steps v_part)), .own (List.map (eP (eT (eO encR)) encR) s5), .dat (D.int x1), j_some, j_a]) (M_law_worths_l1 v_steps v_part x1 s2)) (forE (e := (eT D.int)) (xs := ((subsL v_part))) (M_law_worths_step2 v_steps v_part x1 s2) (S_law_worths_l2 v_steps v_part x1 s2) (fun (s5 : (List ((List (Option Rat)) × Rat))) (en : List Sl) => ∃ j_some j_a : Sl, en = [.dat ((eT encR) v_steps), .dat ((eT D.int) v_part), .dat (D.int (M_law_worths_many1 v_steps v_part)), .own (List.map (eP (eT (eO encR)) encR) s5), .dat (D.int x1), j_some, j_a]) (s0 := s2) (seqL ((efn_ev (ds := [(eT D.int) v_part]) (one_ev rfl) rfl).trans (MD.T__law_sets_of v_part g3.c1))) ⟨_, _, rfl⟩ g3.c2 (fun x4 s5 en hx4 g6 hq => ?_)) (fun en7 hq8 => ?_)
    · obtain ⟨j_some, j_a, rfl⟩ := hq
      refine ⟨_, rfl, ?_⟩
      refine NxR.sq (setE (dv := D.int (M_law_worths_a1 v_steps v_part x1 s2 x4 s5)) (lenT rfl)) ?_
      refine NxR.last (appE (e := (eP (eT (eO encR)) encR)) (xs := s5) (x := ((M_law_edge (M_law_worths_many1 v_steps v_part) x4 (ixI v_steps (((M_law_worths_a1 v_steps v_part x1 s2 x4 s5) + x1) - (1 : Int)))), ((Rat.divInt (M_law_worths_a1 v_steps v_part x1 s2 x4 s5) ((M_law_worths_a1 v_steps v_part x1 s2 x4 s5) + x1))))) rfl (etup_ev (cons_ev ((efn_ev (ds := [D.int (M_law_worths_many1 v_steps v_part), (eT D.int) x4, encR (ixI v_steps (((M_law_worths_a1 v_steps v_part x1 s2 x4 s5) + x1) - (1 : Int)))]) (cons_ev rfl (cons_ev rfl (one_ev (ixT rfl (MD.sub_ev (add_ev rfl rfl) rfl) g6.c1)))) rfl).trans (T_law_edge (M_law_worths_many1 v_steps v_part) x4 (ixI v_steps (((M_law_worths_a1 v_steps v_part x1 s2 x4 s5) + x1) - (1 : Int))) g6.c2)) (one_ev ((efn_ev (ds := [D.int (M_law_worths_a1 v_steps v_part x1 s2 x4 s5), D.int ((M_law_worths_a1 v_steps v_part x1 s2 x4 s5) + x1)]) (cons_ev rfl (one_ev (add_ev rfl rfl))) rfl).trans (MD.T__law_low (M_law_worths_a1 v_steps v_part x1 s2 x4 s5) ((M_law_worths_a1 v_steps v_part x1 s2 x4 s5) + x1) g6.c3)))) (show 2 ≤ sizeLine by decide)) g6.c4) ?_
      exact by first | rfl | trivial | exact ⟨_, rfl⟩ | exact ⟨_, _, rfl⟩ | exact ⟨_, _, _, rfl⟩ | exact ⟨_, _, _, _, rfl⟩ | exact ⟨_, _, _, _, _, rfl⟩ | exact ⟨_, _, _, _, _, _, rfl⟩ | exact ⟨_, _, _, _, _, _, _, rfl⟩ | exact ⟨_, _, _, _, _, _, _, _, rfl⟩
    obtain ⟨j_some, j_a, rfl⟩ := hq8
    exact by first | rfl | trivial | exact ⟨_, rfl⟩ | exact ⟨_, _, rfl⟩ | exact ⟨_, _, _, rfl⟩ | exact ⟨_, _, _, _, rfl⟩ | exact ⟨_, _, _, _, _, rfl⟩ | exact ⟨_, _, _, _, _, _, rfl⟩ | exact ⟨_, _, _, _, _, _, _, rfl⟩ | exact ⟨_, _, _, _, _, _, _, _, rfl⟩
  obtain ⟨j_b, j_some, j_a, rfl⟩ := hq10
  exact retE (tupL rfl)
/-! _law_cut -/
/-! _law_fences -/
/-! _law_any_fences -/
/-! _law_any_edge -/
/-! _law_any_edges -/
end
end ML

set_option exponentiation.threshold 20000
/-! What drawn things are. -/
namespace SP
open PySem PySem.Spec L2 DL PF MD MP ML LV
open LV (encR IsR isR Rz)
open PyProof.Rows hiding St
/-! ### sizes -/
theorem szl {n : Nat} (h : n ≤ 1000) : n ≤ sizeLine := PF.szL h
theorem szlt {n : Nat} (h : n ≤ 1000) : n < sizeLine := Nat.lt_of_le_of_lt h (by decide)
theorem small_of {i : Int} (h0 : -1000 ≤ i) (h : i ≤ 1000) : small i = true := by
  unfold small
  simp
  omega
theorem rs {B C : Nat} {p q : Rat} (hp : Rz B p) (hq : Rz C q) (h : B + C < 9000) : Rs p q := ⟨B, C, hp, hq, h⟩
theorem rz_c {q : Rat} {B : Nat} (h : q.num.natAbs < 2 ^ B ∧ q.den < 2 ^ B) : Rz B q := h
theorem rz_div {n m : Int} {B : Nat} (hm : 0 < m) (hn : n.natAbs < 2 ^ B) (hd : m.natAbs < 2 ^ B) : Rz B (Rat.divInt n m) := rz_of n m hm rfl hn hd
theorem den_lt {B : Nat} {q : Rat} (h : Rz B q) : ((q.den : Nat) : Int).natAbs < 2 ^ B := h.den
theorem natAbs_mul_lt {a b : Int} {B C : Nat} (h1 : a.natAbs < 2 ^ B) (h2 : b.natAbs < 2 ^ C) : (a * b).natAbs < 2 ^ (B + C) := mul_nat h1 h2
theorem rz_mul {B C : Nat} {p q : Rat} (hp : Rz B p) (hq : Rz C q) : Rz (B + C) (p * q) := by
  have e : p * q = Rat.divInt (p.num * q.num) (p.den * q.den) := by
    have := Rat.divInt_mul_divInt p.num q.num (d₁ := p.den) (d₂ := q.den)
    rwa [Rat.num_divInt_den, Rat.num_divInt_den] at this
  rw [e]
  exact rz_div (Int.mul_pos (den_pos p) (den_pos q)) (mul_nat hp.num hq.num) (mul_nat hp.den hq.den)
theorem add_lt_two {a b : Int} {B : Nat} (h1 : a.natAbs < 2 ^ B) (h2 : b.natAbs < 2 ^ B) : (a + b).natAbs < 2 ^ (B + 1) := by
  rw [Nat.pow_succ]
  omega
theorem rz_add {B C : Nat} {p q : Rat} (hp : Rz B p) (hq : Rz C q) : Rz (B + C + 1) (p + q) := by
  have e : p + q = Rat.divInt (p.num * q.den + q.num * p.den) (p.den * q.den) := by
    have := Rat.divInt_add_divInt p.num q.num (den_ne p) (den_ne q)
    rwa [Rat.num_divInt_den, Rat.num_divInt_den] at this
  rw [e]
  refine rz_div (Int.mul_pos (den_pos p) (den_pos q)) (add_lt_two (mul_nat hp.num hq.den) ?_) (Nat.lt_trans (mul_nat hp.den hq.den) (Nat.pow_lt_pow_right (by decide) (by omega)))
  have := mul_nat hq.num hp.den
  rwa [Nat.add_comm C B] at this
theorem rz_neg {B : Nat} {p : Rat} (hp : Rz B p) : Rz B (-p) := ⟨by rw [Rat.neg_num, Int.natAbs_neg]; exact hp.1, by rw [Rat.neg_den]; exact hp.2⟩
theorem rz_sub {B C : Nat} {p q : Rat} (hp : Rz B p) (hq : Rz C q) : Rz (B + C + 1) (p - q) := by
  rw [Rat.sub_eq_add_neg]
  exact rz_add hp (rz_neg hq)
theorem divInt_le_one {a b : Int} (hb : 0 < b) (h : a ≤ b) : Rat.divInt a b ≤ 1 := by
  rw [Rat.divInt_eq_div, ← Rat.not_lt, Rat.lt_div_iff (by exact_mod_cast hb)]
  rw [Rat.one_mul, Rat.intCast_lt_intCast]
  omega
theorem divInt_pos {a b : Int} (hb : 0 < b) (h : 0 < a) : 0 < Rat.divInt a b := by
  rw [Rat.divInt_eq_div, Rat.lt_div_iff (by exact_mod_cast hb), Rat.zero_mul]
  exact_mod_cast h
theorem divInt_lt_one {a b : Int} (hb : 0 < b) (h : a < b) : Rat.divInt a b < 1 := by
  rw [Rat.divInt_eq_div, Rat.div_lt_iff (by exact_mod_cast hb), Rat.one_mul]
  exact_mod_cast h
/-! ### places -/
section
variable {α : Type} [Inhabited α] {xs : List α} {i : Int}
theorem ixI_mem (h : 0 ≤ i ∧ i < xs.length) : ixI xs i ∈ xs := List.mem_of_getElem? (ixI_get h.1 h.2)
end
theorem upto_length (n : Nat) : (upto n).length = n := by simp [upto]
theorem upto_lt (n : Nat) : (upto n).Pairwise (· < ·) := by
  unfold upto
  rw [List.pairwise_map]
  exact List.pairwise_lt_range.imp fun h => by omega
/-! ### loops that go to their end -/
theorem drop_cons {α : Type} {ys xs : List α} {x : α} {n : Nat} (h : ys.drop n = x :: xs) : ys[n]? = some x ∧ ys.drop (n + 1) = xs := by
  have h1 : (ys.drop n)[0]? = some x := by rw [h]; rfl
  rw [List.getElem?_drop] at h1
  refine ⟨by simpa using h1, ?_⟩
  have : ys.drop (n + 1) = (ys.drop n).drop 1 := by rw [List.drop_drop]
  rw [this, h]
  rfl
theorem foldW_gen {α σ : Type} {step : α → σ → Wl → σ × Wl} {S : α → σ → Wl → Prop} (I : Nat → σ → Prop) (c : Nat) (ys : List α)
    (h : ∀ x s w k n, ys[n]? = some x → Wk (k + c) w → I n s → S x s w ∧ I (n + 1) (step x s w).1 ∧ Wk k (step x s w).2) :
    ∀ (xs : List α) (s : σ) (w : Wl) (k n : Nat), ys.drop n = xs → Wk (k + c * xs.length) w → I n s →
    SafeLW step S xs s w ∧ I (n + xs.length) (foldW step xs s w).1 ∧ Wk k (foldW step xs s w).2
  | [], s, w, k, n, _, hw, hi => ⟨trivial, hi, hw⟩
  | x :: xs, s, w, k, n, hd, hw, hi => by
    obtain ⟨hx, hd2⟩ := drop_cons hd
    obtain ⟨h1, h2, h3⟩ := h x s w (k + c * xs.length) n hx (by rw [List.length_cons, Nat.mul_succ, ← Nat.add_assoc] at hw; exact hw) hi
    obtain ⟨h4, h5, h6⟩ := foldW_gen I c ys h xs _ _ k (n + 1) hd2 h3 h2
    refine ⟨⟨h1, h4⟩, ?_, h6⟩
    rw [List.length_cons, show n + (xs.length + 1) = n + 1 + xs.length by omega]
    exact h5
theorem foldW_sp {α σ : Type} {step : α → σ → Wl → σ × Wl} {S : α → σ → Wl → Prop} (I : Nat → σ → Prop) (c : Nat) {ys : List α} {s : σ} {w : Wl} {k : Nat} (hw : Wk (k + c * ys.length) w) (h0 : I 0 s)
    (h : ∀ x s w k n, ys[n]? = some x → Wk (k + c) w → I n s → S x s w ∧ I (n + 1) (step x s w).1 ∧ Wk k (step x s w).2) :
    SafeLW step S ys s w ∧ I ys.length (foldW step ys s w).1 ∧ Wk k (foldW step ys s w).2 := by
  have := foldW_gen I c ys h ys s w k 0 (by simp) hw h0
  rwa [Nat.zero_add] at this
theorem foldL_gen {α σ : Type} {step : α → σ → σ} {S : α → σ → Prop} (I : Nat → σ → Prop) (ys : List α) (h : ∀ x s n, ys[n]? = some x → I n s → S x s ∧ I (n + 1) (step x s)) :
    ∀ (xs : List α) (s : σ) (n : Nat), ys.drop n = xs → I n s → SafeL step S xs s ∧ I (n + xs.length) (foldS step xs s)
  | [], s, n, _, hi => ⟨trivial, hi⟩
  | x :: xs, s, n, hd, hi => by
    obtain ⟨hx, hd2⟩ := drop_cons hd
    obtain ⟨h1, h2⟩ := h x s n hx hi
    obtain ⟨h4, h5⟩ := foldL_gen I ys h xs _ (n + 1) hd2 h2
    refine ⟨⟨h1, h4⟩, ?_⟩
    rw [List.length_cons, show n + (xs.length + 1) = n + 1 + xs.length by omega]
    exact h5
theorem foldL_sp {α σ : Type} {step : α → σ → σ} {S : α → σ → Prop} (I : Nat → σ → Prop) {ys : List α} {s : σ} (h0 : I 0 s) (h : ∀ x s n, ys[n]? = some x → I n s → S x s ∧ I (n + 1) (step x s)) :
    SafeL step S ys s ∧ I ys.length (foldS step ys s) := by
  have := foldL_gen I ys h ys s 0 (by simp) h0
  rwa [Nat.zero_add] at this
theorem upto_get {n i : Nat} {x : Int} (h : (upto n)[i]? = some x) : x = i ∧ i < n := by
  unfold upto at h
  rw [List.getElem?_map] at h
  cases hr : (List.range n)[i]? with
  | none => rw [hr] at h; cases h
  | some j =>
    rw [hr] at h
    have hl : i < (List.range n).length := by
      rcases Nat.lt_or_ge i (List.range n).length with z | z
      · exact z
      · rw [List.getElem?_eq_none z] at hr; cases hr
    rw [List.getElem?_eq_getElem hl, List.getElem_range] at hr
    cases hr
    simp only [Option.map_some, Option.some.injEq] at h
    rw [List.length_range] at hl
    exact ⟨h.symm, hl⟩
/-- a comprehension that draws for each element -/
theorem lcW_sp {α β : Type} {p : α → Wl → Bool × Wl} {f : α → Wl → β × Wl} {S : α → Wl → Prop} (P : α → β → Prop) (c : Nat) : ∀ (xs : List α) (w : Wl) (k : Nat), Wk (k + c * xs.length) w →
    (∀ x w k, x ∈ xs → Wk (k + c) w → S x w ∧ p x w = (true, w) ∧ P x (f x w).1 ∧ Wk k (f x w).2) →
    SafeW p f S xs w ∧ (lcW p f xs w).1.length = xs.length ∧ (∀ (i : Nat) (x : α) (z : β), xs[i]? = some x → (lcW p f xs w).1[i]? = some z → P x z) ∧ Wk k (lcW p f xs w).2
  | [], w, k, hw, _ => ⟨trivial, rfl, fun i x z h => by simp at h, hw⟩
  | x :: xs, w, k, hw, h => by
    obtain ⟨h1, h2, h3, h4⟩ := h x w (k + c * xs.length) List.mem_cons_self (by rw [List.length_cons, Nat.mul_succ, ← Nat.add_assoc] at hw; exact hw)
    obtain ⟨h5, h6, h7, h8⟩ := lcW_sp P c xs _ k h4 fun y w k hy => h y w k (List.mem_cons_of_mem _ hy)
    unfold SafeW lcW
    rw [h2]
    refine ⟨⟨h1, h5⟩, by simp [h6], fun i y z hy hz => ?_, h8⟩
    cases i with
    | zero =>
      simp only [List.getElem?_cons_zero, Option.some.injEq] at hy hz
      subst hy hz
      exact h3
    | succ i =>
      simp only [List.getElem?_cons_succ] at hy hz
      exact h7 i y z hy hz
/-! ### draws -/
section
variable {k : Nat} {w : Wl}
theorem pick_sp {xs : List Int} (h : Wk (k + 1) w) (h0 : xs ≠ []) (hl : xs.length ≤ 1000) : S_law_pick_TI xs w ∧ (M_law_pick_TI xs w).1 ∈ xs ∧ Wk k (M_law_pick_TI xs w).2 := by
  have hp := List.length_pos_iff.mpr h0
  obtain ⟨s, d0, d1, k1⟩ := draw_spec (m := (xs.length : Int)) h (by omega) (by omega)
  exact ⟨⟨s, d0, d1⟩, ixI_mem ⟨d0, d1⟩, k1⟩
theorem pick2_sp {xs : List Rat} (h : Wk (k + 1) w) (h0 : xs ≠ []) (hl : xs.length ≤ 1000) : S_law_pick_TR xs w ∧ (M_law_pick_TR xs w).1 ∈ xs ∧ Wk k (M_law_pick_TR xs w).2 := by
  have hp := List.length_pos_iff.mpr h0
  obtain ⟨s, d0, d1, k1⟩ := draw_spec (m := (xs.length : Int)) h (by omega) (by omega)
  exact ⟨⟨s, d0, d1⟩, ixI_mem ⟨d0, d1⟩, k1⟩
theorem pick3_sp {xs : List (List Int)} (h : Wk (k + 1) w) (h0 : xs ≠ []) (hl : xs.length ≤ 1000) : S_law_pick_LTI xs w ∧ (M_law_pick_LTI xs w).1 ∈ xs ∧ Wk k (M_law_pick_LTI xs w).2 := by
  have hp := List.length_pos_iff.mpr h0
  obtain ⟨s, d0, d1, k1⟩ := draw_spec (m := (xs.length : Int)) h (by omega) (by omega)
  exact ⟨⟨s, d0, d1⟩, ixI_mem ⟨d0, d1⟩, k1⟩
theorem pick4_sp {xs : List Rat} (h : Wk (k + 1) w) (h0 : xs ≠ []) (hl : xs.length ≤ 1000) : S_law_pick_LR xs w ∧ (M_law_pick_LR xs w).1 ∈ xs ∧ Wk k (M_law_pick_LR xs w).2 := by
  have hp := List.length_pos_iff.mpr h0
  obtain ⟨s, d0, d1, k1⟩ := draw_spec (m := (xs.length : Int)) h (by omega) (by omega)
  exact ⟨⟨s, d0, d1⟩, ixI_mem ⟨d0, d1⟩, k1⟩
theorem fb {m : Int} {B : Nat} (h0 : 0 < m) (h : m.natAbs < 2 ^ B) (hB : B ≤ 8999) : Fb m := ⟨h0, Nat.lt_of_lt_of_le h (Nat.pow_le_pow_right (by decide) hB)⟩
/-- a degree -/
def Lv (q : Rat) : Prop := 0 < q ∧ q ≤ 1 ∧ Rz 32 q
theorem level_sp (h : Wk (k + 3) w) : S_law_level w ∧ Lv (M_law_level w).1 ∧ Wk k (M_law_level w).2 := by
  obtain ⟨s1, a0, a1, k1⟩ := draw_spec (k := k + 2) (m := 4) h (by omega) (by omega)
  obtain ⟨s2, m2, k2⟩ := pick2_sp (k := k + 1) (w := (M_law_level_d1 w).2) (xs := [(mkRat 1 20), (mkRat 1 10), (mkRat 1 2), (1 : Rat), (mkRat 1 3), (mkRat 1 4), (mkRat 2 3)]) k1 (by simp) (by simp)
  obtain ⟨s3, m3, k3⟩ := pick_sp (k := k + 1) (w := (M_law_level_d1 w).2) (xs := [(5 : Int), (12 : Int), (60 : Int), (997 : Int), (1000000 : Int)]) k1 (by simp) (by simp)
  have b3 : 5 ≤ (M_law_level_d3 w).1 ∧ (M_law_level_d3 w).1 ≤ 1000000 := by
    have : ∀ z ∈ [(5 : Int), (12 : Int), (60 : Int), (997 : Int), (1000000 : Int)], 5 ≤ z ∧ z ≤ 1000000 := by decide
    exact this _ m3
  obtain ⟨s4, c0, c1, k4⟩ := draw_spec (k := k) (m := (M_law_level_d3 w).1) (w := (M_law_level_d3 w).2) k3 (by omega) (by omega)
  refine ⟨⟨s1, fun _ => s2, fun _ => s3, fun _ => s4, fun _ => fb (B := 32) (by omega) (by omega) (by omega)⟩, ?_⟩
  unfold M_law_level M_law_level_r1
  cases decide ((M_law_level_d1 w).1 < (2 : Int)) with
  | true =>
    refine ⟨?_, k2.mono (by omega)⟩
    have : ∀ z ∈ [(mkRat 1 20), (mkRat 1 10), (mkRat 1 2), (1 : Rat), (mkRat 1 3), (mkRat 1 4), (mkRat 2 3)], 0 < z ∧ z ≤ 1 ∧ z.num.natAbs < 2 ^ 32 ∧ z.den < 2 ^ 32 := by decide +kernel
    exact this _ m2
  | false =>
    refine ⟨⟨divInt_pos (by omega) ?_, divInt_le_one (by omega) ?_, rz_div (by omega) ?_ (by omega)⟩, k4⟩
    all_goals (have e : (M_law_level_d4 w).1 = (M_draw (M_law_level_d3 w).1 (M_law_level_d3 w).2).1 := rfl; omega)
theorem low_level_sp (h : Wk (k + 3) w) : S_law_low_level w ∧ (Lv (M_law_low_level w).1 ∧ (M_law_low_level w).1 < 1) ∧ Wk k (M_law_low_level w).2 := by
  obtain ⟨s1, l1, k1⟩ := level_sp (k := k) h
  refine ⟨⟨s1⟩, ?_, k1⟩
  unfold M_law_low_level
  have e : M_law_low_level_d1 w = M_law_level w := rfl
  rw [e]
  by_cases h1 : (M_law_level w).1 = 1
  · simp only [h1, decide_true, Bool.not_true, cond_false]
    exact ⟨⟨by decide +kernel, by decide +kernel, by decide +kernel, by decide +kernel⟩, by decide +kernel⟩
  · simp only [h1, decide_false, Bool.not_false, cond_true]
    exact ⟨l1, by have := l1.2.1; grind⟩
/-- a number -/
def Nb (B : Nat) (q : Rat) : Prop := 0 ≤ q ∧ q ≤ 1 ∧ Rz B q
theorem Nb.mono {B C : Nat} {q : Rat} (h : Nb B q) (hc : B ≤ C) : Nb C q := ⟨h.1, h.2.1, h.2.2.mono hc⟩
theorem any_part_sp (h : Wk (k + 2) w) : S_law_any_part w ∧ Nb 32 (M_law_any_part w).1 ∧ Wk k (M_law_any_part w).2 := by
  obtain ⟨s1, m1, k1⟩ := pick_sp (k := k + 1) (xs := [(2 : Int), (3 : Int), (4 : Int), (10 : Int), (20 : Int), (60 : Int), (7 : Int), (1 : Int), (997 : Int), (1000000000 : Int)]) h (by simp) (by simp)
  have b1 : 1 ≤ (M_law_any_part_d1 w).1 ∧ (M_law_any_part_d1 w).1 ≤ 1000000000 := by
    have : ∀ z ∈ [(2 : Int), (3 : Int), (4 : Int), (10 : Int), (20 : Int), (60 : Int), (7 : Int), (1 : Int), (997 : Int), (1000000000 : Int)], 1 ≤ z ∧ z ≤ 1000000000 := by decide
    exact this _ m1
  obtain ⟨s2, c0, c1, k2⟩ := draw_spec (k := k) (m := (M_law_any_part_d1 w).1 + 1) (w := (M_law_any_part_d1 w).2) k1 (by omega) (by omega)
  have e : (M_law_any_part_d2 w).1 = (M_draw ((M_law_any_part_d1 w).1 + 1) (M_law_any_part_d1 w).2).1 := rfl
  exact ⟨⟨s1, s2, fb (B := 32) (by omega) (by omega) (by omega)⟩, ⟨Rat.divInt_nonneg (by omega) (by omega), divInt_le_one (by omega) (by omega), rz_div (by omega) (by omega) (by omega)⟩, k2⟩
theorem mark_sp {B : Nat} {near : List Rat} (hB : 32 ≤ B) (hB2 : B ≤ 4000) (hn : ∀ q ∈ near, Nb B q) (hl : near.length ≤ 1000) (h : Wk (k + 3) w) : S_law_mark near w ∧ Nb (B + 64) (M_law_mark near w).1 ∧ Wk k (M_law_mark near w).2 := by
  obtain ⟨s1, a0, a1, k1⟩ := draw_spec (k := k + 2) (m := 9) h (by omega) (by omega)
  obtain ⟨s2, m2, k2⟩ := any_part_sp (k := k) (w := (M_law_mark_d1 near w).2) k1
  have P3 : ((decide ((M_law_mark_d1 near w).1 < (2 : Int))) || (decide (near = ([] : (List Rat))))) = false → S_law_pick_LR near ((M_law_mark_d1 near w).2) ∧ (M_law_mark_d3 near w).1 ∈ near ∧ Wk (k + 1) (M_law_mark_d3 near w).2 := fun hc => by
    refine pick4_sp (k := k + 1) k1 ?_ hl
    intro z
    rw [z] at hc
    simp at hc
  have P4 : ((decide ((M_law_mark_d1 near w).1 < (2 : Int))) || (decide (near = ([] : (List Rat))))) = false → S_law_pick_TR [(mkRat 1 60), (mkRat 1 10000), (mkRat 1 1000000000000)] ((M_law_mark_d3 near w).2) ∧ Rz 64 (M_law_mark_d4 near w).1 ∧ Wk k (M_law_mark_d4 near w).2 := fun hc => by
    obtain ⟨_, _, k3⟩ := P3 hc
    obtain ⟨s4, m4, k4⟩ := pick2_sp (k := k) (w := (M_law_mark_d3 near w).2) (xs := [(mkRat 1 60), (mkRat 1 10000), (mkRat 1 1000000000000)]) k3 (by simp) (by simp)
    refine ⟨s4, ?_, k4⟩
    have : ∀ z ∈ [(mkRat 1 60), (mkRat 1 10000), (mkRat 1 1000000000000)], z.num.natAbs < 2 ^ 63 ∧ z.den < 2 ^ 63 := by decide +kernel
    exact Rz.mono (this _ m4) (by omega)
  have P5 : ((decide ((M_law_mark_d1 near w).1 < (2 : Int))) || (decide (near = ([] : (List Rat))))) = false → Rs ((M_law_mark_d3 near w).1) ((M_law_mark_d4 near w).1) := fun hc => rs (hn _ (P3 hc).2.1).2.2 (P4 hc).2.1 (by omega)
  refine ⟨⟨s1, fun _ => s2, fun hc => (P3 hc).1, fun hc _ => (P4 hc).1, fun hc _ _ => P5 hc, fun hc _ _ => P5 hc⟩, ?_⟩
  unfold M_law_mark M_law_mark_r2
  cases hc : ((decide ((M_law_mark_d1 near w).1 < (2 : Int))) || (decide (near = ([] : (List Rat))))) with
  | true => exact ⟨m2.mono (by omega), k2⟩
  | false =>
    obtain ⟨_, n3, k3⟩ := P3 hc
    obtain ⟨_, z4, k4⟩ := P4 hc
    have b3 := hn _ n3
    unfold M_law_mark_r1
    cases hd : decide ((M_law_mark_d1 near w).1 < (6 : Int)) with
    | true => exact ⟨b3.mono (by omega), k3.mono (by omega)⟩
    | false =>
      refine ⟨?_, k4⟩
      show Nb (B + 64) (bif (decide ((0 : Int) ≤ (M_law_mark_found1 near w).num) && decide ((M_law_mark_found1 near w).num ≤ (((M_law_mark_found1 near w).den : Nat) : Int))) then (M_law_mark_found1 near w) else (M_law_mark_d3 near w).1)
      have z9 : Rz (B + 64) (M_law_mark_found1 near w) := by
        obtain ⟨_, m4, _⟩ := pick2_sp (k := k) (w := (M_law_mark_d3 near w).2) (xs := [(mkRat 1 60), (mkRat 1 10000), (mkRat 1 1000000000000)]) k3 (by simp) (by simp)
        have h63 : Rz 63 (M_law_mark_d4 near w).1 := by
          have : ∀ z ∈ [(mkRat 1 60), (mkRat 1 10000), (mkRat 1 1000000000000)], z.num.natAbs < 2 ^ 63 ∧ z.den < 2 ^ 63 := by decide +kernel
          exact this _ m4
        unfold M_law_mark_found1
        cases decide ((M_law_mark_d1 near w).1 = (6 : Int))
        · exact (rz_add b3.2.2 h63).mono (by omega)
        · exact (rz_sub b3.2.2 h63).mono (by omega)
      cases he : (decide ((0 : Int) ≤ (M_law_mark_found1 near w).num) && decide ((M_law_mark_found1 near w).num ≤ (((M_law_mark_found1 near w).den : Nat) : Int))) with
      | true =>
        simp only [Bool.and_eq_true, decide_eq_true_eq] at he
        refine ⟨Rat.num_nonneg.mp he.1, ?_, z9⟩
        rw [cond_true, Rat.le_iff]
        simpa using he.2
      | false => exact b3.mono (by omega)
theorem marks_sp {B : Nat} {near : List Rat} (hB : 32 ≤ B) (hB2 : B ≤ 4000) (hn : ∀ q ∈ near, Nb B q) (hl : near.length ≤ 1000) {n : Nat} (h5 : n ≤ 900) (h : Wk (k + 4 * n) w) : S_law_marks (n : Int) near w ∧ ((M_law_marks (n : Int) near w).1.length = n ∧ ∀ q ∈ (M_law_marks (n : Int) near w).1, Nb (B + 64) q) ∧ Wk k (M_law_marks (n : Int) near w).2 := by
  have key := foldW_sp (step := M_law_marks_step1 (n : Int) near w) (S := S_law_marks_l1 (n : Int) near w) (fun m (s : List Rat) => s.length = m ∧ ∀ q ∈ s, Nb (B + 64) q) 4 (ys := upto (Int.toNat n)) (s := M_law_marks_found1 (n : Int) near w) (w := w) (k := k) (by rw [upto_length, Int.toNat_natCast]; exact h) ⟨rfl, by simp [M_law_marks_found1]⟩ (fun x s w5 k5 m hx hw hi => by
    obtain ⟨rfl, hm⟩ := upto_get hx
    rw [Int.toNat_natCast] at hm
    obtain ⟨hi1, hi2⟩ := hi
    obtain ⟨s1, m1, k1⟩ := mark_sp (k := k5 + 1) hB hB2 hn hl (w := w5) hw
    obtain ⟨s2, a0, a1, k2⟩ := draw_spec (k := k5) (m := 6) (w := (M_law_marks_d1 (n : Int) near w (m : Int) s w5).2) k1 (by omega) (by omega)
    refine ⟨⟨s1, fun _ => s2, fun hc => ?_, szlt (by omega)⟩, ⟨?_, ?_⟩, ?_⟩
    · simp only [Bool.and_eq_true, decide_eq_true_eq] at hc
      omega
    · show (M_law_marks_found2 (n : Int) near w (m : Int) s w5).length = m + 1
      simp [M_law_marks_found2, hi1]
    · show ∀ q ∈ M_law_marks_found2 (n : Int) near w (m : Int) s w5, Nb (B + 64) q
      intro q hq
      unfold M_law_marks_found2 at hq
      rw [List.mem_append, List.mem_singleton] at hq
      rcases hq with hq | rfl
      · exact hi2 q hq
      · cases hc : ((decide ((0 : Int) < (m : Int))) && (decide ((M_law_marks_d2 (n : Int) near w (m : Int) s w5).1 = (0 : Int)))) with
        | true =>
          simp only [Bool.and_eq_true, decide_eq_true_eq] at hc
          exact hi2 _ (ixI_mem ⟨by omega, by omega⟩)
        | false => exact m1
    · show Wk k5 (M_law_marks_u1 (n : Int) near w (m : Int) s w5)
      unfold M_law_marks_u1
      cases decide ((0 : Int) < (m : Int))
      · exact k1.mono (by omega)
      · exact k2)
  obtain ⟨k1, k2, k3⟩ := key
  refine ⟨⟨small_of (by omega) (by omega), k1⟩, ?_, k3⟩
  have : (upto (Int.toNat (n : Int))).length = n := by rw [upto_length, Int.toNat_natCast]
  rw [this] at k2
  exact k2
end
end SP

set_option exponentiation.threshold 20000
/-! Drawn limits; what the checks of the program want. -/
namespace SP
open PySem PySem.Spec L2 DL PF MD MP ML LV
open LV (encR IsR isR Rz)
open PyProof.Rows hiding St
theorem nb_zero {B : Nat} (h : 1 ≤ B) : Nb B 0 := by
  have : (2 : Nat) ^ 1 ≤ 2 ^ B := Nat.pow_le_pow_right (by decide) h
  exact ⟨Rat.le_refl, by decide +kernel, by show (0 : Int).natAbs < 2 ^ B; simp; omega, by show (1 : Nat) < 2 ^ B; omega⟩
/-- limits -/
def Lms (B n : Nat) (cs : List Rat) : Prop := cs.length = n ∧ (∀ q ∈ cs, Nb B q ∧ q < 1) ∧ cs.Pairwise (· ≤ ·)
theorem divInt_mono {a b m : Int} (hm : 0 < m) (h : a ≤ b) : Rat.divInt a m ≤ Rat.divInt b m := by
  rw [Rat.divInt_eq_div, Rat.divInt_eq_div, Rat.div_def, Rat.div_def]
  refine Rat.mul_le_mul_of_nonneg_right (Rat.intCast_le_intCast.mpr h) (Rat.le_of_lt (Rat.inv_pos.mpr ?_))
  exact_mod_cast hm
theorem divInt_anti {a m n : Int} (ha : 0 ≤ a) (hm : 0 < m) (h : m ≤ n) : Rat.divInt a n ≤ Rat.divInt a m := by
  rw [Rat.divInt_eq_div, Rat.divInt_eq_div]
  have h1 : (0 : Rat) < m := by exact_mod_cast hm
  have h2 : (0 : Rat) < n := by exact_mod_cast (show 0 < n by omega)
  rw [← Rat.not_lt, Rat.lt_div_iff h2]
  intro hc
  have h3 : (a : Rat) / m * m = a := Rat.div_mul_cancel (by grind)
  have h4 : (a : Rat) / m * m ≤ (a : Rat) / m * n := Rat.mul_le_mul_of_nonneg_left (by exact_mod_cast h) (by
    rw [Rat.div_def]
    exact Rat.mul_nonneg (by exact_mod_cast ha) (Rat.le_of_lt (Rat.inv_pos.mpr h1)))
  grind
theorem mul_le_one {a b : Rat} (h0 : 0 ≤ a) (h1 : a ≤ 1) (k0 : 0 ≤ b) (k1 : b ≤ 1) : a * b ≤ 1 := by
  have := Rat.mul_le_mul_of_nonneg_left k1 h0
  grind
theorem mul_lt_one {a b : Rat} (h0 : 0 ≤ a) (h1 : a < 1) (k0 : 0 ≤ b) (k1 : b ≤ 1) : a * b < 1 := by
  have := Rat.mul_le_mul_of_nonneg_left k1 h0
  grind
section
variable {k : Nat} {w : Wl}
theorem steps_sp {n : Nat} (h1 : 1 ≤ n) (h5 : n ≤ 100) (h : Wk (k + 6 + n) w) : S_law_steps (n : Int) w ∧ Lms 100 n (M_law_steps (n : Int) w).1 ∧ Wk k (M_law_steps (n : Int) w).2 := by
  obtain ⟨s1, a0, a1, k1⟩ := draw_spec (k := k + 5 + n) (m := 5) (h.mono (by omega)) (by omega) (by omega)
  obtain ⟨s2, m2, k2⟩ := pick_sp (k := k + 4 + n) (w := (M_law_steps_d1 (n : Int) w).2) (xs := [(20 : Int), (10 : Int), (6 : Int), (60 : Int), (1000 : Int)]) (k1.mono (by omega)) (by simp) (by simp)
  have b2 : 6 ≤ (M_law_steps_d2 (n : Int) w).1 ∧ (M_law_steps_d2 (n : Int) w).1 ≤ 1000 := by
    have : ∀ z ∈ [(20 : Int), (10 : Int), (6 : Int), (60 : Int), (1000 : Int)], 6 ≤ z ∧ z ≤ 1000 := by decide
    exact this _ m2
  have ez : (M_law_steps_z1 (n : Int) w).2 = (M_law_steps_d2 (n : Int) w).1 := rfl
  obtain ⟨s3, ⟨l3, t3⟩, k3⟩ := low_level_sp (k := k + 1 + n) (w := (M_law_steps_d2 (n : Int) w).2) (k2.mono (by omega))
  obtain ⟨s4, m4, k4⟩ := pick_sp (k := k + n) (w := (M_law_steps_d2 (n : Int) w).2) (xs := [(M_law_steps_z1 (n : Int) w).2, (M_law_steps_z1 (n : Int) w).2, ((1 : Int) + ((M_law_steps_z1 (n : Int) w).2 / (3 : Int))), ((1 : Int) + ((M_law_steps_z1 (n : Int) w).2 / (3 : Int))), (2 : Int)]) (k2.mono (by omega)) (by simp) (by simp)
  have b4 : 1 ≤ (M_law_steps_d5 (n : Int) w).1 ∧ (M_law_steps_d5 (n : Int) w).1 ≤ (M_law_steps_d2 (n : Int) w).1 := by
    have e : (M_law_steps_d5 (n : Int) w).1 = (M_law_pick_TI [(M_law_steps_z1 (n : Int) w).2, (M_law_steps_z1 (n : Int) w).2, ((1 : Int) + ((M_law_steps_z1 (n : Int) w).2 / (3 : Int))), ((1 : Int) + ((M_law_steps_z1 (n : Int) w).2 / (3 : Int))), (2 : Int)] (M_law_steps_d2 (n : Int) w).2).1 := rfl
    simp only [List.mem_cons, List.not_mem_nil, or_false] at m4
    rw [← e, ez] at m4
    rcases m4 with m | m | m | m | m <;> omega
  obtain ⟨s5, n5, p5, k5⟩ := lcW_sp (p := M_law_steps_p1 (n : Int) w) (f := M_law_steps_f1 (n : Int) w) (S := fun x11 w12 => S_law_steps_c1 (n : Int) w x11 w12) (fun (_ : Int) (z : Int) => 0 ≤ z ∧ z < (M_law_steps_d5 (n : Int) w).1) 1 (upto (Int.toNat n)) (M_law_steps_d5 (n : Int) w).2 k (by rw [upto_length, Int.toNat_natCast, Nat.one_mul]; exact k4) (fun x w6 k6 hx hw => by
    obtain ⟨s6, c0, c1, k7⟩ := draw_spec (k := k6) (m := (M_law_steps_d5 (n : Int) w).1) (w := w6) hw (by omega) (by omega)
    exact ⟨⟨s6⟩, rfl, ⟨c0, c1⟩, k7⟩)
  have el : (upto (Int.toNat n)).length = n := by rw [upto_length, Int.toNat_natCast]
  rw [el] at n5
  have P5 : ∀ z ∈ (lcW (M_law_steps_p1 (n : Int) w) (M_law_steps_f1 (n : Int) w) (upto (Int.toNat n)) (M_law_steps_d5 (n : Int) w).2).1, 0 ≤ z ∧ z < (M_law_steps_d5 (n : Int) w).1 := fun z hz => by
    obtain ⟨i, hi, e⟩ := List.mem_iff_getElem.mp hz
    exact p5 i (upto (Int.toNat n))[i] z (List.getElem?_eq_getElem (by omega)) (by rw [← e]; exact List.getElem?_eq_getElem hi)
  have hsorted : (M_law_steps_tops1 (n : Int) w).Pairwise (· ≤ ·) := by
    unfold M_law_steps_tops1 sortI
    refine (List.pairwise_mergeSort (le := fun a b => decide (a ≤ b)) (fun a b c h1 h2 => ?_) (fun a b => ?_) _).imp fun h => of_decide_eq_true h
    · simp at h1 h2 ⊢; omega
    · simp; omega
  have hperm : (M_law_steps_tops1 (n : Int) w).Perm (lcW (M_law_steps_p1 (n : Int) w) (M_law_steps_f1 (n : Int) w) (upto (Int.toNat n)) (M_law_steps_d5 (n : Int) w).2).1 := List.mergeSort_perm _ _
  have hlen : (M_law_steps_tops1 (n : Int) w).length = n := by rw [hperm.length_eq, n5]
  have hu : ∀ x ∈ upto (Int.toNat n), 0 ≤ x ∧ x < n := fun x hx => by
    have := mem_upto.mp hx
    rw [Int.toNat_natCast] at this
    exact this
  have hn : (0 : Int) < n := by omega
  have R6 : ∀ x ∈ upto (Int.toNat n), Rz 32 (Rat.divInt (x + (1 : Int)) n) := fun x hx => by
    have := hu x hx
    exact rz_div hn (by omega) (by omega)
  have R9 : ∀ x ∈ upto (Int.toNat n), Rz 32 (Rat.divInt (1 : Int) (n - x)) := fun x hx => by
    have := hu x hx
    exact rz_div (by omega) (by omega) (by omega)
  refine ⟨⟨s1, s2, fun _ => s3, fun _ => small_of (by omega) (by omega), fun _ => szl (by omega), fun _ x hx => fb (B := 32) hn (by omega) (by omega), fun _ x hx => rs l3.2.2 (R6 x hx) (by omega),
    fun _ _ => s3, fun _ _ => small_of (by omega) (by omega), fun _ _ => szl (by omega), fun _ _ x hx => by have := hu x hx; exact fb (B := 32) (by omega) (by omega) (by omega), fun _ _ x hx => rs l3.2.2 (R9 x hx) (by omega),
    fun _ _ => ?_, fun _ _ => s4, fun _ _ => small_of (by omega) (by omega), fun _ _ => szl (by omega), fun _ _ => s5, fun _ _ => by show (lcW _ _ _ _).1.length ≤ 1000; omega, fun _ _ => szl (by omega), fun _ _ x hx => fb (B := 32) (by rw [ez]; omega) (by rw [ez]; omega) (by omega)⟩, ?_⟩
  · exact divW (B := 32) (by omega) (by decide) (by omega)
  unfold M_law_steps M_law_steps_r2
  cases hc : decide ((M_law_steps_z1 (n : Int) w).1 = (0 : Int)) with
  | true =>
    refine ⟨⟨by rw [cond_true]; simp [upto_length], ?_, ?_⟩, k3.mono (by omega)⟩
    · intro q hq
      obtain ⟨x, hx, rfl⟩ := List.mem_map.mp hq
      have := hu x hx
      have c0 : 0 ≤ Rat.divInt (x + 1) n := Rat.divInt_nonneg (by omega) (by omega)
      have c1 : Rat.divInt (x + 1) n ≤ 1 := divInt_le_one hn (by omega)
      exact ⟨⟨Rat.mul_nonneg (Rat.le_of_lt l3.1) c0, mul_le_one (Rat.le_of_lt l3.1) l3.2.1 c0 c1, (rz_mul l3.2.2 (R6 x hx)).mono (by omega)⟩, mul_lt_one (Rat.le_of_lt l3.1) t3 c0 c1⟩
    · rw [cond_true, List.pairwise_map]
      exact (upto_lt _).imp fun h => Rat.mul_le_mul_of_nonneg_left (divInt_mono hn (by omega)) (Rat.le_of_lt l3.1)
  | false =>
    unfold M_law_steps_r1
    cases hd : decide ((M_law_steps_z1 (n : Int) w).1 = (1 : Int)) with
    | true =>
      refine ⟨⟨by rw [cond_false, cond_true]; simp [upto_length], ?_, ?_⟩, k3.mono (by omega)⟩
      · intro q hq
        obtain ⟨x, hx, rfl⟩ := List.mem_map.mp hq
        have := hu x hx
        have c0 : 0 ≤ Rat.divInt 1 (n - x) := Rat.divInt_nonneg (by omega) (by omega)
        have c1 : Rat.divInt 1 (n - x) ≤ 1 := divInt_le_one (by omega) (by omega)
        exact ⟨⟨Rat.mul_nonneg (Rat.le_of_lt l3.1) c0, mul_le_one (Rat.le_of_lt l3.1) l3.2.1 c0 c1, (rz_mul l3.2.2 (R9 x hx)).mono (by omega)⟩, mul_lt_one (Rat.le_of_lt l3.1) t3 c0 c1⟩
      · rw [cond_false, cond_true, List.pairwise_map]
        refine (upto_lt _).imp_of_mem ?_
        intro a b ha hb hab
        have := hu a ha
        have := hu b hb
        exact Rat.mul_le_mul_of_nonneg_left (divInt_anti (by omega) (by omega) (by omega)) (Rat.le_of_lt l3.1)
    | false =>
      refine ⟨⟨by rw [cond_false, cond_false]; simp [hlen], ?_, ?_⟩, k5⟩
      · intro q hq
        obtain ⟨x, hx, rfl⟩ := List.mem_map.mp hq
        have := P5 x (hperm.mem_iff.mp hx)
        rw [ez]
        exact ⟨⟨Rat.divInt_nonneg (by omega) (by omega), divInt_le_one (by omega) (by omega), rz_div (by omega) (by omega) (by omega)⟩, divInt_lt_one (by omega) (by omega)⟩
      · rw [cond_false, cond_false, List.pairwise_map]
        exact hsorted.imp fun h => divInt_mono (by rw [ez]; omega) h
/-! ### checks of the program -/
abbrev kr (ps : List Rat) : List KR := ps.map KR.r
theorem fwI_all {α : Type} {p : α → Bool} {most : Int} {xs : List α} (h : ∀ x ∈ xs, p x = true) (hl : (xs.length : Int) ≤ most) : fwI p most xs = xs.length := by
  unfold fwI
  rw [fwAt_all xs 0 h (by omega), Nat.zero_add]
theorem is_fraction_true (k : KR) : M_is_fraction k = true := by
  unfold M_is_fraction M_is_fraction_r1
  have h1 : (0 : Int) < (k.q.den : Nat) := den_pos k.q
  have h2 : Nat.gcd (Int.natAbs k.q.num) (Int.natAbs ((k.q.den : Nat) : Int)) = 1 := by
    rw [Int.natAbs_natCast]
    exact k.q.reduced
  simp only [M_is_row_K_I, M_is_whole, h1, h2]
  decide
theorem is_number_ev (k : KR) : M_is_number k = decide (0 ≤ k.q ∧ k.q ≤ 1) := by
  unfold M_is_number
  rw [is_fraction_true, Bool.true_and, Bool.eq_iff_iff]
  simp only [Bool.and_eq_true, decide_eq_true_eq]
  rw [Rat.num_nonneg, Rat.le_iff k.q 1]
  simp
theorem check_numbers_sp {n : Nat} {ps : List KR} (hl : ps.length = n) (h : ∀ p ∈ ps, 0 ≤ p.q ∧ p.q ≤ 1) : S_check_numbers (n : Int) ps := by
  refine ⟨?_, ?_⟩
  · simp [M_is_row_TK_I, hl]
  · unfold M_check_numbers_at1
    rw [fwI_all (fun x hx => by rw [is_number_ev]; exact decide_eq_true (h x hx)) (by omega), hl]
    simp
theorem tells_sp {ps : List KR} (h1 : 1 ≤ ps.length) (h5 : ps.length ≤ 5) : M_tells_count ps = true := by
  simp [M_tells_count, M_is_count, M_is_whole]
  omega
theorem check_leading_numbers_sp {ps : List KR} (h1 : 1 ≤ ps.length) (h5 : ps.length ≤ 5) (h : ∀ p ∈ ps, 0 ≤ p.q ∧ p.q ≤ 1) : S_check_leading_numbers ps :=
  ⟨by rw [tells_sp h1 h5]; rfl, check_numbers_sp rfl h⟩
theorem enumI_get {α : Type} {xs : List α} {n : Nat} {x : Int × α} (h : (enumI xs)[n]? = some x) : x.1 = n ∧ xs[n]? = some x.2 := by
  unfold enumI at h
  rw [List.getElem?_map, List.getElem?_zipIdx] at h
  cases hx : xs[n]? with
  | none => rw [hx] at h; cases h
  | some y =>
    rw [hx] at h
    simp only [Option.map_some, Option.some.injEq, Nat.zero_add] at h
    subst h
    exact ⟨rfl, rfl⟩
theorem enumI_length {α : Type} (xs : List α) : (enumI xs).length = xs.length := by simp [enumI]
theorem getI {α : Type} [Inhabited α] {xs : List α} {n : Nat} {x : α} (h : xs[n]? = some x) : ixI xs n = x := by
  unfold ixI
  rw [Int.toNat_natCast, List.getD_eq_getElem?_getD, h]
  rfl
theorem lt_of_get {α : Type} {xs : List α} {n : Nat} {x : α} (h : xs[n]? = some x) : n < xs.length := by
  rcases Nat.lt_or_ge n xs.length with z | z
  · exact z
  · rw [List.getElem?_eq_none z] at h; cases h
/-- limits of the program -/
def Lmk (B n : Nat) (cs : List KR) : Prop := cs.length = n ∧ (∀ q ∈ cs, Nb B q.q ∧ q.q < 1) ∧ cs.Pairwise fun a b => a.q ≤ b.q
theorem Lms.kr {B n : Nat} {cs : List Rat} (h : Lms B n cs) : Lmk B n (kr cs) := by
  refine ⟨by rw [List.length_map]; exact h.1, fun q hq => ?_, ?_⟩
  · obtain ⟨x, hx, rfl⟩ := List.mem_map.mp hq
    exact h.2.1 x hx
  · rw [List.pairwise_map]
    exact h.2.2
theorem check_limits_sp {B n : Nat} {cs : List KR} (hB : B ≤ 4000) (h : Lmk B n cs) : S_check_limits (n : Int) cs := by
  obtain ⟨hl, hq, hp⟩ := h
  refine ⟨by simp [M_is_row_TK_I, hl], ?_⟩
  refine (foldL_sp (step := M_check_limits_step1 (n : Int) cs) (S := S_check_limits_l1 (n : Int) cs) (fun _ _ => True) (ys := enumI cs) (s := ()) trivial fun x s m hx _ => ⟨?_, trivial⟩).1
  obtain ⟨e1, e2⟩ := enumI_get hx
  have hx2 : x.2 ∈ cs := List.mem_of_getElem? e2
  obtain ⟨b2, t2⟩ := hq _ hx2
  have hm := lt_of_get e2
  have key : 0 < m → (0 ≤ x.1 - 1 ∧ x.1 - 1 < cs.length) ∧ ixI cs (x.1 - 1) ∈ cs ∧ (ixI cs (x.1 - 1)).q ≤ x.2.q := fun h0 => by
    have hr : 0 ≤ x.1 - 1 ∧ x.1 - 1 < cs.length := by omega
    refine ⟨hr, ixI_mem hr, ?_⟩
    have hg := ixI_get (xs := cs) hr.1 hr.2
    have ht : (x.1 - 1).toNat = m - 1 := by omega
    rw [ht] at hg
    have := List.pairwise_iff_getElem.mp hp (m - 1) m (by omega) hm (by omega)
    rw [List.getElem?_eq_getElem (by omega), Option.some.injEq] at hg e2
    rw [hg, e2] at this
    exact this
  refine ⟨fun _ _ hc => (key (by simp at hc; omega)).1, fun _ _ hc => ?_, ?_⟩
  · obtain ⟨_, m1, _⟩ := key (by simp at hc; omega)
    exact rs (hq _ m1).1.2.2 b2.2.2 (by omega)
  · rw [is_number_ev, decide_eq_true ⟨b2.1, b2.2.1⟩]
    have hne : ¬ x.2.q = kOne.q := by
      intro z
      have z' : x.2.q = 1 := z
      rw [z'] at t2
      exact Rat.lt_irrefl t2
    rw [decide_eq_false hne]
    simp only [Bool.not_true, Bool.false_or]
    by_cases h0 : 0 < m
    · rw [decide_eq_true (key h0).2.2]
      simp
    · rw [decide_eq_false (by omega)]
      rfl
end
end SP

set_option exponentiation.threshold 20000
/-! Steps up and down. -/
namespace SP
open PySem PySem.Spec L2 DL PF MD MP ML LV
open LV (encR IsR isR Rz)
open PyProof.Rows hiding St
/-! ### places and ascending lists -/
theorem asc_ext : ∀ {a b : IS}, a.Pairwise (· < ·) → b.Pairwise (· < ·) → (∀ i, i ∈ a ↔ i ∈ b) → a = b
  | [], [], _, _, _ => rfl
  | [], y :: ys, _, _, h => absurd ((h y).mpr List.mem_cons_self) (by simp)
  | x :: xs, [], _, _, h => absurd ((h x).mp List.mem_cons_self) (by simp)
  | x :: xs, y :: ys, ha, hb, h => by
    obtain ⟨a1, a2⟩ := List.pairwise_cons.mp ha
    obtain ⟨b1, b2⟩ := List.pairwise_cons.mp hb
    have e : x = y := by
      rcases List.mem_cons.mp ((h x).mp List.mem_cons_self) with e | e
      · exact e
      · rcases List.mem_cons.mp ((h y).mpr List.mem_cons_self) with e2 | e2
        · exact e2.symm
        · have := b1 x e
          have := a1 y e2
          omega
    subst e
    rw [asc_ext a2 b2 fun i => ?_]
    constructor
    · intro hi
      rcases List.mem_cons.mp ((h i).mp (List.mem_cons_of_mem _ hi)) with e | e
      · have := a1 i hi; omega
      · exact e
    · intro hi
      rcases List.mem_cons.mp ((h i).mpr (List.mem_cons_of_mem _ hi)) with e | e
      · have := b1 i hi; omega
      · exact e
theorem filter_asc {n : Nat} (p : Int → Bool) : ((upto n).filter p).Pairwise (· < ·) := (upto_lt n).filter _
theorem nodup_of_lt {a : IS} (h : a.Pairwise (· < ·)) : a.Nodup := h.imp fun h => by omega
theorem sortI_perm (xs : IS) : (sortI xs).Perm xs := List.mergeSort_perm _ _
theorem sortI_le (xs : IS) : (sortI xs).Pairwise (· ≤ ·) := by
  unfold sortI
  refine (List.pairwise_mergeSort (le := fun a b => decide (a ≤ b)) (fun a b c h1 h2 => ?_) (fun a b => ?_) _).imp fun h => of_decide_eq_true h
  · simp at h1 h2 ⊢; omega
  · simp; omega
theorem sortI_lt {xs : IS} (h : xs.Nodup) : (sortI xs).Pairwise (· < ·) := by
  have h2 : (sortI xs).Nodup := (sortI_perm xs).nodup_iff.mpr h
  exact (sortI_le xs).imp₂ (fun a b h3 h4 => by omega) h2
theorem sortI_eq {xs ys : IS} (h : xs.Nodup) (hy : ys.Pairwise (· < ·)) (hm : ∀ i, i ∈ xs ↔ i ∈ ys) : sortI xs = ys :=
  asc_ext (sortI_lt h) hy fun i => ((sortI_perm xs).mem_iff).trans (hm i)
theorem ixI_mapE {α β : Type} [Inhabited α] [Inhabited β] {f : α → β} (hf : f default = default) (xs : List α) (i : Int) : ixI (xs.map f) i = f (ixI xs i) := by
  unfold ixI
  rw [List.getD_eq_getElem?_getD, List.getD_eq_getElem?_getD, List.getElem?_map]
  cases xs[i.toNat]?
  · exact hf.symm
  · rfl
theorem ixI_kr (ps : List Rat) (i : Int) : ixI (kr ps) i = KR.r (ixI ps i) := ixI_mapE (f := KR.r) rfl ps i
theorem enumI_upto {α : Type} [Inhabited α] (xs : List α) : enumI xs = (upto xs.length).map fun i => (i, ixI xs i) := by
  refine List.ext_getElem? fun n => ?_
  unfold enumI upto
  rw [List.getElem?_map, List.getElem?_map, List.getElem?_map, List.getElem?_zipIdx]
  cases hx : xs[n]? with
  | none =>
    have : xs.length ≤ n := List.getElem?_eq_none_iff.mp hx
    rw [List.getElem?_eq_none (by simpa using this)]
    rfl
  | some x =>
    have hn := lt_of_get hx
    rw [List.getElem?_eq_getElem (by simpa using hn), List.getElem_range]
    simp only [Option.map_some, Nat.zero_add]
    rw [getI hx]
theorem slI_take {α : Type} (xs : List α) {i : Int} (h : 0 ≤ i) : slI xs none (some i) = xs.take i.toNat := by
  unfold slI
  have : HT.sIx xs.length xs.length (some i) = min i.toNat xs.length := by
    have := HT.sIx_nat xs.length xs.length i.toNat
    rwa [Int.toNat_of_nonneg h] at this
  rw [this, HT.sIx_none]
  simp only [List.drop_zero, Nat.sub_zero]
  by_cases hl : i.toNat ≤ xs.length
  · rw [Nat.min_eq_left hl]
  · rw [Nat.min_eq_right (by omega), List.take_of_length_le (Nat.le_refl _), List.take_of_length_le (by omega)]
theorem slI_drop {α : Type} (xs : List α) {i : Int} (h : 0 ≤ i) : slI xs (some i) none = xs.drop i.toNat := by
  unfold slI
  have : HT.sIx xs.length 0 (some i) = min i.toNat xs.length := by
    have := HT.sIx_nat xs.length 0 i.toNat
    rwa [Int.toNat_of_nonneg h] at this
  rw [this, HT.sIx_none]
  by_cases hl : i.toNat ≤ xs.length
  · rw [Nat.min_eq_left hl, List.take_of_length_le (by simp)]
  · rw [Nat.min_eq_right (by omega), List.drop_of_length_le (Nat.le_refl _), List.drop_of_length_le (by omega)]; simp
theorem filter_sub {α : Type} (xs : List α) {p q : α → Bool} (h : ∀ x, p x = true → q x = true) : (xs.filter p).Sublist (xs.filter q) := by
  have : xs.filter p = (xs.filter q).filter p := by
    rw [List.filter_filter]
    refine List.filter_congr fun x _ => ?_
    cases hp : p x
    · rfl
    · rw [h x hp]; rfl
  rw [this]
  exact List.filter_sublist
/-! ### up to a limit -/
def upI (ps : List Rat) (c : Rat) : IS := (upto ps.length).filter fun i => decide (ixI ps i ≤ c)
theorem mem_upI {ps : List Rat} {c : Rat} {i : Int} : i ∈ upI ps c ↔ (0 ≤ i ∧ i < ps.length) ∧ ixI ps i ≤ c := by
  unfold upI
  rw [List.mem_filter, mem_upto, decide_eq_true_iff]
theorem upI_mono {ps : List Rat} {c d : Rat} (h : c ≤ d) : (upI ps c).length ≤ (upI ps d).length := by
  refine List.Sublist.length_le (filter_sub _ fun i hi => ?_)
  rw [decide_eq_true_iff] at hi ⊢
  exact Rat.le_trans hi h
theorem up_to_eq (ps : List Rat) (l : KR) : M_up_to_TK_K (kr ps) l = upI ps l.q := by
  unfold M_up_to_TK_K upI
  rw [enumI_upto, List.filter_map, List.map_map, List.length_map]
  have e1 : ((fun (x1 : Int × KR) => decide (x1.2.q ≤ l.q)) ∘ fun i => (i, ixI (kr ps) i)) = fun i => decide (ixI ps i ≤ l.q) := funext fun i => by
    show decide ((ixI (kr ps) i).q ≤ l.q) = _
    rw [ixI_kr]
  rw [e1]
  exact List.map_id' _
theorem up_to_sp {B C : Nat} {ps : List Rat} {l : KR} (hl : ps.length ≤ 1000) (hp : ∀ p ∈ ps, Rz B p) (hc : Rz C l.q) (h : B + C < 9000) : S_up_to_TK_K (kr ps) l := by
  refine ⟨by rw [enumI_length, List.length_map]; exact szl hl, fun x hx => ?_⟩
  obtain ⟨n, hn, e⟩ := List.mem_iff_getElem.mp hx
  obtain ⟨_, e2⟩ := enumI_get (e ▸ List.getElem?_eq_getElem hn)
  obtain ⟨p, hp2, e3⟩ := List.mem_map.mp (List.mem_of_getElem? e2)
  rw [← e3]
  exact rs (hp p hp2) hc h
/-! ### what the steps call -/
def vUp (ps cs : List Rat) (k : Nat) : Prop := k < (upI ps (ixI cs k)).length
def UpP (ps cs : List Rat) (i : Int) : Prop := ∃ k, k < cs.length ∧ vUp ps cs k ∧ ixI ps i ≤ ixI cs k
def DnP (ps cs : List Rat) (i : Int) : Prop := ∃ k, k < cs.length ∧ (∀ j, j ≤ k → vUp ps cs j) ∧ ixI ps i ≤ ixI cs k
open Classical in
noncomputable def upS (ps cs : List Rat) : IS := (upto ps.length).filter fun i => decide (UpP ps cs i)
open Classical in
noncomputable def dnS (ps cs : List Rat) : IS := (upto ps.length).filter fun i => decide (DnP ps cs i)
open Classical in
theorem mem_upS {ps cs : List Rat} {i : Int} : i ∈ upS ps cs ↔ (0 ≤ i ∧ i < ps.length) ∧ UpP ps cs i := by
  unfold upS
  rw [List.mem_filter, mem_upto, decide_eq_true_iff]
open Classical in
theorem mem_dnS {ps cs : List Rat} {i : Int} : i ∈ dnS ps cs ↔ (0 ≤ i ∧ i < ps.length) ∧ DnP ps cs i := by
  unfold dnS
  rw [List.mem_filter, mem_upto, decide_eq_true_iff]
theorem Lms.mono {B n : Nat} {cs : List Rat} (h : Lms B n cs) {i j : Nat} (hij : i ≤ j) (hj : j < n) : ixI cs i ≤ ixI cs j := by
  obtain ⟨hl, _, hp⟩ := h
  rcases Nat.lt_or_ge i j with h | h
  · have := List.pairwise_iff_getElem.mp hp i j (by omega) (by omega) h
    rwa [getI (List.getElem?_eq_getElem (show i < cs.length by omega)), getI (List.getElem?_eq_getElem (show j < cs.length by omega))]
  · rw [show i = j by omega]
    exact Rat.le_refl
open Classical in
theorem called_up_sp {B C n : Nat} {ps cs : List Rat} (hl : ps.length = n) (hn : n ≤ 1000) (hp : ∀ p ∈ ps, Rz B p) (hc : Lms C n cs) (h : B + C < 9000) : S_called_up (kr ps) (kr cs) ∧ M_called_up (kr ps) (kr cs) = upS ps cs := by
  have key := foldL_sp (step := M_called_up_step1 (kr ps) (kr cs)) (S := S_called_up_l1 (kr ps) (kr cs)) (fun m (s : List Int) => m ≤ n → s = (upto ps.length).filter fun i => decide (∃ k, k < m ∧ vUp ps cs k ∧ ixI ps i ≤ ixI cs k)) (ys := enumI (kr cs)) (s := M_called_up_found1 (kr ps) (kr cs))
    (fun _ => by
      unfold M_called_up_found1
      rw [eq_comm, List.filter_eq_nil_iff]
      simp) (fun x s m hx hi => by
    obtain ⟨e1, e2⟩ := enumI_get hx
    have hm : m < cs.length := by have := lt_of_get e2; rwa [List.length_map] at this
    have ex : x.2 = KR.r (ixI cs m) := by rw [← ixI_kr, getI e2]
    have hmem : x.2 ∈ kr cs := List.mem_of_getElem? e2
    obtain ⟨c, hc2, ec⟩ := List.mem_map.mp hmem
    refine ⟨⟨up_to_sp (by omega) hp (C := C) (by rw [← ec]; exact (hc.2.1 c hc2).1.2.2) h⟩, fun hmn => ?_⟩
    have hi := hi (by omega)
    show M_called_up_found2 (kr ps) (kr cs) x s = _
    unfold M_called_up_found2
    rw [up_to_eq, ex, e1]
    show (bif decide ((m : Int) < ((upI ps (ixI cs m)).length : Int)) then upI ps (ixI cs m) else s) = _
    by_cases hv : vUp ps cs m
    · have hv2 : (m : Int) < ((upI ps (ixI cs m)).length : Int) := by unfold vUp at hv; omega
      rw [decide_eq_true hv2, cond_true]
      unfold upI
      refine List.filter_congr fun i _ => ?_
      rw [Bool.eq_iff_iff, decide_eq_true_iff, decide_eq_true_iff]
      constructor
      · intro h1
        exact ⟨m, by omega, hv, h1⟩
      · rintro ⟨k, hk, _, h1⟩
        exact Rat.le_trans h1 (hc.mono (by omega) (by omega))
    · have hv2 : ¬ (m : Int) < ((upI ps (ixI cs m)).length : Int) := by unfold vUp at hv; omega
      rw [decide_eq_false hv2, cond_false, hi]
      refine List.filter_congr fun i _ => ?_
      rw [Bool.eq_iff_iff, decide_eq_true_iff, decide_eq_true_iff]
      constructor
      · rintro ⟨k, hk, h1⟩
        exact ⟨k, by omega, h1⟩
      · rintro ⟨k, hk, h0, h1⟩
        rcases Nat.lt_or_ge k m with z | z
        · exact ⟨k, z, h0, h1⟩
        · rw [show k = m by omega] at h0
          exact absurd h0 hv)
  obtain ⟨k1, k2⟩ := key
  refine ⟨⟨k1⟩, ?_⟩
  have el : (enumI (kr cs)).length = n := by rw [enumI_length, List.length_map, hc.1]
  rw [el] at k2
  have := k2 (Nat.le_refl _)
  show foldS _ _ _ = _
  rw [this]
  unfold upS
  refine List.filter_congr fun i _ => ?_
  rw [Bool.eq_iff_iff, decide_eq_true_iff, decide_eq_true_iff]
  unfold UpP
  rw [hc.1]
theorem kr_nb {B : Nat} {ps : List Rat} (hp : ∀ p ∈ ps, Nb B p) : ∀ p ∈ kr ps, 0 ≤ p.q ∧ p.q ≤ 1 := fun p h => by
  obtain ⟨x, hx, rfl⟩ := List.mem_map.mp h
  exact ⟨(hp x hx).1, (hp x hx).2.1⟩
theorem foldE_gen {α σ ρ : Type} {step : α → σ → Sum σ ρ} {S : α → σ → Prop} (I : Nat → σ → Prop) (J : ρ → Prop) (ys : List α) (h : ∀ x s n, ys[n]? = some x → I n s → S x s ∧ match step x s with | .inl t => I (n + 1) t | .inr r => J r) :
    ∀ (xs : List α) (s : σ) (n : Nat), ys.drop n = xs → I n s → SafeE step S xs s ∧ match foldE step xs s with | .inl t => I (n + xs.length) t | .inr r => J r
  | [], s, n, _, hi => ⟨trivial, hi⟩
  | x :: xs, s, n, hd, hi => by
    obtain ⟨hx, hd2⟩ := drop_cons hd
    obtain ⟨h1, h2⟩ := h x s n hx hi
    unfold SafeE foldE
    cases hst : step x s with
    | inl t =>
      rw [hst] at h2
      obtain ⟨h4, h5⟩ := foldE_gen I J ys h xs t (n + 1) hd2 h2
      refine ⟨⟨h1, h4⟩, ?_⟩
      rw [List.length_cons, show n + (xs.length + 1) = n + 1 + xs.length by omega]
      exact h5
    | inr r =>
      rw [hst] at h2
      exact ⟨⟨h1, trivial⟩, h2⟩
theorem foldE_sp {α σ ρ : Type} {step : α → σ → Sum σ ρ} {S : α → σ → Prop} (I : Nat → σ → Prop) (J : ρ → Prop) {ys : List α} {s : σ} (h0 : I 0 s) (h : ∀ x s n, ys[n]? = some x → I n s → S x s ∧ match step x s with | .inl t => I (n + 1) t | .inr r => J r) :
    SafeE step S ys s ∧ match foldE step ys s with | .inl t => I ys.length t | .inr r => J r := by
  have := foldE_gen I J ys h ys s 0 (by simp) h0
  rwa [Nat.zero_add] at this
end SP

set_option exponentiation.threshold 20000
/-! The laws' own sorting: what it calls. -/
namespace SP
open PySem PySem.Spec L2 DL PF MD MP ML LV
open LV (encR IsR isR Rz)
open PyProof.Rows hiding St
/-! ### a list in order, cut at a limit -/
section
variable {α : Type} {f : α → Rat} {c : Rat}
theorem cut_sorted : ∀ {s : List α}, s.Pairwise (fun a b => f a ≤ f b) → s.filter (fun x => decide (f x ≤ c)) = s.take (s.filter fun x => decide (f x ≤ c)).length ∧ ∀ x ∈ s.drop (s.filter fun x => decide (f x ≤ c)).length, c < f x
  | [], _ => ⟨rfl, by simp⟩
  | x :: xs, h => by
    obtain ⟨h1, h2⟩ := List.pairwise_cons.mp h
    obtain ⟨i1, i2⟩ := cut_sorted h2
    by_cases hx : f x ≤ c
    · rw [List.filter_cons_of_pos (by simpa using hx), List.length_cons]
      refine ⟨?_, ?_⟩
      · rw [List.take_succ_cons, ← i1]
      · rw [List.drop_succ_cons]
        exact i2
    · have hn : xs.filter (fun x => decide (f x ≤ c)) = [] := by
        rw [List.filter_eq_nil_iff]
        intro y hy hc
        rw [decide_eq_true_iff] at hc
        exact hx (Rat.le_trans (h1 y hy) hc)
      rw [List.filter_cons_of_neg (by simpa using hx), hn]
      refine ⟨rfl, ?_⟩
      intro y hy
      simp only [List.length_nil, List.drop_zero, List.mem_cons] at hy
      rcases hy with rfl | hy
      · exact Rat.not_le.mp hx
      · exact Rat.not_le.mp fun z => hx (Rat.le_trans (h1 y hy) z)
/-- the k-th is up to the limit exactly if more than k are -/
theorem kth_sorted {s : List α} (h : s.Pairwise (fun a b => f a ≤ f b)) {k : Nat} {x : α} (hx : s[k]? = some x) : f x ≤ c ↔ k < (s.filter fun x => decide (f x ≤ c)).length := by
  obtain ⟨h1, h2⟩ := cut_sorted (c := c) h
  constructor
  · intro hc
    rcases Nat.lt_or_ge k (s.filter fun x => decide (f x ≤ c)).length with z | z
    · exact z
    · have : x ∈ s.drop (s.filter fun x => decide (f x ≤ c)).length := by
        refine List.mem_of_getElem? (i := k - (s.filter fun x => decide (f x ≤ c)).length) ?_
        rw [List.getElem?_drop, show (s.filter fun x => decide (f x ≤ c)).length + (k - (s.filter fun x => decide (f x ≤ c)).length) = k by omega]
        exact hx
      exact absurd hc (Rat.not_le.mpr (h2 x this))
  · intro hk
    have : x ∈ s.filter fun x => decide (f x ≤ c) := by
      rw [h1]
      refine List.mem_of_getElem? (i := k) ?_
      rw [List.getElem?_take_of_lt hk]
      exact hx
    exact of_decide_eq_true (List.mem_filter.mp this).2
end
/-! ### the order -/
theorem order_sp {B n : Nat} {ps : List Rat} (hl : ps.length = n) (hn : n ≤ 100) (hp : ∀ p ∈ ps, Rz B p) (hB : B + B < 9000) :
    S_law_order_TR ps ∧ (M_law_order_TR ps).Perm (upto n) ∧ (M_law_order_TR ps).Pairwise fun a b => ixI ps a ≤ ixI ps b := by
  have hmem : ∀ i : Int, 0 ≤ i ∧ i < n → ixI ps i ∈ ps := fun i hi => ixI_mem (by omega)
  have key := foldL_sp (step := M_law_order_TR_step1 ps) (S := S_law_order_TR_l1 ps) (fun m (s : List Int) => m ≤ n → s.Perm (upto m) ∧ s.Pairwise fun a b => ixI ps a ≤ ixI ps b) (ys := upto (Int.toNat (ps.length : Int))) (s := M_law_order_TR_found1 ps)
    (fun _ => ⟨by simp [M_law_order_TR_found1, upto], by simp [M_law_order_TR_found1]⟩) (fun x s m hx hi => by
    obtain ⟨rfl, hm⟩ := upto_get hx
    rw [Int.toNat_natCast, hl] at hm
    obtain ⟨i1, i2⟩ := hi (by omega)
    have hin : ∀ y ∈ s, 0 ≤ y ∧ y < n := fun y hy => by
      have := mem_upto.mp (i1.mem_iff.mp hy)
      omega
    have hlen : s.length = m := by rw [i1.length_eq, upto_length]
    have hat : M_law_order_TR_at1 ps (m : Int) s = ((s.filter fun y => decide (ixI ps y ≤ ixI ps (m : Int))).length : Int) := by
      unfold M_law_order_TR_at1
      congr 2
      refine List.filter_congr fun y _ => ?_
      by_cases h : ixI ps (m : Int) < ixI ps y
      · rw [decide_eq_true h, decide_eq_false (Rat.not_le.mpr h)]; rfl
      · rw [decide_eq_false h, decide_eq_true (Rat.not_lt.mp h)]; rfl
    have hfl : (s.filter fun y => decide (ixI ps y ≤ ixI ps (m : Int))).length ≤ s.length := List.length_filter_le _ _
    have e8 : M_law_order_TR_step1 ps (m : Int) s = s.take (s.filter fun y => decide (ixI ps y ≤ ixI ps (m : Int))).length ++ [(m : Int)] ++ s.drop (s.filter fun y => decide (ixI ps y ≤ ixI ps (m : Int))).length := by
      show M_law_order_TR_found2 ps (m : Int) s = _
      unfold M_law_order_TR_found2
      rw [hat, slI_take _ (by omega), slI_drop _ (by omega), Int.toNat_natCast]
    refine ⟨⟨szl (by omega), fun y hy => by omega, fun y hy => by have := hin y hy; omega, fun y hy => rs (hp _ (hmem _ (by omega))) (hp _ (hmem _ (hin y hy))) hB, ?_, ?_⟩, fun hmn => ?_⟩
    · rw [hat, slI_take _ (by omega), Int.toNat_natCast, List.length_take]
      exact szl (by simp; omega)
    · rw [hat, slI_take _ (by omega), slI_drop _ (by omega), Int.toNat_natCast]
      refine szl ?_
      simp only [List.length_append, List.length_take, List.length_drop, List.length_cons, List.length_nil]
      omega
    · rw [e8]
      obtain ⟨c1, c2⟩ := cut_sorted (f := fun y => ixI ps y) (c := ixI ps (m : Int)) i2
      refine ⟨?_, ?_⟩
      · have h1 : (s.take (s.filter fun y => decide (ixI ps y ≤ ixI ps (m : Int))).length ++ [(m : Int)] ++ s.drop (s.filter fun y => decide (ixI ps y ≤ ixI ps (m : Int))).length).Perm (s ++ [(m : Int)]) := by
          rw [List.append_assoc]
          have h2 := (List.perm_append_comm (l₁ := [(m : Int)]) (l₂ := s.drop (s.filter fun y => decide (ixI ps y ≤ ixI ps (m : Int))).length)).append_left (s.take (s.filter fun y => decide (ixI ps y ≤ ixI ps (m : Int))).length)
          refine h2.trans ?_
          rw [← List.append_assoc, List.take_append_drop]
        refine h1.trans ?_
        have h3 : upto (m + 1) = upto m ++ [(m : Int)] := by
          unfold upto
          rw [List.range_succ, List.map_append]
          rfl
        rw [h3]
        exact i1.append_right _
      · rw [List.append_assoc, List.pairwise_append]
        refine ⟨i2.sublist (List.take_sublist _ _), ?_, ?_⟩
        · rw [List.singleton_append, List.pairwise_cons]
          exact ⟨fun y hy => Rat.le_of_lt (c2 y hy), i2.sublist (List.drop_sublist _ _)⟩
        · intro a ha b hb
          rw [← c1] at ha
          have ha2 := of_decide_eq_true (List.mem_filter.mp ha).2
          rw [List.singleton_append, List.mem_cons] at hb
          rcases hb with rfl | hb
          · exact ha2
          · exact Rat.le_trans ha2 (Rat.le_of_lt (c2 b hb)))
  obtain ⟨k1, k2⟩ := key
  have el : (upto (Int.toNat (ps.length : Int))).length = n := by rw [upto_length, Int.toNat_natCast, hl]
  rw [el] at k2
  exact ⟨⟨small_of (by omega) (by omega), k1⟩, k2 (Nat.le_refl _)⟩
/-- how many are up to a limit does not hang on the order -/
theorem up_count {ps : List Rat} {s : IS} (h : s.Perm (upto ps.length)) (c : Rat) : (s.filter fun y => decide (ixI ps y ≤ c)).length = (upI ps c).length := (h.filter _).length_eq
theorem stepped_sp {B C n : Nat} {ps cs : List Rat} (b : Bool) (hl : ps.length = n) (hn : n ≤ 100) (hp : ∀ p ∈ ps, Rz B p) (hc : Lms C n cs) (hB : B + B < 9000) (hC : C + B < 9000) :
    S_law_stepped_TR_TR_B ps cs b ∧ M_law_stepped_TR_TR_B ps cs b = (bif b then upS ps cs else dnS ps cs) := by
  obtain ⟨so, po, qo⟩ := order_sp hl hn hp hB
  have hol : (M_law_order_TR ps).length = n := by rw [po.length_eq, upto_length]
  have hin : ∀ y ∈ M_law_order_TR ps, 0 ≤ y ∧ y < n := fun y hy => mem_upto.mp (po.mem_iff.mp hy)
  have hat : ∀ m : Nat, m < n → ixI (M_law_order_TR ps) (m : Int) ∈ M_law_order_TR ps := fun m hm => ixI_mem (by omega)
  have hget : ∀ m : Nat, m < n → (M_law_order_TR ps)[m]? = some (ixI (M_law_order_TR ps) (m : Int)) := fun m hm => by
    have := ixI_get (xs := M_law_order_TR ps) (i := (m : Int)) (by omega) (by omega)
    rwa [Int.toNat_natCast] at this
  -- valid places
  have hval : ∀ m : Nat, m < n → (¬ ixI cs (m : Int) < ixI ps (ixI (M_law_order_TR ps) (m : Int)) ↔ vUp ps cs m) := fun m hm => by
    rw [Rat.not_lt]
    unfold vUp
    rw [← up_count (s := M_law_order_TR ps) (by rw [hl]; exact po)]
    exact kth_sorted (f := fun y => ixI ps y) qo (hget m hm)
  -- the loop
  have key := foldL_sp (step := M_law_stepped_TR_TR_B_step1 ps cs b) (S := S_law_stepped_TR_TR_B_l1 ps cs b) (fun m (s : Int) => m ≤ n → ∃ r : Nat, s = r ∧ r ≤ m ∧ (∀ k, r = k + 1 → vUp ps cs k) ∧ (bif b then (∀ j, j < m → vUp ps cs j → j < r) else ((∀ j, j < r → vUp ps cs j) ∧ (r = m ∨ ¬ vUp ps cs r)))) (ys := upto (Int.toNat (ps.length : Int))) (s := (0 : Int))
    (fun _ => ⟨0, rfl, Nat.le_refl _, fun k hk => by omega, by
      cases b
      · exact ⟨fun j hj => by omega, .inl rfl⟩
      · exact fun j hj => by omega⟩) (fun x s m hx hi => by
    obtain ⟨rfl, hm⟩ := upto_get hx
    rw [Int.toNat_natCast, hl] at hm
    obtain ⟨r, rfl, i1, i2, i3⟩ := hi (by omega)
    have h1 := hin _ (hat m hm)
    have hcm : ixI cs (m : Int) ∈ cs := ixI_mem (by have := hc.1; omega)
    refine ⟨⟨by have := hc.1; omega, by omega, by omega, rs (hc.2.1 _ hcm).1.2.2 (hp _ (ixI_mem (by omega))) hC⟩, fun hmn => ?_⟩
    show ∃ r' : Nat, M_law_stepped_TR_TR_B_most2 ps cs b (m : Int) (r : Int) = r' ∧ _
    unfold M_law_stepped_TR_TR_B_most2
    have hv := hval m hm
    by_cases hvm : vUp ps cs m
    · rw [decide_eq_false (hv.mpr hvm)]
      cases b with
      | true =>
        refine ⟨m + 1, by simp [M_law_stepped_TR_TR_B_most1], Nat.le_refl _, fun k hk => by rw [show k = m by omega]; exact hvm, fun j hj _ => by omega⟩
      | false =>
        obtain ⟨i3, i4⟩ := i3
        by_cases hrm : r = m
        · subst hrm
          refine ⟨r + 1, by simp [M_law_stepped_TR_TR_B_most1], Nat.le_refl _, fun k hk => by rw [show k = r by omega]; exact hvm, fun j hj => ?_, .inl rfl⟩
          rcases Nat.lt_or_ge j r with z | z
          · exact i3 j z
          · rw [show j = r by omega]; exact hvm
        · refine ⟨r, ?_, by omega, i2, i3, .inr (i4.resolve_left hrm)⟩
          have : ¬ ((r : Int) = (m : Int)) := by omega
          simp [this]
    · rw [decide_eq_true (Decidable.not_not.mp fun z => hvm (hv.mp z))]
      refine ⟨r, by simp, by omega, i2, ?_⟩
      cases b with
      | true =>
        intro j hj hvj
        rcases Nat.lt_or_ge j m with z | z
        · exact i3 j z hvj
        · rw [show j = m by omega] at hvj
          exact absurd hvj hvm
      | false =>
        obtain ⟨i3, i4⟩ := i3
        refine ⟨i3, .inr ?_⟩
        rcases i4 with i4 | i4
        · rw [i4]; exact hvm
        · exact i4)
  obtain ⟨k1, k2⟩ := key
  have el : (upto (Int.toNat (ps.length : Int))).length = n := by rw [upto_length, Int.toNat_natCast, hl]
  rw [el] at k2
  obtain ⟨r, er, r1, r2, r3⟩ := k2 (Nat.le_refl _)
  have er2 : M_law_stepped_TR_TR_B_l1 ps cs b = (r : Int) := er
  have etk : slI (M_law_order_TR ps) none (some (M_law_stepped_TR_TR_B_l1 ps cs b)) = (M_law_order_TR ps).take r := by
    rw [er2, slI_take _ (by omega), Int.toNat_natCast]
  refine ⟨⟨so, small_of (by omega) (by omega), k1, by rw [etk, List.length_take]; omega⟩, ?_⟩
  unfold M_law_stepped_TR_TR_B
  rw [etk]
  have hnd : (M_law_order_TR ps).Nodup := (po.nodup_iff).mpr (nodup_of_lt (upto_lt n))
  have hnd2 : ((M_law_order_TR ps).take r).Nodup := hnd.sublist (List.take_sublist _ _)
  -- the first r of the order are those up to the last limit
  have hfst : ∀ i : Int, i ∈ (M_law_order_TR ps).take r → (0 ≤ i ∧ i < n) ∧ ∃ k, r = k + 1 ∧ ixI ps i ≤ ixI cs (k : Int) := fun i hi => by
    have hi2 := hin i (List.mem_of_mem_take hi)
    refine ⟨hi2, ?_⟩
    obtain ⟨j, hj, e⟩ := List.mem_iff_getElem.mp hi
    rw [List.length_take] at hj
    refine ⟨r - 1, by omega, ?_⟩
    have hv := r2 (r - 1) (by omega)
    have hvl := (hval (r - 1) (by omega)).mpr hv
    rw [Rat.not_lt] at hvl
    refine Rat.le_trans ?_ hvl
    have e2 : (M_law_order_TR ps)[j]? = some i := by
      rw [List.getElem_take] at e
      rw [← e]
      exact List.getElem?_eq_getElem (by omega)
    rcases Nat.lt_or_ge j (r - 1) with z | z
    · have := List.pairwise_iff_getElem.mp qo j (r - 1) (by omega) (by omega) z
      have g2 := hget (r - 1) (by omega)
      rw [List.getElem?_eq_getElem (by omega), Option.some.injEq] at e2 g2
      rwa [e2, g2] at this
    · have g2 := hget (r - 1) (by omega)
      rw [show j = r - 1 by omega, g2, Option.some.injEq] at e2
      rw [e2]
      exact Rat.le_refl
  have hlst : ∀ (i : Int) (k : Nat), (0 ≤ i ∧ i < n) → k < r → r ≤ (upI ps (ixI cs (k : Int))).length ∨ (∀ j : Nat, (upI ps (ixI cs (k : Int))).length ≤ r) → True := fun _ _ _ _ _ => trivial
  have hpos : ∀ (i : Int) (c : Rat), (0 ≤ i ∧ i < n) → ixI ps i ≤ c → ∃ j : Nat, j < (upI ps c).length ∧ (M_law_order_TR ps)[j]? = some i ∧ (upI ps c).length ≤ n := fun i c hi hic => by
    have hm : i ∈ M_law_order_TR ps := po.mem_iff.mpr (mem_upto.mpr hi)
    obtain ⟨j, hj, e⟩ := List.mem_iff_getElem.mp hm
    have e2 : (M_law_order_TR ps)[j]? = some i := by rw [← e]; exact List.getElem?_eq_getElem hj
    refine ⟨j, ?_, e2, ?_⟩
    · rw [← up_count (s := M_law_order_TR ps) (by rw [hl]; exact po)]
      exact (kth_sorted (f := fun y => ixI ps y) qo e2).mp hic
    · unfold upI
      refine Nat.le_trans (List.length_filter_le _ _) ?_
      rw [upto_length, hl]
      exact Nat.le_refl _
  have htake : ∀ (i : Int) (j : Nat), (M_law_order_TR ps)[j]? = some i → j < r → i ∈ (M_law_order_TR ps).take r := fun i j e hj => by
    refine List.mem_of_getElem? (i := j) ?_
    rw [List.getElem?_take_of_lt hj]
    exact e
  cases b with
  | true =>
    refine sortI_eq hnd2 (filter_asc _) fun i => ?_
    show i ∈ _ ↔ i ∈ upS ps cs
    rw [mem_upS, hl]
    constructor
    · intro hi
      obtain ⟨h1, k, hk, h2⟩ := hfst i hi
      exact ⟨h1, k, by have := hc.1; omega, r2 k hk, h2⟩
    · rintro ⟨h1, k, hk, hv, h2⟩
      obtain ⟨j, hj, e, hle⟩ := hpos i (ixI cs (k : Int)) h1 h2
      refine htake i j e ?_
      -- the last place up to this limit is valid, too
      have hk2 : k < n := by have := hc.1; omega
      have hvm : vUp ps cs ((upI ps (ixI cs (k : Int))).length - 1) := by
        unfold vUp
        unfold vUp at hv
        have : (upI ps (ixI cs (k : Int))).length ≤ (upI ps (ixI cs (((upI ps (ixI cs (k : Int))).length - 1 : Nat) : Int))).length := upI_mono (hc.mono (by omega) (by omega))
        omega
      have := r3 ((upI ps (ixI cs (k : Int))).length - 1) (by omega) hvm
      omega
  | false =>
    obtain ⟨r3, r4⟩ := r3
    refine sortI_eq hnd2 (filter_asc _) fun i => ?_
    show i ∈ _ ↔ i ∈ dnS ps cs
    rw [mem_dnS, hl]
    constructor
    · intro hi
      obtain ⟨h1, k, hk, h2⟩ := hfst i hi
      exact ⟨h1, k, by have := hc.1; omega, fun j hj => r3 j (by omega), h2⟩
    · rintro ⟨h1, k, hk, hv, h2⟩
      obtain ⟨j, hj, e, hle⟩ := hpos i (ixI cs (k : Int)) h1 h2
      refine htake i j e ?_
      have hk2 : k < n := by have := hc.1; omega
      have hkr : k < r := by
        rcases Nat.lt_or_ge k r with z | z
        · exact z
        · rcases r4 with r4 | r4
          · omega
          · exact absurd (hv r z) r4
      rcases r4 with r4 | r4
      · have := lt_of_get e; omega
      · -- no more than r are up to a limit below the r-th
        rcases Nat.lt_or_ge j r with z | z
        · exact z
        · exfalso
          refine r4 ?_
          unfold vUp
          rcases Nat.lt_or_ge r n with z2 | z2
          · have : (upI ps (ixI cs (k : Int))).length ≤ (upI ps (ixI cs (r : Int))).length := upI_mono (hc.mono (by omega) z2)
            omega
          · have := lt_of_get e; omega
end SP

set_option exponentiation.threshold 20000
/-! What the steps call behind changes. -/
namespace SP
open PySem PySem.Spec L2 DL PF MD MP ML LV
open LV (encR IsR isR Rz)
open PyProof.Rows hiding St
theorem upI_le {ps qs : List Rat} {c d : Rat} (hl : ps.length = qs.length) (h : ∀ i : Int, 0 ≤ i → i < ps.length → ixI ps i ≤ c → ixI qs i ≤ d) : (upI ps c).length ≤ (upI qs d).length := by
  unfold upI
  rw [← List.countP_eq_length_filter, ← List.countP_eq_length_filter, hl]
  refine List.countP_mono_left fun i hi hc => ?_
  have := mem_upto.mp hi
  rw [decide_eq_true_iff] at hc ⊢
  exact h i this.1 (by omega) hc
theorem UpP.mono {ps qs cs ds : List Rat} (hl : ps.length = qs.length) (hc : cs.length = ds.length) (hp : ∀ i : Int, 0 ≤ i → i < ps.length → ixI qs i ≤ ixI ps i) (hd : ∀ k : Nat, k < cs.length → ixI cs k ≤ ixI ds k) {i : Int} (h0 : 0 ≤ i ∧ i < ps.length) (h : UpP ps cs i) : UpP qs ds i := by
  obtain ⟨k, h1, h2, h3⟩ := h
  refine ⟨k, by omega, ?_, Rat.le_trans (hp i h0.1 h0.2) (Rat.le_trans h3 (hd k h1))⟩
  exact Nat.lt_of_lt_of_le h2 (upI_le hl fun j j0 j1 hj => Rat.le_trans (hp j j0 j1) (Rat.le_trans hj (hd k h1)))
theorem DnP.mono {ps qs cs ds : List Rat} (hl : ps.length = qs.length) (hc : cs.length = ds.length) (hp : ∀ i : Int, 0 ≤ i → i < ps.length → ixI qs i ≤ ixI ps i) (hd : ∀ k : Nat, k < cs.length → ixI cs k ≤ ixI ds k) {i : Int} (h0 : 0 ≤ i ∧ i < ps.length) (h : DnP ps cs i) : DnP qs ds i := by
  obtain ⟨k, h1, h2, h3⟩ := h
  refine ⟨k, by omega, fun j hj => ?_, Rat.le_trans (hp i h0.1 h0.2) (Rat.le_trans h3 (hd k h1))⟩
  exact Nat.lt_of_lt_of_le (h2 j hj) (upI_le hl fun m j0 j1 hm => Rat.le_trans (hp m j0 j1) (Rat.le_trans hm (hd j (by omega))))
theorem DnP.up {ps cs : List Rat} {i : Int} (h : DnP ps cs i) : UpP ps cs i := by
  obtain ⟨k, h1, h2, h3⟩ := h
  exact ⟨k, h1, h2 k (Nat.le_refl _), h3⟩
/-- what either way calls -/
def CaP (b : Bool) (ps cs : List Rat) (i : Int) : Prop := if b = true then UpP ps cs i else DnP ps cs i
theorem CaP.mono {b : Bool} {ps qs cs ds : List Rat} (hl : ps.length = qs.length) (hc : cs.length = ds.length) (hp : ∀ i : Int, 0 ≤ i → i < ps.length → ixI qs i ≤ ixI ps i) (hd : ∀ k : Nat, k < cs.length → ixI cs k ≤ ixI ds k) {i : Int} (h0 : 0 ≤ i ∧ i < ps.length) (h : CaP b ps cs i) : CaP b qs ds i := by
  cases b
  · exact DnP.mono hl hc hp hd h0 h
  · exact UpP.mono hl hc hp hd h0 h
/-! ### in another order -/
end SP

set_option exponentiation.threshold 20000
/-! Bars over rational numbers. -/
namespace SP
open PySem PySem.Spec L2 DL PF MD MP ML LV
open LV (encR IsR isR Rz)
open PyProof.Rows hiding St
/-! ### frames -/
/-- a frame: some of the sets, in order -/
def Fra (n : Nat) (ls : List IS) : Prop := ls ≠ [] ∧ ls.Sublist (ssets n)
theorem Fra.set {n : Nat} {ls : List IS} (h : Fra n ls) : ∀ s ∈ ls, isSet n s := fun s hs => mem_ssets.mp (h.2.subset hs)
theorem Fra.len {n : Nat} {ls : List IS} (h : Fra n ls) (hn : n ≤ 5) : ls.length ≤ 31 := Nat.le_trans h.2.length_le (ssets_len n hn)
theorem fra_full {n : Nat} (h1 : 1 ≤ n) : Fra n (ssets n) := ⟨by
  cases n with
  | zero => omega
  | succ k => simp [ssets, setsFrom], List.Sublist.refl _⟩
theorem is_index_ev (n i : Int) : M_is_index n i = decide (0 ≤ i ∧ i < n) := by
  unfold M_is_index M_is_whole
  rw [Bool.eq_iff_iff]
  simp
theorem is_asc_ev (s : IS) : M_is_ascending_TI s = ((s.zip (s.drop 1)).all fun p => decide (p.1 < p.2)) := by
  unfold M_is_ascending_TI
  have : slI s (some 1) none = s.drop 1 := slI_drop s (by omega)
  rw [this, List.all_map]
  rfl
theorem asc_all {s : IS} (h : s.Pairwise (· < ·)) : ((s.zip (s.drop 1)).all fun p => decide (p.1 < p.2)) = true := by
  have := asc_pair (fun x y : Int => decide (x < y)) s (h.imp fun h => decide_eq_true h)
  exact this
theorem zip_len {α β : Type} (a : List α) (b : List β) {n : Nat} (h : a.length ≤ n) : (a.zip b).length ≤ n := by
  rw [List.length_zip]
  omega
theorem is_set_true {n : Nat} {s : IS} (h5 : n ≤ 5) (h : isSet n s) : S_is_set n s ∧ M_is_set n s = true := by
  have hl := isSet_len h
  obtain ⟨h0, h1, h2⟩ := h
  refine ⟨⟨fun _ => szl (by omega), fun _ _ => ⟨szl (zip_len _ _ (by omega))⟩⟩, ?_⟩
  unfold M_is_set M_is_set_r1
  have e0 : (false || decide (((s.length : Nat) : Int) = 0)) = false := by
    have : s.length ≠ 0 := fun z => h0 (List.eq_nil_of_length_eq_zero z)
    simp
    exact h0
  rw [e0, cond_false, is_asc_ev, asc_all h1, Bool.and_true, List.all_map, List.all_eq_true]
  intro i hi
  show M_is_index n i = true
  rw [is_index_ev, decide_eq_true (h2 i hi)]
theorem check_set_sp {n : Nat} {s : IS} (h5 : n ≤ 5) (h : isSet n s) : S_check_set n s := by
  obtain ⟨a, b⟩ := is_set_true h5 h
  exact ⟨a, by rw [b]; rfl⟩
/-! ### corners, bars -/
abbrev CorR := List (Option Rat)
abbrev BarR := IS × CorR
abbrev kc (c : CorR) : List (Option KR) := c.map (Option.map KR.r)
abbrev kb (bs : List BarR) : List BarK := bs.map fun b => (b.1, kc b.2)
/-- a corner -/
def Cr (B n : Nat) (c : CorR) : Prop := c.length = n ∧ ∀ q, some q ∈ c → Nb B q
/-- numbers are within a corner -/
def wi (ps : List Rat) (c : CorR) : Bool := (ps.zip c).all fun x => orN x.2 fun y => decide (x.1 ≤ y)
theorem law_in_sp {B C n : Nat} {ps : List Rat} {c : CorR} (hp : ∀ p ∈ ps, Rz B p) (hc : Cr C n c) (h : C + B < 9000) : S_law_is_in ps c ∧ M_law_is_in ps c = wi ps c := by
  have key := foldE_sp (step := M_law_is_in_step1 ps c) (S := S_law_is_in_l1 ps c) (fun m (_ : Unit) => ((ps.zip c).take m).all (fun x => orN x.2 fun y => decide (x.1 ≤ y)) = true) (fun r => r = wi ps c) (ys := ps.zip c) (s := ()) rfl (fun x s m hx hi => by
    refine ⟨⟨fun y hy => ?_⟩, ?_⟩
    · have hz := List.mem_of_getElem? hx
      have h1 := (List.of_mem_zip hz).1
      have h2 := (List.of_mem_zip hz).2
      rw [hy] at h2
      exact rs (hc.2 y h2).2.2 (hp _ h1) h
    · have es : M_law_is_in_step1 ps c x s = bif (andN x.2 (fun y4 => ((decide (y4 < x.1))))) then Sum.inr false else Sum.inl () := rfl
      have eneg : andN x.2 (fun y4 => decide (y4 < x.1)) = !(orN x.2 fun y => decide (x.1 ≤ y)) := by
        cases x.2 with
        | none => rfl
        | some y =>
          show decide (y < x.1) = !decide (x.1 ≤ y)
          by_cases hlt : y < x.1
          · rw [decide_eq_true hlt, decide_eq_false (Rat.not_le.mpr hlt)]; rfl
          · rw [decide_eq_false hlt, decide_eq_true (Rat.not_lt.mp hlt)]; rfl
      rw [es, eneg]
      cases hb : orN x.2 fun y => decide (x.1 ≤ y) with
      | true =>
        show ((ps.zip c).take (m + 1)).all _ = true
        have hm := lt_of_get hx
        rw [List.take_add_one, hx, List.all_append, hi]
        simp [hb]
      | false =>
        show false = wi ps c
        symm
        unfold wi
        rw [List.all_eq_false]
        exact ⟨x, List.mem_of_getElem? hx, by rw [hb]; simp⟩)
  obtain ⟨k1, k2⟩ := key
  refine ⟨⟨k1⟩, ?_⟩
  show endE (foldE _ _ _) _ = _
  cases hf : foldE (M_law_is_in_step1 ps c) (ps.zip c) () with
  | inr r =>
    rw [hf] at k2
    exact k2
  | inl t =>
    rw [hf] at k2
    show true = wi ps c
    have k2 : ((ps.zip c).take (ps.zip c).length).all (fun x => orN x.2 fun y => decide (x.1 ≤ y)) = true := k2
    rw [List.take_length] at k2
    exact k2.symm
/-! ### possible lots -/
def barred (ps : List Rat) (bs : List BarR) (s : IS) : Bool := bs.any fun b => decide (b.1 = s) && wi ps b.2
def opens (ps : List Rat) (bs : List BarR) (ls : List IS) : List IS := [] :: ls.filter fun s => !barred ps bs s
/-! ### sure counts -/
theorem opens_ne (ps : List Rat) (bs : List BarR) (ls : List IS) : opens ps bs ls ≠ [] := by simp [opens]
end SP

set_option exponentiation.threshold 20000
/-! Ranked bars and Hommel's number: the mathematics. -/
namespace SP
open PySem PySem.Spec L2 DL PF MD MP ML LV
open LV (encR IsR isR Rz)
open PyProof.Rows hiding St
/-- how many of a set are up to a limit -/
def cn (ps : List Rat) (s : IS) (x : Rat) : Nat := (s.filter fun i => decide (ixI ps i ≤ x)).length
/-- what is possible by the ranked bars -/
def Pos (al : Rat) (ps : List Rat) (t : IS) : Prop := ∀ j : Nat, 1 ≤ j → j ≤ t.length → cn ps t (al * j / t.length) < j
/-- k greatest numbers would be possible -/
def Lf (al : Rat) (ps : List Rat) (k : Nat) : Prop := ∀ j : Nat, 1 ≤ j → j ≤ k → cn ps (upto ps.length) (al * j / k) + k < ps.length + j
structure Hom (al : Rat) (ps : List Rat) (h : Nat) : Prop where
  le : h ≤ ps.length
  lf : Lf al ps h
  mx : ∀ k, k ≤ ps.length → Lf al ps k → k ≤ h
section
variable {al : Rat} {ps : List Rat} {h n : Nat}
theorem nat_pos {k : Nat} (hk : 1 ≤ k) : (0 : Rat) < (k : Rat) := by exact_mod_cast hk
/-- the sets that we speak of -/
def Sub (n : Nat) (t : IS) : Prop := t.Sublist (upto n)
end
end SP

set_option exponentiation.threshold 20000
/-! Ranked bars: the models. -/
namespace SP
open PySem PySem.Spec L2 DL PF MD MP ML LV
open LV (encR IsR isR Rz)
open PyProof.Rows hiding St
theorem mem_subsL : ∀ {s g : IS}, g ∈ subsL s ↔ g ≠ [] ∧ g.Sublist s
  | [], g => by simp [subsL]
  | x :: s, g => by
    rw [subsL, List.mem_cons, List.mem_append, List.mem_map, List.sublist_cons_iff]
    constructor
    · rintro (rfl | ⟨r, hr, rfl⟩ | hr)
      · exact ⟨by simp, .inr ⟨[], rfl, List.nil_sublist _⟩⟩
      · exact ⟨by simp, .inr ⟨r, rfl, (mem_subsL.mp hr).2⟩⟩
      · exact ⟨(mem_subsL.mp hr).1, .inl (mem_subsL.mp hr).2⟩
    · rintro ⟨h0, h | ⟨r, rfl, h⟩⟩
      · exact .inr (.inr (mem_subsL.mpr ⟨h0, h⟩))
      · rcases r with _ | ⟨y, r⟩
        · exact .inl rfl
        · exact .inr (.inl ⟨_, mem_subsL.mpr ⟨by simp, h⟩, rfl⟩)
theorem fold_app {α β : Type} {step : α → List β → List β} (f : α → List β) : ∀ (xs : List α) (s : List β), (∀ x ∈ xs, ∀ s, step x s = s ++ f x) → foldS step xs s = s ++ xs.flatMap f
  | [], s, _ => by simp [foldS]
  | x :: xs, s, h => by
    show foldS step xs (step x s) = _
    rw [h x (List.mem_cons_self ..), fold_app f xs _ fun y hy => h y (List.mem_cons_of_mem _ hy), List.flatMap_cons, List.append_assoc]
def rkl (al : Rat) (m k : Nat) : Rat := al * Rat.divInt (k : Int) (m : Int)
def firsts (n : Nat) : List IS := (ssets n).flatMap fun s => (subsL s).map fun _ => s
theorem five {n : Nat} (h1 : 1 ≤ n) (h5 : n ≤ 5) : n ∈ [1, 2, 3, 4, 5] := by
  rcases n with _ | _ | _ | _ | _ | _ | n <;> first | omega | decide
theorem parts_facts : ∀ n ∈ [1, 2, 3, 4, 5], (firsts n).length ≤ 240 ∧ ∀ s ∈ ssets n, (ssets n).filter (fun g => M_is_part g s) = subsL s ∧ (subsL s).length ≤ 31 ∧ ((firsts n).filter fun k => decide (k = s)).length ≤ 60 := by decide +kernel
theorem alike_kc (n : Nat) (g : IS) (q : Rat) : M_alike (n : Int) g (KR.r q) = kc (M_law_edge (n : Int) g q) := by
  unfold M_alike M_law_edge kc
  rw [List.map_map]
  refine List.map_congr_left fun i _ => ?_
  show _ = Option.map KR.r (bif decide (i ∈ g) then some q else none)
  cases decide (i ∈ g) <;> rfl
theorem rkl_eq (al : Rat) (m k : Nat) : Rat.divInt ((k : Int) * al.num) ((m : Int) * ((al.den : Nat) : Int)) = rkl al m k := by
  unfold rkl
  conv => rhs; rw [← Rat.num_divInt_den al]
  rw [Rat.divInt_mul_divInt, Int.mul_comm, Int.mul_comm (m : Int)]
theorem rkl_div (al : Rat) {m : Nat} (k : Nat) : rkl al m k = al * k / m := by
  unfold rkl
  rw [Rat.divInt_eq_div]
  show al * ((k : Rat) / (m : Rat)) = _
  rw [Rat.div_def, Rat.div_def, Rat.mul_assoc]
theorem edge_mem {n : Nat} {g : IS} {q : Rat} {j : Nat} {x : Option Rat} (h : (M_law_edge (n : Int) g q)[j]? = some x) : j < n ∧ x = if (j : Int) ∈ g then some q else none := by
  unfold M_law_edge at h
  rw [List.getElem?_map, Int.toNat_natCast, Option.map_eq_some_iff] at h
  obtain ⟨i, hi, rfl⟩ := h
  obtain ⟨rfl, hj⟩ := upto_get hi
  refine ⟨hj, ?_⟩
  by_cases hg : (j : Int) ∈ g <;> simp [hg]
theorem edge_len (n : Nat) (g : IS) (q : Rat) : (M_law_edge (n : Int) g q).length = n := by
  unfold M_law_edge
  rw [List.length_map, upto_length, Int.toNat_natCast]
end SP

set_option exponentiation.threshold 20000
/-! Ranked bars: the models, and what is left. -/
namespace SP
open PySem PySem.Spec L2 DL PF MD MP ML LV
open LV (encR IsR isR Rz)
open PyProof.Rows hiding St
theorem sub5 {n : Nat} (h5 : n ≤ 5) {s : IS} (h : s ∈ ssets n) : s ∈ ssets 5 := mem_ssets.mpr ⟨(mem_ssets.mp h).1, (mem_ssets.mp h).2.1, fun i hi => by
  have := (mem_ssets.mp h).2.2 i hi
  omega⟩
theorem edge_ok {n : Nat} (h5 : n ≤ 5) (g : IS) (q : Rat) : S_law_edge (n : Int) g q := ⟨small_of (by omega) (by omega), szl (by rw [upto_length]; omega)⟩
/-- a degree, of a greater size -/
def Lw (q : Rat) : Prop := 0 < q ∧ q ≤ 1 ∧ Rz 64 q
end SP

set_option exponentiation.threshold 20000
/-! Ranked bars: what is left, and counted. -/
namespace SP
open PySem PySem.Spec L2 DL PF MD MP ML LV
open LV (encR IsR isR Rz)
open PyProof.Rows hiding St
theorem ps_upto (ps : List Rat) : ps = (upto ps.length).map fun i => ixI ps i := by
  refine List.ext_getElem? fun k => ?_
  rw [List.getElem?_map]
  rcases Nat.lt_or_ge k ps.length with h | h
  · have e : (upto ps.length)[k]? = some (k : Int) := by simp [upto, h]
    rw [e, List.getElem?_eq_getElem h]
    show some ps[k] = some (ixI ps (k : Int))
    rw [getI (List.getElem?_eq_getElem h)]
  · rw [List.getElem?_eq_none h, List.getElem?_eq_none (by rw [upto_length]; exact h)]
    rfl
theorem wi_edge {n : Nat} {ps : List Rat} {g : IS} {q : Rat} (hl : ps.length = n) (hg : ∀ i ∈ g, 0 ≤ i ∧ i < n) : wi ps (M_law_edge (n : Int) g q) = true ↔ ∀ i ∈ g, ixI ps i ≤ q := by
  unfold wi M_law_edge
  rw [Int.toNat_natCast]
  conv => lhs; rw [ps_upto ps, hl]
  rw [List.zip_map', List.all_eq_true]
  constructor
  · intro h i hi
    have := h (ixI ps i, some q) (List.mem_map.mpr ⟨i, mem_upto.mpr (hg i hi), by simp [hi]⟩)
    exact of_decide_eq_true this
  · intro h x hx
    obtain ⟨i, _, rfl⟩ := List.mem_map.mp hx
    by_cases hi : i ∈ g
    · simp only [hi, decide_true, cond_true]
      exact decide_eq_true (h i hi)
    · simp only [hi, decide_false, cond_false]
      rfl
end SP

set_option exponentiation.threshold 20000
/-! Hommel's number: the models. -/
namespace SP
open PySem PySem.Spec L2 DL PF MD MP ML LV
open LV (encR IsR isR Rz)
open PyProof.Rows hiding St
theorem mem_fromI {lo hi k : Int} : k ∈ fromI lo hi ↔ lo ≤ k ∧ k < hi := by
  unfold fromI
  rw [List.mem_map]
  constructor
  · rintro ⟨m, hm, rfl⟩
    have := List.mem_range.mp hm
    omega
  · intro h
    exact ⟨(k - lo).toNat, List.mem_range.mpr (by omega), by omega⟩
theorem fromI_length (lo hi : Int) : (fromI lo hi).length = (hi - lo).toNat := by simp [fromI]
theorem thou {i : Int} (h0 : -1000 ≤ i) (h : i ≤ 1000) : i.natAbs < 2 ^ 32 := Nat.lt_of_le_of_lt (show i.natAbs ≤ 1000 by omega) (by decide)
section
variable {al : Rat} {ps : List Rat} {n h : Nat}
theorem up_pii (ps : List Rat) (l : Int × Int) : M_up_to_TK_PII (kr ps) l = upI ps (Rat.divInt l.1 l.2) := up_to_eq ps (KR.r (Rat.divInt l.1 l.2))
theorem are_left_sp {B : Nat} (hal : Lw al) (hl : ps.length ≤ 900) (hp : ∀ p ∈ ps, Rz B p) (hB : B ≤ 4000) {k : Nat} (hk : k ≤ ps.length) : S_are_left (kr ps) (KR.r al) (k : Int) ∧ (M_are_left (kr ps) (KR.r al) (k : Int) = true ↔ Lf al ps k) := by
  have hden : (((KR.r al).q.den : Nat) : Int).natAbs < 2 ^ 64 := den_lt hal.2.2
  have hnum : (KR.r al).q.num.natAbs < 2 ^ 64 := hal.2.2.1
  have w4 : (2 : Nat) ^ (32 + 64) ≤ 2 ^ 4000 := Nat.pow_le_pow_right (by decide) (by decide)
  refine ⟨⟨⟨small_of (by omega) (by omega), small_of (by omega) (by omega)⟩, szl (by rw [fromI_length]; omega), fun x hx => ?_, fun x hx => mulW (thou (by omega) (by omega)) hden (by decide), fun x hx => ⟨szl (by rw [enumI_length, List.length_map]; omega), fun y hy => ⟨?_, ?_, ?_, ?_⟩⟩⟩, ?_⟩
  · have := mem_fromI.mp hx
    exact mulW (thou (by omega) (by omega)) hnum (by decide)
  · have := mem_fromI.mp hx
    exact Int.mul_pos (by omega) (Int.natCast_pos.mpr al.den_pos)
  · have := mem_fromI.mp hx
    exact Nat.lt_of_lt_of_le (natAbs_mul_lt (thou (by omega) (by omega)) hnum) w4
  · exact Nat.lt_of_lt_of_le (natAbs_mul_lt (thou (by omega) (by omega)) hden) w4
  · obtain ⟨m, hm, e⟩ := List.mem_iff_getElem.mp hy
    obtain ⟨_, e2⟩ := enumI_get (e ▸ List.getElem?_eq_getElem hm)
    obtain ⟨p, hp2, e3⟩ := List.mem_map.mp (List.mem_of_getElem? e2)
    rw [← e3]
    exact (hp p hp2).mono hB
  · unfold M_are_left
    have ev : ∀ j : Nat, ((M_up_to_TK_PII (kr ps) (((j : Int) * (KR.r al).q.num), ((k : Int) * (((KR.r al).q.den : Nat) : Int)))).length : Nat) = cn ps (upto ps.length) (al * j / k) := fun j => by
      rw [up_pii, ← rkl_div, ← rkl_eq]
      rfl
    rw [List.all_eq_true]
    constructor
    · intro h j j1 j2
      have := h _ (List.mem_map.mpr ⟨(j : Int), mem_fromI.mpr (by omega), rfl⟩)
      have := of_decide_eq_true this
      rw [ev] at this
      unfold M_are_left_below1 at this
      rw [List.length_map] at this
      omega
    · intro h x hx
      obtain ⟨i, hi, rfl⟩ := List.mem_map.mp hx
      have hi2 := mem_fromI.mp hi
      obtain ⟨j, rfl⟩ : ∃ j : Nat, i = j := ⟨i.toNat, by omega⟩
      refine decide_eq_true ?_
      rw [ev]
      have := h j (by omega) (by omega)
      unfold M_are_left_below1
      rw [List.length_map]
      omega
theorem greatest_sp {B : Nat} (hal : Lw al) (hl : ps.length ≤ 900) (hp : ∀ p ∈ ps, Rz B p) (hB : B ≤ 4000) : S_greatest_left (kr ps) (KR.r al) ∧ ∃ h : Nat, M_greatest_left (kr ps) (KR.r al) = (h : Int) ∧ Hom al ps h := by
  have mem : ∀ i : Int, i ∈ (upto (Int.toNat (((kr ps).length : Int) + (1 : Int)))) ↔ 0 ≤ i ∧ i ≤ ps.length := fun i => by
    rw [mem_upto, List.length_map]
    omega
  have ne : (List.filter (fun (x1 : Int) => (M_are_left (kr ps) (KR.r al) x1)) (upto (Int.toNat (((kr ps).length : Int) + (1 : Int))))) ≠ [] := by
    refine List.ne_nil_of_mem (a := ((0 : Nat) : Int)) (List.mem_filter.mpr ⟨(mem _).mpr (by omega), ?_⟩)
    exact (are_left_sp hal hl hp hB (Nat.zero_le _)).2.mpr fun j h1 h2 => by omega
  obtain ⟨m1, m2⟩ := maxL_spec _ ne
  refine ⟨⟨small_of (by rw [List.length_map]; omega) (by rw [List.length_map]; omega), szl (by rw [upto_length, List.length_map]; omega), fun x hx => ?_, ne⟩, (M_greatest_left (kr ps) (KR.r al)).toNat, ?_, ?_⟩
  · have := (mem x).mp hx
    obtain ⟨k, rfl⟩ : ∃ k : Nat, x = k := ⟨x.toNat, by omega⟩
    exact (are_left_sp hal hl hp hB (by omega)).1
  · have := (mem _).mp (List.mem_filter.mp m1).1
    unfold M_greatest_left
    omega
  · have r := (mem _).mp (List.mem_filter.mp m1).1
    have hc : (((M_greatest_left (kr ps) (KR.r al)).toNat : Nat) : Int) = M_greatest_left (kr ps) (KR.r al) := by
      unfold M_greatest_left
      omega
    have hle : (M_greatest_left (kr ps) (KR.r al)).toNat ≤ ps.length := by
      unfold M_greatest_left
      omega
    refine ⟨hle, ?_, fun k hk hf => ?_⟩
    · refine (are_left_sp hal hl hp hB hle).2.mp ?_
      rw [hc]
      exact (List.mem_filter.mp m1).2
    · have := m2 (k : Int) (List.mem_filter.mpr ⟨(mem _).mpr (by omega), (are_left_sp hal hl hp hB hk).2.mpr hf⟩)
      unfold M_greatest_left
      omega
end
end SP

set_option exponentiation.threshold 20000
/-! Hommel's number: the law's, and the counts. -/
namespace SP
open PySem PySem.Spec L2 DL PF MD MP ML LV
open LV (encR IsR isR Rz)
open PyProof.Rows hiding St
section
variable {al : Rat} {ps : List Rat} {n h : Nat}
theorem low_ev {h : Nat} (q x : Rat) : (!decide (q < ((h : Int) : Rat) * x)) = decide ((h : Rat) * x ≤ q) := by
  rw [show (((h : Int)) : Rat) = (h : Rat) from Rat.intCast_natCast h]
  by_cases hc : (h : Rat) * x ≤ q
  · rw [decide_eq_true hc, decide_eq_false (Rat.not_lt.mpr hc)]
    rfl
  · rw [decide_eq_false hc, decide_eq_true (Rat.not_le.mp hc)]
    rfl
end
end SP

/-! Webs: taking one out, then another one. -/
namespace LV
theorem frac (x y z u p q : Rat) (hp : p ≠ 0) (hq : q ≠ 0) (h : y / p * (u / q) ≠ 1) : (x / p + y / p * (z / q)) / (1 - y / p * (u / q)) = (x * q + y * z) / (p * q - y * u) := by
  have hpq : p * q ≠ 0 := by grind
  have e1 : x / p + y / p * (z / q) = (x * q + y * z) / (p * q) := by grind
  have e2 : 1 - y / p * (u / q) = (p * q - y * u) / (p * q) := by grind
  have h3 : p * q - y * u ≠ 0 := by
    intro e
    rw [e] at e2
    have : (0 : Rat) / (p * q) = 0 := by grind
    grind
  rw [e1, e2]
  generalize p * q - y * u = c at *
  generalize x * q + y * z = n at *
  generalize p * q = m at *
  grind
/-- one step: j to k, over o -/
def stp (jk jo ok oj : Rat) : Rat := if jo * oj = 1 then 0 else (jk + jo * ok) / (1 - jo * oj)
theorem stp_two (jk ja ak aj jb bk bj ab ba : Rat) (h1 : ja * aj ≠ 1) (h2 : ba * ab ≠ 1) (h4 : stp jb ja ab aj * stp bj ba aj ab ≠ 1) :
    stp (stp jk ja ak aj) (stp jb ja ab aj) (stp bk ba ak ab) (stp bj ba aj ab) = (jk * (1 - ab * ba) + ja * ak + jb * bk + jb * ba * ak + ja * ab * bk) / (1 - ja * aj - ab * ba - jb * bj - jb * ba * aj - ja * ab * bj) := by
  have p : 1 - ja * aj ≠ 0 := by grind
  have q : 1 - ba * ab ≠ 0 := by grind
  unfold stp at *
  simp only [h1, h2, if_false] at h4 ⊢
  rw [if_neg h4, frac _ _ _ _ _ _ p q h4]
  congr 1 <;> grind
theorem stp_gen (jk ja ak aj jb bk bj ab ba : Rat) (h1 : ja * aj ≠ 1) (h2 : ba * ab ≠ 1) (h3 : jb * bj ≠ 1) (h4 : stp jb ja ab aj * stp bj ba aj ab ≠ 1) (h5 : stp ja jb ba bj * stp aj ab bj ba ≠ 1) :
    stp (stp jk ja ak aj) (stp jb ja ab aj) (stp bk ba ak ab) (stp bj ba aj ab) = stp (stp jk jb bk bj) (stp ja jb ba bj) (stp ak ab bk ba) (stp aj ab bj ba) := by
  rw [stp_two _ _ _ _ _ _ _ _ _ h1 h2 h4, stp_two jk jb bk bj ja ak aj ba ab h3 (by grind) h5]
  congr 1 <;> grind
/-- the second step's denominator is nil by one order as by the other -/
theorem stp_den (ja aj jb bj ab ba : Rat) (h1 : ja * aj ≠ 1) (h2 : ba * ab ≠ 1) : stp jb ja ab aj * stp bj ba aj ab = 1 ↔ 1 - ja * aj - ab * ba - jb * bj - jb * ba * aj - ja * ab * bj = 0 := by
  have p : 1 - ja * aj ≠ 0 := by grind
  have q : 1 - ba * ab ≠ 0 := by grind
  unfold stp
  simp only [h1, h2, if_false]
  have e : (1 - ja * aj) * (1 - ba * ab) * (1 - (jb + ja * ab) / (1 - ja * aj) * ((bj + ba * aj) / (1 - ba * ab))) = 1 - ja * aj - ab * ba - jb * bj - jb * ba * aj - ja * ab * bj := by
    generalize h3 : 1 - ja * aj = c at *
    generalize h4 : 1 - ba * ab = d at *
    grind
  constructor
  · intro h
    rw [← e, h]
    grind
  · intro h
    rw [← e] at h
    grind
theorem one_of {x y : Rat} (h0 : 0 ≤ x) (h1 : x ≤ 1) (k0 : 0 ≤ y) (k1 : y ≤ 1) (h : x * y = 1) : x = 1 ∧ y = 1 := by
  have a : x * y ≤ x * 1 := Rat.mul_le_mul_of_nonneg_left k1 h0
  have b : x * y ≤ 1 * y := Rat.mul_le_mul_of_nonneg_right h1 k0
  constructor <;> grind
theorem stp_zero (ok oj : Rat) : stp 0 0 ok oj = 0 := by
  unfold stp
  split <;> grind
theorem stp_nil (jk ok oj : Rat) : stp jk 0 ok oj = jk := by
  unfold stp
  rw [if_neg (by grind)]
  grind
theorem stp_one (jk ok : Rat) : stp jk 1 ok 1 = 0 := by
  unfold stp
  rw [if_pos (by grind)]
/-- taking out a and then b is taking out b and then a -/
theorem stp_comm {jk ja jb aj ak ab bj ba bk : Rat} (p1 : 0 ≤ jk) (p2 : 0 ≤ ja) (p3 : 0 ≤ jb) (p4 : 0 ≤ aj) (p5 : 0 ≤ ak) (p6 : 0 ≤ ab) (p7 : 0 ≤ bj) (p8 : 0 ≤ ba) (p9 : 0 ≤ bk)
    (s1 : jk + ja + jb ≤ 1) (s2 : aj + ak + ab ≤ 1) (s3 : bj + ba + bk ≤ 1) :
    stp (stp jk ja ak aj) (stp jb ja ab aj) (stp bk ba ak ab) (stp bj ba aj ab) = stp (stp jk jb bk bj) (stp ja jb ba bj) (stp ak ab bk ba) (stp aj ab bj ba) := by
  by_cases h1 : ja * aj = 1
  · obtain ⟨e1, e2⟩ := one_of p2 (by grind) p4 (by grind) h1
    have e3 : jk = 0 := by grind
    have e4 : jb = 0 := by grind
    have e5 : ak = 0 := by grind
    have e6 : ab = 0 := by grind
    subst e1 e2 e3 e4 e5 e6
    simp only [stp_zero, stp_nil, stp_one]
  · by_cases h3 : jb * bj = 1
    · obtain ⟨e1, e2⟩ := one_of p3 (by grind) p7 (by grind) h3
      have e3 : jk = 0 := by grind
      have e4 : ja = 0 := by grind
      have e5 : ba = 0 := by grind
      have e6 : bk = 0 := by grind
      subst e1 e2 e3 e4 e5 e6
      simp only [stp_zero, stp_nil, stp_one]
    · by_cases h2 : ba * ab = 1
      · obtain ⟨e1, e2⟩ := one_of p8 (by grind) p6 (by grind) h2
        have e3 : aj = 0 := by grind
        have e4 : ak = 0 := by grind
        have e5 : bj = 0 := by grind
        have e6 : bk = 0 := by grind
        subst e1 e2 e3 e4 e5 e6
        have z1 : ∀ x y : Rat, stp x y 0 0 = x := fun x y => by
          unfold stp
          rw [if_neg (by grind)]
          grind
        have z2 : ∀ x y : Rat, stp x y 1 0 = x + y := fun x y => by
          unfold stp
          rw [if_neg (by grind)]
          grind
        simp only [z1, z2, stp_one]
      · have d1 := stp_den ja aj jb bj ab ba h1 h2
        have d2 := stp_den jb bj ja aj ba ab h3 (by grind)
        by_cases h4 : stp jb ja ab aj * stp bj ba aj ab = 1
        · have z := d1.mp h4
          have h5 : stp ja jb ba bj * stp aj ab bj ba = 1 := d2.mpr (by grind)
          have l : ∀ x y u v : Rat, u * v = 1 → stp x u y v = 0 := fun x y u v h => by
            unfold stp
            rw [if_pos h]
          rw [l _ _ _ _ h4, l _ _ _ _ h5]
        · have h5 : stp ja jb ba bj * stp aj ab bj ba ≠ 1 := fun z => h4 (d1.mpr (by
            have := d2.mp z
            grind))
          exact stp_gen _ _ _ _ _ _ _ _ _ h1 h2 h3 h4 h5
/-- the weights, too -/
theorem wt_comm {wj wa wb aj ab bj ba : Rat} (p4 : 0 ≤ aj) (p6 : 0 ≤ ab) (p7 : 0 ≤ bj) (p8 : 0 ≤ ba) (s2 : aj + ab ≤ 1) (s3 : bj + ba ≤ 1) :
    wj + wa * aj + (wb + wa * ab) * stp bj ba aj ab = wj + wb * bj + (wa + wb * ba) * stp aj ab bj ba := by
  by_cases h : ba * ab = 1
  · obtain ⟨e1, e2⟩ := one_of p8 (by grind) p6 (by grind) h
    have e3 : aj = 0 := by grind
    have e4 : bj = 0 := by grind
    subst e1 e2 e3 e4
    simp only [stp_one]
    grind
  · have h' : ab * ba ≠ 1 := by grind
    unfold stp
    rw [if_neg h, if_neg h']
    have q : 1 - ba * ab ≠ 0 := by grind
    have q' : 1 - ab * ba = 1 - ba * ab := by grind
    rw [q']
    generalize hc : 1 - ba * ab = c at *
    grind
/-- a row's parts stay from 0 on, their sum at most 1 -/
theorem stp_nonneg {jk jo ok oj : Rat} (h1 : 0 ≤ jk) (h2 : 0 ≤ jo) (h3 : 0 ≤ ok) (h4 : 0 ≤ oj) (h5 : jo ≤ 1) (h6 : oj ≤ 1) : 0 ≤ stp jk jo ok oj := by
  unfold stp
  split
  · exact Rat.le_refl
  · rename_i h
    have a : 0 ≤ jk + jo * ok := Rat.add_nonneg h1 (Rat.mul_nonneg h2 h3)
    have b : jo * oj ≤ 1 * oj := Rat.mul_le_mul_of_nonneg_right h5 h4
    have c : 0 < 1 - jo * oj := by grind
    rw [Rat.div_def]
    exact Rat.mul_nonneg a (Rat.le_of_lt (Rat.inv_pos.mpr c))
theorem div_le {n c m : Rat} (hc : 0 < c) (h : n ≤ m * c) : n / c ≤ m := by
  have hn : c ≠ 0 := by grind
  have e : n / c * c = n := by grind
  have := Rat.inv_pos.mpr hc
  have a : n * c⁻¹ ≤ m * c * c⁻¹ := Rat.mul_le_mul_of_nonneg_right h (Rat.le_of_lt this)
  rw [Rat.div_def]
  have e2 : m * c * c⁻¹ = m := by rw [Rat.mul_assoc, Rat.mul_inv_cancel c hn, Rat.mul_one]
  rw [e2] at a
  exact a
end LV

set_option exponentiation.threshold 20000
/-! Webs over Rat: taking one out. -/
namespace SP
open LV (stp)
/-- sums over places -/
def su (f : Int → Rat) : Nat → Rat
  | 0 => 0
  | n + 1 => su f n + f n
section
variable {f g : Int → Rat} {n : Nat}
theorem su_congr (h : ∀ k : Int, 0 ≤ k → k < n → f k = g k) : su f n = su g n := by
  induction n with
  | zero => rfl
  | succ n ih =>
    unfold su
    rw [ih fun k h0 h1 => h k h0 (by omega), h n (by omega) (by omega)]
theorem su_add : su (fun k => f k + g k) n = su f n + su g n := by
  induction n with
  | zero => exact (Rat.add_zero 0).symm
  | succ n ih =>
    unfold su
    rw [ih]
    grind
theorem su_mul (c : Rat) : su (fun k => c * f k) n = c * su f n := by
  induction n with
  | zero => exact (Rat.mul_zero c).symm
  | succ n ih =>
    unfold su
    rw [ih]
    grind
theorem su_nil (h : ∀ k : Int, 0 ≤ k → k < n → f k = 0) : su f n = 0 := by
  induction n with
  | zero => rfl
  | succ n ih =>
    unfold su
    rw [ih fun k h0 h1 => h k h0 (by omega), h n (by omega) (by omega)]
    exact Rat.add_zero 0
theorem su_nonneg (h : ∀ k : Int, 0 ≤ k → k < n → 0 ≤ f k) : 0 ≤ su f n := by
  induction n with
  | zero => exact Rat.le_refl
  | succ n ih =>
    unfold su
    exact Rat.add_nonneg (ih fun k h0 h1 => h k h0 (by omega)) (h n (by omega) (by omega))
/-- one place apart -/
theorem su_split (o : Int) (h0 : 0 ≤ o) (h1 : o < n) : su f n = f o + su (fun k => if k = o then 0 else f k) n := by
  induction n with
  | zero => omega
  | succ n ih =>
    unfold su
    by_cases e : o = n
    · subst e
      rw [if_pos rfl, su_congr (f := fun k => if k = (n : Int) then 0 else f k) (g := f) (n := n) fun k h0 h1 => if_neg (by omega)]
      grind
    · rw [ih (by omega), if_neg (fun z => e z.symm)]
      grind
theorem su_term (h : ∀ k : Int, 0 ≤ k → k < n → 0 ≤ f k) {o : Int} (h0 : 0 ≤ o) (h1 : o < n) : f o ≤ su f n := by
  rw [su_split o h0 h1]
  have : 0 ≤ su (fun k => if k = o then 0 else f k) n := su_nonneg fun k a b => by
    split
    · exact Rat.le_refl
    · exact h k a b
  grind
theorem su_split2 (o j : Int) (h0 : 0 ≤ o) (h1 : o < n) (h2 : 0 ≤ j) (h3 : j < n) (h : j ≠ o) : su f n = f o + f j + su (fun k => if k = o ∨ k = j then 0 else f k) n := by
  rw [su_split o h0 h1, su_split (f := fun k => if k = o then 0 else f k) j h2 h3, if_neg h, Rat.add_assoc]
  congr 2
  refine su_congr fun k _ _ => ?_
  by_cases e : k = j
  · rw [if_pos e, if_pos (.inr e)]
  · rw [if_neg e]
    by_cases e2 : k = o
    · rw [if_pos e2, if_pos (.inl e2)]
    · rw [if_neg e2, if_neg (by omega)]
end
/-- the weights when o is taken out -/
def tw (L : Int → Rat) (A : Int → Int → Rat) (o : Int) : Int → Rat := fun k => if k = o then 0 else L k + L o * A o k
/-- the web when o is taken out -/
def ta (A : Int → Int → Rat) (o : Int) : Int → Int → Rat := fun j k => if j = o ∨ k = o ∨ j = k then 0 else stp (A j k) (A j o) (A o k) (A o j)
/-- a row of parts of 1, its common denominator below 2 ^ B -/
structure Rw (B n : Nat) (f : Int → Rat) : Prop where
  pos : ∀ k : Int, 0 ≤ k → k < n → 0 ≤ f k
  sum : su f n ≤ 1
  den : ∃ D : Nat, 0 < D ∧ D < 2 ^ B ∧ ∀ k : Int, 0 ≤ k → k < n → ∃ z : Int, f k * (D : Rat) = (z : Rat)
structure Wb (B n : Nat) (L : Int → Rat) (A : Int → Int → Rat) : Prop where
  w : Rw B n L
  a : ∀ j : Int, 0 ≤ j → j < n → Rw B n (A j)
  nil : ∀ j : Int, 0 ≤ j → j < n → A j j = 0
section
variable {B n : Nat} {L f : Int → Rat} {A : Int → Int → Rat} {o j k : Int}
theorem Rw.le (h : Rw B n f) (h0 : 0 ≤ k) (h1 : k < n) : f k ≤ 1 := Rat.le_trans (su_term h.pos h0 h1) h.sum
theorem Rw.rz (h : Rw B n f) (h0 : 0 ≤ k) (h1 : k < n) : LV.Rz B (f k) := by
  obtain ⟨D, d0, d1, d2⟩ := h.den
  obtain ⟨z, hz⟩ := d2 k h0 h1
  exact LV.rz_unit D d0 d1 (h.pos k h0 h1) (h.le h0 h1) z hz
theorem rw_nil (hB : 1 ≤ B) (h : ∀ k : Int, 0 ≤ k → k < n → f k = 0) : Rw B n f := ⟨fun k a b => by rw [h k a b]; exact Rat.le_refl, by rw [su_nil h]; decide, 1, by decide, Nat.one_lt_two_pow (by omega), fun k a b => ⟨0, by rw [h k a b, Rat.zero_mul]; rfl⟩⟩
theorem mul_lt_pow {a b B C : Nat} (h1 : a < 2 ^ B) (h2 : b < 2 ^ C) : a * b < 2 ^ (B + C) := by
  rw [Nat.pow_add]
  exact Nat.mul_lt_mul'' h1 h2
theorem Rw.tw (hL : Rw B n L) (hA : Rw B n (A o)) (hn : A o o = 0) (h0 : 0 ≤ o) (h1 : o < n) : Rw (B + B) n (tw L A o) := by
  refine ⟨fun k a b => ?_, ?_, ?_⟩
  · unfold SP.tw
    split
    · exact Rat.le_refl
    · exact Rat.add_nonneg (hL.pos k a b) (Rat.mul_nonneg (hL.pos o h0 h1) (hA.pos k a b))
  · have e : su (SP.tw L A o) n = su (fun k => (if k = o then 0 else L k) + L o * (if k = o then 0 else A o k)) n := su_congr fun k _ _ => by
      unfold SP.tw
      split
      · grind
      · rfl
    have s1 := hL.sum
    have s2 := hA.sum
    rw [su_split o h0 h1] at s1 s2
    rw [hn, Rat.zero_add] at s2
    rw [e, su_add, su_mul]
    have := Rat.mul_le_mul_of_nonneg_left s2 (hL.pos o h0 h1)
    grind
  · obtain ⟨D, d0, d1, d2⟩ := hL.den
    obtain ⟨E, e0, e1, e2⟩ := hA.den
    refine ⟨D * E, Nat.mul_pos d0 e0, mul_lt_pow d1 e1, fun k a b => ?_⟩
    obtain ⟨x, hx⟩ := d2 k a b
    obtain ⟨y, hy⟩ := d2 o h0 h1
    obtain ⟨z, hz⟩ := e2 k a b
    unfold SP.tw
    by_cases c : k = o
    · rw [if_pos c]
      exact ⟨0, by grind⟩
    · rw [if_neg c]
      refine ⟨x * E + y * z, ?_⟩
      rw [Rat.intCast_add, Rat.intCast_mul, Rat.intCast_mul, ← hx, ← hy, ← hz, Rat.intCast_natCast, Rat.natCast_mul]
      grind
theorem stp_def (jk jo ok oj : Rat) (h : jo * oj ≠ 1) : stp jk jo ok oj = (jk + jo * ok) / (1 - jo * oj) := by
  unfold stp
  rw [if_neg h]
theorem Wb.back (h : Wb B n L A) (h0 : 0 ≤ o) (h1 : o < n) (j0 : 0 ≤ j) (j1 : j < n) : 0 ≤ A j o * A o j ∧ A j o * A o j ≤ 1 := by
  have a := (h.a j j0 j1).pos o h0 h1
  have b := (h.a o h0 h1).pos j j0 j1
  have c := (h.a j j0 j1).le h0 h1
  have d := (h.a o h0 h1).le j0 j1
  have := Rat.mul_le_mul_of_nonneg_right c b
  exact ⟨Rat.mul_nonneg a b, by grind⟩
theorem Wb.row (h : Wb B n L A) (hB : 1 ≤ B) (h0 : 0 ≤ o) (h1 : o < n) (j0 : 0 ≤ j) (j1 : j < n) : Rw (B + B) n (ta A o j) := by
  by_cases e : j = o
  · exact rw_nil (by omega) fun k _ _ => by unfold ta; rw [if_pos (.inl e)]
  by_cases b : A j o * A o j = 1
  · exact rw_nil (by omega) fun k _ _ => by
      unfold ta
      split
      · rfl
      · unfold stp
        rw [if_pos b]
  have hj := h.a j j0 j1
  have ho := h.a o h0 h1
  obtain ⟨b0, b1⟩ := h.back h0 h1 j0 j1
  have c0 : 0 < 1 - A j o * A o j := by grind
  refine ⟨fun k a b => ?_, ?_, ?_⟩
  · unfold ta
    split
    · exact Rat.le_refl
    · exact LV.stp_nonneg (hj.pos k a b) (hj.pos o h0 h1) (ho.pos k a b) (ho.pos j j0 j1) (hj.le h0 h1) (ho.le j0 j1)
  · have e1 : su (ta A o j) n = su (fun k => (1 - A j o * A o j)⁻¹ * ((if k = o ∨ k = j then 0 else A j k) + A j o * (if k = o ∨ k = j then 0 else A o k))) n := su_congr fun k _ _ => by
      unfold ta
      by_cases c : k = o ∨ k = j
      · rw [if_pos (by omega), if_pos c, if_pos c]
        grind
      · rw [if_neg (by omega), if_neg c, if_neg c, stp_def _ _ _ _ b, Rat.div_def, Rat.mul_comm]
    rw [e1, su_mul, su_add, su_mul, Rat.mul_comm, ← Rat.div_def]
    refine LV.div_le c0 ?_
    have s1 := hj.sum
    have s2 := ho.sum
    rw [su_split2 o j h0 h1 j0 j1 e] at s1 s2
    rw [h.nil j j0 j1] at s1
    rw [h.nil o h0 h1] at s2
    have s3 := Rat.mul_le_mul_of_nonneg_left (show su (fun k => if k = o ∨ k = j then 0 else A o k) n ≤ 1 - A o j by grind) (hj.pos o h0 h1)
    grind
  · obtain ⟨D, d0, d1, d2⟩ := hj.den
    obtain ⟨E, e0, e1, e2⟩ := ho.den
    obtain ⟨u, hu⟩ := d2 o h0 h1
    obtain ⟨v, hv⟩ := e2 j j0 j1
    have hD : (0 : Rat) < (D : Rat) := by exact_mod_cast d0
    have hE : (0 : Rat) < (E : Rat) := by exact_mod_cast e0
    have ec : ((((D * E : Nat) : Int) - u * v : Int) : Rat) = (1 - A j o * A o j) * (D * E) := by
      rw [Rat.intCast_sub, Rat.intCast_mul, ← hu, ← hv, Rat.intCast_natCast, Rat.natCast_mul]
      grind
    have m0 : 0 < ((D * E : Nat) : Int) - u * v := by
      have : (0 : Rat) < ((((D * E : Nat) : Int) - u * v : Int) : Rat) := by
        rw [ec]
        exact Rat.mul_pos c0 (Rat.mul_pos hD hE)
      exact_mod_cast this
    have uv : 0 ≤ u * v := by
      have : (0 : Rat) ≤ ((u * v : Int) : Rat) := by
        rw [Rat.intCast_mul, ← hu, ← hv]
        exact Rat.mul_nonneg (Rat.mul_nonneg (hj.pos o h0 h1) (Rat.le_of_lt hD)) (Rat.mul_nonneg (ho.pos j j0 j1) (Rat.le_of_lt hE))
      exact_mod_cast this
    have hlt := mul_lt_pow d1 e1
    refine ⟨(((D * E : Nat) : Int) - u * v).toNat, by omega, by omega, fun k a b => ?_⟩
    obtain ⟨x, hx⟩ := d2 k a b
    obtain ⟨y, hy⟩ := e2 k a b
    have em : (((((D * E : Nat) : Int) - u * v).toNat : Nat) : Rat) = (1 - A j o * A o j) * (D * E) := by
      rw [← ec, ← Rat.intCast_natCast, Int.toNat_of_nonneg (by omega)]
    rw [em]
    unfold ta
    split
    · exact ⟨0, by grind⟩
    · rw [stp_def _ _ _ _ (by assumption)]
      refine ⟨x * E + u * y, ?_⟩
      rw [Rat.intCast_add, Rat.intCast_mul, Rat.intCast_mul, ← hx, ← hy, ← hu, Rat.intCast_natCast]
      generalize hc : 1 - A j o * A o j = c at *
      have : c ≠ 0 := by grind
      grind
theorem Wb.step (h : Wb B n L A) (hB : 1 ≤ B) (h0 : 0 ≤ o) (h1 : o < n) : Wb (B + B) n (SP.tw L A o) (ta A o) :=
  ⟨h.w.tw (h.a o h0 h1) (h.nil o h0 h1) h0 h1, fun j j0 j1 => h.row hB h0 h1 j0 j1, fun j _ _ => by unfold ta; rw [if_pos (.inr (.inr rfl))]⟩
theorem stp_nul (jo oj : Rat) : stp 0 jo 0 oj = 0 := by
  unfold stp
  split
  · rfl
  · grind
/-- a and then b is b and then a -/
theorem tw_comm (h : Wb B n L A) {a b : Int} (a0 : 0 ≤ a) (a1 : a < n) (b0 : 0 ≤ b) (b1 : b < n) (hab : a ≠ b) (k0 : 0 ≤ k) (k1 : k < n) : SP.tw (SP.tw L A a) (ta A a) b k = SP.tw (SP.tw L A b) (ta A b) a k := by
  unfold SP.tw ta
  by_cases ka : k = a
  · subst ka
    rw [if_neg hab, if_pos rfl, if_neg (fun z => hab z.symm), if_pos (.inr (.inl rfl)), if_pos rfl]
    grind
  by_cases kb : k = b
  · subst kb
    rw [if_pos rfl, if_neg ka, if_pos rfl, if_neg (fun z => ka z.symm), if_pos (.inr (.inl rfl))]
    grind
  have hA := h.a a a0 a1
  have hB := h.a b b0 b1
  have sa : A a k + A a b ≤ 1 := by
    have s1 := hA.sum
    rw [su_split2 k b k0 k1 b0 b1 (fun z => kb z.symm)] at s1
    have : 0 ≤ su (fun i => if i = k ∨ i = b then 0 else A a i) n := su_nonneg fun i x y => by
      split
      · exact Rat.le_refl
      · exact hA.pos i x y
    grind
  have sb : A b k + A b a ≤ 1 := by
    have s1 := hB.sum
    rw [su_split2 k a k0 k1 a0 a1 (fun z => ka z.symm)] at s1
    have : 0 ≤ su (fun i => if i = k ∨ i = a then 0 else A b i) n := su_nonneg fun i x y => by
      split
      · exact Rat.le_refl
      · exact hB.pos i x y
    grind
  rw [if_neg kb, if_neg ka, if_neg (fun z => hab z.symm), if_neg (by omega), if_neg ka, if_neg kb, if_neg hab, if_neg (by omega)]
  exact LV.wt_comm (hA.pos k k0 k1) (hA.pos b b0 b1) (hB.pos k k0 k1) (hB.pos a a0 a1) sa sb
theorem ta_comm (h : Wb B n L A) {a b : Int} (a0 : 0 ≤ a) (a1 : a < n) (b0 : 0 ≤ b) (b1 : b < n) (hab : a ≠ b) (j0 : 0 ≤ j) (j1 : j < n) (k0 : 0 ≤ k) (k1 : k < n) : ta (ta A a) b j k = ta (ta A b) a j k := by
  by_cases c : j = a ∨ k = a ∨ j = b ∨ k = b ∨ j = k
  · have z : ∀ x y : Int, (j = x ∨ k = x ∨ j = y ∨ k = y ∨ j = k) → x ≠ y → ta (ta A x) y j k = 0 := fun x y c hxy => by
      unfold ta
      by_cases c2 : j = y ∨ k = y ∨ j = k
      · rw [if_pos c2]
      · rw [if_neg c2]
        have c3 : j = x ∨ k = x := by omega
        rcases c3 with rfl | rfl
        · rw [if_pos (.inl rfl), if_pos (.inl rfl)]
          exact LV.stp_zero _ _
        · rw [if_pos (show j = k ∨ k = k ∨ j = k from .inr (.inl rfl)), if_pos (show y = k ∨ k = k ∨ y = k from .inr (.inl rfl))]
          exact stp_nul _ _
    rw [z a b (by omega) hab, z b a (by omega) (fun e => hab e.symm)]
  · have hA := h.a a a0 a1
    have hB := h.a b b0 b1
    have hJ := h.a j j0 j1
    have three : ∀ (f : Int → Rat) (x y z : Int), Rw B n f → 0 ≤ x → x < n → 0 ≤ y → y < n → 0 ≤ z → z < n → x ≠ y → y ≠ z → x ≠ z → f x + f y + f z ≤ 1 := fun f x y z hf x0 x1 y0 y1 z0 z1 xy yz xz => by
      have s1 := hf.sum
      rw [su_split2 x y x0 x1 y0 y1 (fun e => xy e.symm), su_split (f := fun i => if i = x ∨ i = y then 0 else f i) z z0 z1, if_neg (by omega)] at s1
      have : 0 ≤ su (fun i => if i = z then 0 else if i = x ∨ i = y then 0 else f i) n := su_nonneg fun i a b => by
        split
        · exact Rat.le_refl
        · split
          · exact Rat.le_refl
          · exact hf.pos i a b
      grind
    unfold ta
    simp only [show ¬ (j = b ∨ k = b ∨ j = k) by omega, show ¬ (j = a ∨ k = a ∨ j = k) by omega, show ¬ (j = a ∨ b = a ∨ j = b) by omega, show ¬ (b = a ∨ k = a ∨ b = k) by omega, show ¬ (b = a ∨ j = a ∨ b = j) by omega, show ¬ (j = b ∨ a = b ∨ j = a) by omega, show ¬ (a = b ∨ k = b ∨ a = k) by omega, show ¬ (a = b ∨ j = b ∨ a = j) by omega, if_false]
    exact LV.stp_comm (hJ.pos k k0 k1) (hJ.pos a a0 a1) (hJ.pos b b0 b1) (hA.pos j j0 j1) (hA.pos k k0 k1) (hA.pos b b0 b1) (hB.pos j j0 j1) (hB.pos a a0 a1) (hB.pos k k0 k1)
      (three _ k a b hJ k0 k1 a0 a1 b0 b1 (by omega) hab (by omega)) (three _ j k b hA j0 j1 k0 k1 b0 b1 (by omega) (by omega) (by omega)) (three _ j a k hB j0 j1 a0 a1 k0 k1 (by omega) (by omega) (by omega))
end
end SP

set_option exponentiation.threshold 20000
/-! Webs: the models. -/
namespace SP
open PySem PySem.Spec L2 DL PF MD MP ML LV
open LV (encR IsR isR Rz)
open PyProof.Rows hiding St
def RdR (n : Nat) (xs : List Rat) (f : Int → Rat) : Prop := xs.length = n ∧ ∀ k : Int, 0 ≤ k → k < n → ixI xs k = f k
def RdK (n : Nat) (xs : List KR) (f : Int → Rat) : Prop := xs.length = n ∧ ∀ k : Int, 0 ≤ k → k < n → (ixI xs k).q = f k
def RdRR (n : Nat) (xs : List (List Rat)) (A : Int → Int → Rat) : Prop := xs.length = n ∧ ∀ j : Int, 0 ≤ j → j < n → RdR n (ixI xs j) (A j)
def RdKK (n : Nat) (xs : List (List KR)) (A : Int → Int → Rat) : Prop := xs.length = n ∧ ∀ j : Int, 0 ≤ j → j < n → RdK n (ixI xs j) (A j)
section
variable {B n : Nat} {L f : Int → Rat} {A : Int → Int → Rat} {o j k : Int} {Lk : List KR} {Ak : List (List KR)} {Lr : List Rat} {Ar : List (List Rat)}
theorem upto_succ (n : Nat) : upto (n + 1) = upto n ++ [(n : Int)] := by
  unfold upto
  rw [List.range_succ, List.map_append]
  rfl
theorem ixI_upto {α : Type} [Inhabited α] (g : Int → α) (h0 : 0 ≤ k) (h1 : k < n) : ixI ((upto n).map g) k = g k := by
  obtain ⟨j, rfl⟩ : ∃ j : Nat, k = j := ⟨k.toNat, by omega⟩
  refine getI ?_
  have hj : j < n := by omega
  simp [upto, hj]
theorem ixI_enum {α β : Type} [Inhabited α] [Inhabited β] (g : Int × α → β) {xs : List α} (hl : xs.length = n) (h0 : 0 ≤ k) (h1 : k < n) : ixI ((enumI xs).map g) k = g (k, ixI xs k) := by
  rw [enumI_upto, List.map_map, hl]
  exact ixI_upto _ h0 h1
theorem mem_enum {α : Type} [Inhabited α] {xs : List α} (hl : xs.length = n) {x : Int × α} (h : x ∈ enumI xs) : (0 ≤ x.1 ∧ x.1 < n) ∧ x.2 = ixI xs x.1 := by
  rw [enumI_upto, hl, List.mem_map] at h
  obtain ⟨i, hi, rfl⟩ := h
  exact ⟨mem_upto.mp hi, rfl⟩
theorem ixI_rep {α : Type} [Inhabited α] (x : α) (h0 : 0 ≤ k) (h1 : k < n) : ixI (List.replicate n x) k = x := by
  obtain ⟨j, rfl⟩ : ∃ j : Nat, k = j := ⟨k.toNat, by omega⟩
  refine getI ?_
  have hj : j < n := by omega
  simp [hj]
theorem RdR.kr (h : RdR n Lr f) : RdK n (kr Lr) f := ⟨by rw [List.length_map]; exact h.1, fun k h0 h1 => by rw [ixI_kr]; exact h.2 k h0 h1⟩
theorem RdRR.kr (h : RdRR n Ar A) : RdKK n (List.map (List.map KR.r) Ar) A := ⟨by rw [List.length_map]; exact h.1, fun j h0 h1 => by
  rw [ixI_mapE (f := List.map KR.r) rfl]
  exact (h.2 j h0 h1).kr⟩
theorem Wb.mono {C : Nat} (h : Wb B n L A) (hc : B ≤ C) : Wb C n L A := by
  have m : ∀ {f : Int → Rat}, Rw B n f → Rw C n f := fun h => ⟨h.pos, h.sum, by
    obtain ⟨D, a, b, c⟩ := h.den
    exact ⟨D, a, Nat.lt_of_lt_of_le b (Nat.pow_le_pow_right (by decide) hc), c⟩⟩
  exact ⟨m h.w, fun j a b => m (h.a j a b), h.nil⟩
theorem lt_one_num {q : Rat} (h : q < 1) : q.num < (q.den : Nat) := by
  have := (Rat.lt_iff q 1).mp h
  simpa using this
theorem rest_eq {q : Rat} : Rat.divInt (((q.den : Nat) : Int) - q.num) ((q.den : Nat) : Int) = 1 - q := by
  have hd : ((q.den : Nat) : Int) ≠ 0 := by
    have := q.den_nz
    omega
  have e : (1 : Rat) - q = Rat.divInt ((q.den : Nat) : Int) ((q.den : Nat) : Int) - Rat.divInt q.num ((q.den : Nat) : Int) := by
    rw [Rat.num_divInt_den, Rat.divInt_self' hd]
  rw [e, Rat.divInt_eq_div, Rat.divInt_eq_div, Rat.divInt_eq_div, Rat.intCast_sub, Rat.div_def, Rat.div_def, Rat.div_def]
  grind
theorem row_without_sp (hA : RdKK n Ak A) (h : Wb B n L A) (hB : B ≤ 900) (h1 : 1 ≤ n) (h9 : n ≤ 900) (o0 : 0 ≤ o) (o1 : o < n) (j0 : 0 ≤ j) (j1 : j < n) : S_row_without Ak o j ∧ RdK n (M_row_without Ak o j) (ta A o j) := by
  obtain ⟨al, ae⟩ := hA
  have rj := ae j j0 j1
  have ro := ae o o0 o1
  have hj := h.a j j0 j1
  have ho := h.a o o0 o1
  have eb : M_row_without_back1 Ak o j = A j o * A o j := by
    show (ixI (ixI Ak j) o).q * (ixI (ixI Ak o) j).q = _
    rw [rj.2 o o0 o1, ro.2 j j0 j1]
  obtain ⟨b0, b1⟩ := h.back o0 o1 j0 j1
  have rb : Rz (B + B) (A j o * A o j) := rz_mul (hj.rz o0 o1) (ho.rz j0 j1)
  have bl : (Ak.length : Int) = (n : Int) := by rw [al]
  refine ⟨⟨by omega, by omega, ?_, ?_, ?_, fun _ => by omega, fun _ => ?_, fun _ x hx _ => ?_, fun _ x hx _ => ?_, fun _ x hx _ => ?_, fun _ x hx _ => ?_, fun hc x hx _ => ?_⟩, ?_⟩
  · show 0 ≤ o ∧ o < ((ixI Ak j).length : Int)
    rw [rj.1]
    omega
  · show 0 ≤ j ∧ j < ((ixI Ak o).length : Int)
    rw [ro.1]
    omega
  · show Rs (ixI (ixI Ak j) o).q (ixI (ixI Ak o) j).q
    rw [rj.2 o o0 o1, ro.2 j j0 j1]
    exact rs (hj.rz o0 o1) (ho.rz j0 j1) (by omega)
  · show (enumI (ixI Ak j)).length ≤ sizeLine
    rw [enumI_length, rj.1]
    exact szl (by omega)
  · show 0 ≤ o ∧ o < ((ixI Ak j).length : Int)
    rw [rj.1]
    omega
  · obtain ⟨hx1, hx2⟩ := mem_enum rj.1 hx
    show 0 ≤ x.1 ∧ x.1 < ((ixI Ak o).length : Int)
    rw [ro.1]
    omega
  · obtain ⟨hx1, hx2⟩ := mem_enum rj.1 hx
    show Rs (ixI (ixI Ak j) o).q (ixI (ixI Ak o) x.1).q
    rw [rj.2 o o0 o1, ro.2 x.1 hx1.1 hx1.2]
    exact rs (hj.rz o0 o1) (ho.rz hx1.1 hx1.2) (by omega)
  · obtain ⟨hx1, hx2⟩ := mem_enum rj.1 hx
    show Rs x.2.q ((ixI (ixI Ak j) o).q * (ixI (ixI Ak o) x.1).q)
    rw [hx2]
    show Rs (ixI (ixI Ak j) x.1).q _
    rw [rj.2 x.1 hx1.1 hx1.2, rj.2 o o0 o1, ro.2 x.1 hx1.1 hx1.2]
    exact rs (hj.rz hx1.1 hx1.2) (rz_mul (hj.rz o0 o1) (ho.rz hx1.1 hx1.2)) (by omega)
  · obtain ⟨hx1, hx2⟩ := mem_enum rj.1 hx
    have hb : A j o * A o j < 1 := by
      rw [eb] at hc
      have hc2 := (Bool.or_eq_false_iff.mp hc).2
      have hc3 : ¬ (A j o * A o j = 1) := of_decide_eq_false hc2
      grind
    have en := lt_one_num hb
    have e0 : 0 ≤ (A j o * A o j).num := Rat.num_nonneg.mpr b0
    have e1 : M_row_without_rest1 Ak o j = ((((A j o * A o j).den : Nat) : Int) - (A j o * A o j).num, (((A j o * A o j).den : Nat) : Int)) := by
      unfold M_row_without_rest1
      rw [eb]
    have rd := rb.2
    have pw : (2 : Nat) ^ (B + B) ≤ 2 ^ 4000 := Nat.pow_le_pow_right (by decide) (by omega)
    rw [e1]
    refine ⟨⟨by omega, by show _ < _; simp only; omega, by show _ < _; simp only; omega, ?_⟩, by simp only; omega⟩
    show Rz 4000 (x.2.q + ((ixI (ixI Ak j) o).q * (ixI (ixI Ak o) x.1).q))
    rw [hx2]
    show Rz 4000 ((ixI (ixI Ak j) x.1).q + _)
    rw [rj.2 x.1 hx1.1 hx1.2, rj.2 o o0 o1, ro.2 x.1 hx1.1 hx1.2]
    exact (rz_add (hj.rz hx1.1 hx1.2) (rz_mul (hj.rz o0 o1) (ho.rz hx1.1 hx1.2))).mono (by omega)
  · unfold M_row_without M_row_without_r1
    rw [eb]
    cases hc : ((decide (j = o)) || (decide ((KR.r (A j o * A o j)).q = kOne.q))) with
    | true =>
      refine ⟨by rw [cond_true, List.length_replicate, al]; omega, fun k k0 k1 => ?_⟩
      have en : (Ak.length : Int).toNat = n := by omega
      rw [cond_true, en, ixI_rep _ k0 k1]
      rcases Bool.or_eq_true_iff.mp hc with e | e
      · have e2 := of_decide_eq_true e
        unfold ta
        rw [if_pos (.inl e2)]
      · have e2 : A j o * A o j = 1 := of_decide_eq_true e
        unfold ta
        split
        · rfl
        · unfold stp
          rw [if_pos e2]
    | false =>
      obtain ⟨h3, h4⟩ := Bool.or_eq_false_iff.mp hc
      have h3 : ¬ j = o := of_decide_eq_false h3
      have h4 : ¬ (A j o * A o j = 1) := of_decide_eq_false h4
      have e1 : M_row_without_rest1 Ak o j = ((((A j o * A o j).den : Nat) : Int) - (A j o * A o j).num, (((A j o * A o j).den : Nat) : Int)) := by
        unfold M_row_without_rest1
        rw [eb]
      refine ⟨by rw [cond_false, List.length_map, enumI_length]; exact rj.1, fun k k0 k1 => ?_⟩
      rw [cond_false]
      refine (congrArg KR.q (ixI_enum _ (show (M_row_without_z1 Ak o j).1.length = n from rj.1) k0 k1)).trans ?_
      rw [e1]
      show (bif (decide (k = o) || decide (k = j)) then kNil else KR.r (((ixI (ixI Ak j) k).q + (ixI (ixI Ak j) o).q * (ixI (ixI Ak o) k).q) / Rat.divInt ((((A j o * A o j).den : Nat) : Int) - (A j o * A o j).num) (((A j o * A o j).den : Nat) : Int))).q = _
      rw [rj.2 k k0 k1, rj.2 o o0 o1, ro.2 k k0 k1, rest_eq]
      unfold ta
      by_cases c1 : k = o
      · rw [decide_eq_true c1, if_pos (.inr (.inl c1))]
        rfl
      by_cases c2 : k = j
      · rw [decide_eq_true c2, Bool.or_true, if_pos (.inr (.inr c2.symm))]
        rfl
      rw [decide_eq_false c1, decide_eq_false c2, if_neg (by omega), stp_def _ _ _ _ h4]
      rfl
theorem without_sp (hL : RdK n Lk L) (hA : RdKK n Ak A) (h : Wb B n L A) (hB : B ≤ 900) (h9 : n ≤ 900) (o0 : 0 ≤ o) (o1 : o < n) : S_without Lk Ak o ∧ RdK n (M_without Lk Ak o).1 (SP.tw L A o) ∧ RdKK n (M_without Lk Ak o).2 (ta A o) := by
  obtain ⟨ll, le⟩ := hL
  have al := hA.1
  have ro := hA.2 o o0 o1
  have ho := h.a o o0 o1
  have en : (Ak.length : Int).toNat = n := by omega
  refine ⟨⟨by omega, by rw [enumI_length, ll]; exact szl (by omega), fun x hx _ => by omega, fun x hx _ => ?_, fun x hx _ => ?_, fun x hx _ => ?_, small_of (by omega) (by omega), by rw [en, upto_length]; exact szl (by omega), fun x hx => ?_⟩, ⟨?_, fun k k0 k1 => ?_⟩, ?_, fun k k0 k1 => ?_⟩
  · obtain ⟨hx1, hx2⟩ := mem_enum ll hx
    show 0 ≤ x.1 ∧ x.1 < ((ixI Ak o).length : Int)
    rw [ro.1]
    omega
  · obtain ⟨hx1, hx2⟩ := mem_enum ll hx
    show Rs (ixI Lk o).q (ixI (ixI Ak o) x.1).q
    rw [le o o0 o1, ro.2 x.1 hx1.1 hx1.2]
    exact rs (h.w.rz o0 o1) (ho.rz hx1.1 hx1.2) (by omega)
  · obtain ⟨hx1, hx2⟩ := mem_enum ll hx
    show Rs x.2.q ((ixI Lk o).q * (ixI (ixI Ak o) x.1).q)
    rw [hx2, le _ hx1.1 hx1.2, le o o0 o1, ro.2 x.1 hx1.1 hx1.2]
    exact rs (h.w.rz hx1.1 hx1.2) (rz_mul (h.w.rz o0 o1) (ho.rz hx1.1 hx1.2)) (by omega)
  · rw [en] at hx
    obtain ⟨x0, x1⟩ := mem_upto.mp hx
    exact (row_without_sp hA h hB (by omega) h9 o0 o1 x0 x1).1
  · show (List.map _ (enumI Lk)).length = n
    rw [List.length_map, enumI_length, ll]
  · refine (congrArg KR.q (ixI_enum _ ll k0 k1)).trans ?_
    show (bif decide (k = o) then kNil else KR.r ((ixI Lk k).q + (ixI Lk o).q * (ixI (ixI Ak o) k).q)).q = _
    rw [le k k0 k1, le o o0 o1, ro.2 k k0 k1]
    unfold SP.tw
    by_cases c : k = o
    · rw [decide_eq_true c, if_pos c]
      rfl
    · rw [decide_eq_false c, if_neg c]
      rfl
  · show (List.map _ (upto (Int.toNat (Ak.length : Int)))).length = n
    rw [List.length_map, en, upto_length]
  · show RdK n (ixI (List.map (fun (x3 : Int) => M_row_without Ak o x3) (upto (Int.toNat (Ak.length : Int)))) k) _
    rw [en, ixI_upto _ k0 k1]
    exact (row_without_sp hA h hB (by omega) h9 o0 o1 k0 k1).2
/-! ### one behind the other -/
/-- a state: weights and web -/
abbrev Wx := (Int → Rat) × (Int → Int → Rat)
def t1 (p : Wx) (o : Int) : Wx := (SP.tw p.1 p.2 o, ta p.2 o)
def tws (p : Wx) (os : IS) : Wx := os.foldl t1 p
structure Ws (B n : Nat) (s : List KR × List (List KR)) (p : Wx) : Prop where
  l : RdK n s.1 p.1
  a : RdKK n s.2 p.2
  wb : Wb B n p.1 p.2
theorem Ws.step {s : List KR × List (List KR)} {p : Wx} (h : Ws B n s p) (h1 : 1 ≤ B) (hB : B ≤ 900) (h9 : n ≤ 900) (o0 : 0 ≤ o) (o1 : o < n) : S_without s.1 s.2 o ∧ Ws (B + B) n (M_without s.1 s.2 o) (t1 p o) := by
  obtain ⟨a, b, c⟩ := without_sp h.l h.a h.wb hB h9 o0 o1
  exact ⟨a, b, c, h.wb.step h1 o0 o1⟩
theorem tws_app (p : Wx) (os : IS) (o : Int) : tws p (os ++ [o]) = t1 (tws p os) o := by
  unfold tws
  rw [List.foldl_append]
  rfl
/-! ### the law's steps -/
theorem taken_sp (hL : RdR n Lr L) (hA : RdRR n Ar A) (h : Wb B n L A) (hB : B ≤ 900) (h9 : n ≤ 900) (o0 : 0 ≤ o) (o1 : o < n) : S_law_taken Lr Ar o ∧ RdR n (M_law_taken Lr Ar o).1 (SP.tw L A o) ∧ RdRR n (M_law_taken Lr Ar o).2 (ta A o) := by
  obtain ⟨ll, le⟩ := hL
  have al := hA.1
  have ro := hA.2 o o0 o1
  have ho := h.a o o0 o1
  have en : (Lr.length : Int).toNat = n := by omega
  have el : (M_law_taken_rest1 Lr Ar o).length = n := by
    unfold M_law_taken_rest1
    rw [List.length_map, enumI_length, ll]
  have line : ∀ (j : Int) (s3 : List (List Rat)), 0 ≤ j → j < n → SafeL (M_law_taken_step2 Lr Ar o j s3) (S_law_taken_l2 Lr Ar o j s3) (upto n) [] ∧ foldS (M_law_taken_step2 Lr Ar o j s3) (upto n) [] = (upto n).map (ta A o j) := fun j s3 j0 j1 => by
    have rj := hA.2 j j0 j1
    have hj := h.a j j0 j1
    have eb : M_law_taken_back1 Lr Ar o j s3 = A j o * A o j := by
      show ixI (ixI Ar j) o * ixI (ixI Ar o) j = _
      rw [rj.2 o o0 o1, ro.2 j j0 j1]
    obtain ⟨b0, b1⟩ := h.back o0 o1 j0 j1
    have rb : Rz (B + B) (A j o * A o j) := rz_mul (hj.rz o0 o1) (ho.rz j0 j1)
    have key := foldL_sp (step := M_law_taken_step2 Lr Ar o j s3) (S := S_law_taken_l2 Lr Ar o j s3) (fun m v => m ≤ n ∧ v = (upto m).map (ta A o j)) (ys := upto n) (s := []) ⟨by omega, rfl⟩ (fun x v m hx hi => by
      obtain ⟨rfl, hm⟩ := upto_get hx
      obtain ⟨_, rfl⟩ := hi
      have k0 : (0 : Int) ≤ (m : Int) := by omega
      have k1 : (m : Int) < n := by omega
      have cond : ((decide (o ∈ [j, (m : Int)])) || ((decide (j = (m : Int))) || (decide ((M_law_taken_back1 Lr Ar o j s3) = (1 : Rat))))) = decide (o = j ∨ o = (m : Int) ∨ j = (m : Int) ∨ A j o * A o j = 1) := by
        rw [eb]
        simp only [List.mem_cons, List.not_mem_nil, or_false, Bool.decide_or, Bool.or_assoc]
      have rw1 : Rz (B + (B + B) + 1) (A j (m : Int) + A j o * A o (m : Int)) := rz_add (hj.rz k0 k1) (rz_mul (hj.rz o0 o1) (ho.rz k0 k1))
      have ew : M_law_taken_way1 Lr Ar o j s3 (m : Int) ((upto m).map (ta A o j)) = A j (m : Int) + A j o * A o (m : Int) := by
        show ixI (ixI Ar j) (m : Int) + ixI (ixI Ar j) o * ixI (ixI Ar o) (m : Int) = _
        rw [rj.2 _ k0 k1, rj.2 o o0 o1, ro.2 _ k0 k1]
      have rone : Rz 2 (1 : Rat) := ⟨by decide, by decide⟩
      refine ⟨⟨fun _ => szlt (by rw [List.length_map, upto_length]; omega), fun _ => by omega, fun _ => by rw [rj.1]; omega, fun _ => by rw [rj.1]; omega, fun _ => by omega, fun _ => by rw [ro.1]; omega, fun _ => ?_, fun _ => ?_, fun _ => ?_, fun hc => ?_, fun _ => szlt (by rw [List.length_map, upto_length]; omega)⟩, by omega, ?_⟩
      · rw [rj.2 o o0 o1, ro.2 _ k0 k1]
        exact rs (hj.rz o0 o1) (ho.rz k0 k1) (by omega)
      · rw [rj.2 _ k0 k1, rj.2 o o0 o1, ro.2 _ k0 k1]
        exact rs (hj.rz k0 k1) (rz_mul (hj.rz o0 o1) (ho.rz k0 k1)) (by omega)
      · rw [eb]
        exact rs rone rb (by omega)
      · rw [cond] at hc
        have hc := of_decide_eq_false hc
        rw [ew, eb]
        refine ⟨rs rw1 (rz_sub rone rb) (by omega), ?_⟩
        have : A j o * A o j ≠ 1 := fun z => hc (.inr (.inr (.inr z)))
        grind
      · unfold M_law_taken_step2 M_law_taken_line4 M_law_taken_line2 M_law_taken_line3
        rw [cond, ew, eb, upto_succ, List.map_append]
        by_cases c : o = j ∨ o = (m : Int) ∨ j = (m : Int) ∨ A j o * A o j = 1
        · rw [decide_eq_true c, cond_true]
          congr 1
          show [(0 : Rat)] = [ta A o j (m : Int)]
          congr 1
          unfold ta
          split
          · rfl
          · rename_i hn
            have : A j o * A o j = 1 := by
              rcases c with z | z | z | z
              · exact absurd (.inl z.symm) hn
              · exact absurd (.inr (.inl z.symm)) hn
              · exact absurd (.inr (.inr z)) hn
              · exact z
            unfold stp
            rw [if_pos this]
        · rw [decide_eq_false c, cond_false]
          congr 1
          show [_] = [ta A o j (m : Int)]
          congr 1
          unfold ta
          rw [if_neg (by omega), stp_def _ _ _ _ (fun z => c (.inr (.inr (.inr z))))])
    rw [upto_length] at key
    exact ⟨key.1, key.2.2⟩
  have lines := foldL_sp (step := M_law_taken_step1 Lr Ar o) (S := S_law_taken_l1 Lr Ar o) (fun m v => m ≤ n ∧ v = (upto m).map fun j => (upto n).map (ta A o j)) (ys := upto n) (s := []) ⟨by omega, rfl⟩ (fun x v m hx hi => by
    obtain ⟨rfl, hm⟩ := upto_get hx
    obtain ⟨_, rfl⟩ := hi
    have k0 : (0 : Int) ≤ (m : Int) := by omega
    have k1 : (m : Int) < n := by omega
    have rj := hA.2 (m : Int) k0 k1
    have hj := h.a (m : Int) k0 k1
    refine ⟨⟨by omega, by rw [rj.1]; omega, by omega, by rw [ro.1]; omega, ?_, small_of (by omega) (by omega), by rw [en]; exact (line _ _ k0 k1).1, szlt (by rw [List.length_map, upto_length]; omega)⟩, by omega, ?_⟩
    · rw [rj.2 o o0 o1, ro.2 _ k0 k1]
      exact rs (hj.rz o0 o1) (ho.rz k0 k1) (by omega)
    · unfold M_law_taken_step1 M_law_taken_lines2 M_law_taken_l1 M_law_taken_line1
      rw [en, (line _ _ k0 k1).2, upto_succ, List.map_append]
      rfl)
  rw [upto_length] at lines
  refine ⟨⟨by rw [enumI_length, ll]; exact szl (by omega), fun x hx => by omega, fun x hx => by omega, fun x hx => ?_, fun x hx => ?_, fun x hx => ?_, by rw [el]; omega, small_of (by omega) (by omega), by rw [en]; exact lines.1⟩, ⟨?_, fun k k0 k1 => ?_⟩, ?_, fun k k0 k1 => ?_⟩
  · obtain ⟨hx1, hx2⟩ := mem_enum ll hx
    rw [ro.1]
    omega
  · obtain ⟨hx1, hx2⟩ := mem_enum ll hx
    rw [le o o0 o1, ro.2 x.1 hx1.1 hx1.2]
    exact rs (h.w.rz o0 o1) (ho.rz hx1.1 hx1.2) (by omega)
  · obtain ⟨hx1, hx2⟩ := mem_enum ll hx
    rw [hx2, le _ hx1.1 hx1.2, le o o0 o1, ro.2 x.1 hx1.1 hx1.2]
    exact rs (h.w.rz hx1.1 hx1.2) (rz_mul (h.w.rz o0 o1) (ho.rz hx1.1 hx1.2)) (by omega)
  · show (List.set _ _ _).length = n
    rw [List.length_set, el]
  · show ixI (List.set (M_law_taken_rest1 Lr Ar o) o.toNat 0) k = _
    unfold SP.tw
    have hg : (M_law_taken_rest1 Lr Ar o)[k.toNat]? = some (ixI (M_law_taken_rest1 Lr Ar o) k) := ixI_get k0 (by rw [el]; omega)
    obtain ⟨m, rfl⟩ : ∃ m : Nat, k = m := ⟨k.toNat, by omega⟩
    by_cases c : (m : Int) = o
    · rw [if_pos c]
      refine getI ?_
      rw [List.getElem?_set]
      have : o.toNat = m := by omega
      rw [if_pos this, if_pos (by rw [el]; omega)]
    · rw [if_neg c]
      refine getI ?_
      rw [List.getElem?_set]
      have : o.toNat ≠ m := by omega
      rw [if_neg this]
      refine hg.trans (congrArg some ?_)
      unfold M_law_taken_rest1
      rw [ixI_enum _ ll k0 k1]
      show ixI Lr (m : Int) + ixI Lr o * ixI (ixI Ar o) (m : Int) = _
      rw [le _ k0 k1, le o o0 o1, ro.2 _ k0 k1]
  · show (M_law_taken_l2 Lr Ar o).length = n
    unfold M_law_taken_l2 M_law_taken_lines1
    rw [en, lines.2.2, List.length_map, upto_length]
  · show RdR n (ixI (M_law_taken_l2 Lr Ar o) k) _
    unfold M_law_taken_l2 M_law_taken_lines1
    rw [en, lines.2.2, ixI_upto _ k0 k1]
    exact ⟨by rw [List.length_map, upto_length], fun i i0 i1 => ixI_upto _ i0 i1⟩
end
end SP

set_option exponentiation.threshold 20000
/-! Webs: what is checked, and what steps call. -/
namespace SP
open PySem PySem.Spec L2 DL PF MD MP ML LV
open LV (encR IsR isR Rz)
open PyProof.Rows hiding St
def sumq : List KR → Rat
  | [] => 0
  | x :: xs => x.q + sumq xs
section
variable {B n : Nat} {L f : Int → Rat} {A : Int → Int → Rat} {o j k : Int} {Lk : List KR} {Ak : List (List KR)}
theorem su_front (f : Int → Rat) (n : Nat) : su f (n + 1) = f 0 + su (fun k => f (k + 1)) n := by
  induction n with
  | zero =>
    unfold su su
    show (0 : Rat) + f ((0 : Nat) : Int) = f 0 + 0
    rw [Rat.zero_add, Rat.add_zero]
    rfl
  | succ n ih =>
    rw [su, ih]
    show _ = f 0 + (su (fun k => f (k + 1)) n + f ((n : Int) + 1))
    rw [Rat.add_assoc]
    rfl
theorem ixI_cons {α : Type} [Inhabited α] (x : α) (xs : List α) (k : Int) (h : 0 ≤ k) : ixI (x :: xs) (k + 1) = ixI xs k := by
  obtain ⟨j, rfl⟩ : ∃ j : Nat, k = j := ⟨k.toNat, by omega⟩
  unfold ixI
  rw [show ((j : Int) + 1).toNat = j + 1 by omega, show (j : Int).toNat = j by omega]
  rfl
theorem sumq_su : ∀ xs : List KR, sumq xs = su (fun k => (ixI xs k).q) xs.length
  | [] => rfl
  | x :: xs => by
    rw [List.length_cons, su_front, sumq, sumq_su xs]
    congr 1
    exact su_congr fun k h0 h1 => by rw [ixI_cons x xs k h0]
theorem RdK.sum (h : RdK n Lk f) : sumq Lk = su f n := by
  rw [sumq_su, h.1]
  exact su_congr h.2
theorem log2_lt {x k : Nat} (h : x < 2 ^ k) (hk : 0 < k) : x.log2 < k := by
  rcases Nat.eq_zero_or_pos x with rfl | hx
  · simpa using hk
  · exact (Nat.log2_lt (by omega)).mpr h
theorem RdK.mem {x : KR} (h : RdK n Lk f) (hx : x ∈ Lk) : ∃ k : Int, 0 ≤ k ∧ k < n ∧ x = ixI Lk k ∧ x.q = f k := by
  obtain ⟨i, hi⟩ := List.mem_iff_getElem?.mp hx
  have hl := lt_of_get hi
  rw [h.1] at hl
  have e := getI hi
  exact ⟨i, by omega, by omega, e.symm, by rw [← h.2 i (by omega) (by omega), e]⟩
theorem tellsK {ps : List KR} (h1 : 1 ≤ ps.length) (h5 : ps.length ≤ 5) : M_tells_count ps = true := tells_sp h1 h5
/-! ### what can be next -/
/-- k can be next -/
def Nxt (al : Rat) (ps : List Rat) (L : Int → Rat) (k : Int) : Prop := 0 < L k ∧ ixI ps k ≤ al * L k
end
end SP

set_option exponentiation.threshold 20000
/-! Webs: steps and bars. -/
namespace SP
open PySem PySem.Spec L2 DL PF MD MP ML LV
open LV (encR IsR isR Rz)
open PyProof.Rows hiding St
/-- each one was next -/
def Chn (al : Rat) (ps : List Rat) (p : Wx) (G : IS) : Prop := ∀ (os rest : IS) (o : Int), G = os ++ o :: rest → Nxt al ps (tws p os).1 o
section
variable {B n : Nat} {p : Wx} {o k : Int} {Lk : List KR} {Ak : List (List KR)} {al : Rat} {ps : List Rat}
theorem nodup_le {G : IS} (h : G.Nodup) (hi : ∀ i ∈ G, 0 ≤ i ∧ i < (n : Int)) : G.length ≤ n := by
  have h1 := asc_len (sortI G) 0 n (sortI_lt h) fun i h => hi i ((sortI_perm G).mem_iff.mp h)
  rw [(sortI_perm G).length_eq] at h1
  omega
theorem Chn.snoc {G : IS} (h : Chn al ps p G) (hn : Nxt al ps (tws p G).1 o) : Chn al ps p (G ++ [o]) := fun os rest y e => by
  rcases List.eq_nil_or_concat rest with rfl | ⟨r, z, rfl⟩
  · obtain ⟨rfl, e2⟩ := List.append_inj' e rfl
    cases e2
    exact hn
  · rw [List.concat_eq_append, ← List.cons_append, ← List.append_assoc] at e
    obtain ⟨e1, _⟩ := List.append_inj' e rfl
    exact h os r y e1
/-! ### bars -/
/-- what is not in a set -/
def cmp (n : Nat) (s : IS) : IS := (upto n).filter fun i => !decide (i ∈ s)
def wbS (n : Nat) (al : Rat) (p : Wx) (s : IS) : List BarR := (s.filter fun k => decide (0 < (tws p (cmp n s)).1 k)).map fun k => (s, M_law_edge (n : Int) [k] (al * (tws p (cmp n s)).1 k))
def wbs (n : Nat) (al : Rat) (p : Wx) (ls : List IS) : List BarR := ls.flatMap (wbS n al p)
theorem snoc_ind {α : Type} {P : List α → Prop} (h0 : P []) (h1 : ∀ xs x, P xs → P (xs ++ [x])) : ∀ xs, P xs := fun xs => by
  rw [← List.reverse_reverse xs]
  induction xs.reverse with
  | nil => exact h0
  | cons x r ih =>
    rw [List.reverse_cons]
    exact h1 _ _ ih
theorem filter_two {α : Type} (f : α → Bool) : ∀ xs : List α, (xs.filter f).length + (xs.filter fun x => !f x).length = xs.length
  | [] => rfl
  | x :: xs => by
    have := filter_two f xs
    cases e : f x <;> simp [e] <;> omega
theorem cmp_mem {s : IS} {i : Int} : i ∈ cmp n s ↔ (0 ≤ i ∧ i < n) ∧ i ∉ s := by
  unfold cmp
  rw [List.mem_filter, mem_upto]
  simp
theorem cmp_len {s : IS} (hs : isSet n s) : (cmp n s).length + s.length = n := by
  have h1 : ((upto n).filter fun i => decide (i ∈ s)) = s := asc_ext (filter_asc _) hs.2.1 fun i => by
    rw [List.mem_filter, mem_upto, decide_eq_true_iff]
    exact ⟨fun z => z.2, fun z => ⟨hs.2.2 i z, z⟩⟩
  have h2 := filter_two (fun i => decide (i ∈ s)) (upto n)
  rw [h1, upto_length] at h2
  unfold cmp
  omega
end
end SP

set_option exponentiation.threshold 20000
/-! Weighed bars; even bars, and the web that has them. -/
namespace SP
open PySem PySem.Spec L2 DL PF MD MP ML LV
open LV (encR IsR isR Rz)
open PyProof.Rows hiding St
def evS (n : Nat) (al : Rat) (s : IS) : List BarR := s.map fun k => (s, M_law_edge (n : Int) [k] (al / (s.length : Rat)))
def evb (n : Nat) (al : Rat) (ls : List IS) : List BarR := ls.flatMap (evS n al)
section
variable {n : Nat} {p : Wx} {o k : Int} {al : Rat} {ps : List Rat} {W : Int → Rat} {Wk : List KR}
/-! ### the even web -/
end
end SP

set_option exponentiation.threshold 20000
/-! Even bars and steps down. -/
namespace SP
open PySem PySem.Spec L2 DL PF MD MP ML LV
open LV (encR IsR isR Rz)
open PyProof.Rows hiding St
section
variable {n : Nat} {p : Wx} {o k : Int} {al : Rat} {ps : List Rat}
def w0 (n : Nat) : Int → Rat := fun _ => 1 / (n : Rat)
def a0 (n : Nat) : Int → Int → Rat := fun j k => if j = k then 0 else 1 / ((n - 1 : Nat) : Rat)
/-! ### what is left possible -/
theorem sure_one {os : List IS} (h0 : os ≠ []) (i : Int) : sureN [i] os = 1 ↔ ∀ s ∈ os, i ∉ s := by
  have f1 : ∀ s : IS, i ∉ s → (falseOf [i] s : Int) = 1 := fun s h => by simp [falseOf, h]
  have f0 : ∀ s : IS, i ∈ s → (falseOf [i] s : Int) = 0 := fun s h => by simp [falseOf, h]
  obtain ⟨m1, m2⟩ := minL_spec (os.map fun s => (falseOf [i] s : Int)) (by simpa using h0)
  constructor
  · intro h s hs hi
    have := m2 _ (List.mem_map.mpr ⟨s, hs, rfl⟩)
    rw [f0 s hi] at this
    unfold sureN at h
    omega
  · intro h
    obtain ⟨s, hs, e⟩ := List.mem_map.mp m1
    rw [f1 s (h s hs)] at e
    exact e.symm
theorem barred_ev (hl : ps.length = n) {s : IS} (hs : s ∈ ssets n) : barred ps (evb n al (ssets n)) s = true ↔ ∃ k ∈ s, ixI ps k ≤ al / (s.length : Rat) := by
  have st := mem_ssets.mp hs
  unfold barred
  rw [List.any_eq_true]
  constructor
  · rintro ⟨b, hb, h⟩
    rw [Bool.and_eq_true, decide_eq_true_iff] at h
    obtain ⟨h1, h2⟩ := h
    unfold evb at hb
    rw [List.mem_flatMap] at hb
    obtain ⟨t, ht, hb⟩ := hb
    unfold evS at hb
    obtain ⟨k, hk, rfl⟩ := List.mem_map.mp hb
    obtain rfl : t = s := h1
    exact ⟨k, hk, (wi_edge hl (g := [k]) (fun i hi => by rw [List.mem_singleton.mp hi]; exact st.2.2 k hk)).mp h2 k (List.mem_singleton.mpr rfl)⟩
  · rintro ⟨k, hk, h⟩
    refine ⟨(s, M_law_edge (n : Int) [k] (al / (s.length : Rat))), ?_, ?_⟩
    · unfold evb
      rw [List.mem_flatMap]
      refine ⟨s, hs, ?_⟩
      unfold evS
      exact List.mem_map.mpr ⟨k, hk, rfl⟩
    · rw [Bool.and_eq_true, decide_eq_true_iff]
      exact ⟨rfl, (wi_edge hl (g := [k]) (fun i hi => by rw [List.mem_singleton.mp hi]; exact st.2.2 k hk)).mpr fun i hi => by rw [List.mem_singleton.mp hi]; exact h⟩
theorem opens_ev (hl : ps.length = n) {s : IS} : s ∈ opens ps (evb n al (ssets n)) (ssets n) ↔ s = [] ∨ s ∈ ssets n ∧ ∀ k ∈ s, al / (s.length : Rat) < ixI ps k := by
  unfold opens
  rw [List.mem_cons, List.mem_filter]
  refine or_congr Iff.rfl (and_congr_right fun hs => ?_)
  rw [Bool.not_eq_true', ← Bool.not_eq_true, barred_ev hl hs]
  constructor
  · intro h k hk
    rw [← Rat.not_le]
    exact fun z => h ⟨k, hk, z⟩
  · rintro h ⟨k, hk, z⟩
    exact Rat.not_le.mpr (h k hk) z
/-! ### limits of steps down -/
theorem div_mono (hal : 0 ≤ al) {a b : Nat} (ha : 1 ≤ a) (h : a ≤ b) : al / (b : Rat) ≤ al / (a : Rat) := by
  have h1 := nat_pos ha
  have h2 := nat_pos (show 1 ≤ b by omega)
  refine LV.div_le h2 ?_
  have h3 : (a : Rat) ≤ (b : Rat) := by exact_mod_cast h
  have h4 : 0 ≤ al / (a : Rat) := by
    rw [Rat.div_def]
    exact Rat.mul_nonneg hal (Rat.le_of_lt (Rat.inv_pos.mpr h1))
  have h5 := Rat.mul_le_mul_of_nonneg_left h3 h4
  have h6 : al / (a : Rat) * a = al := Rat.div_mul_cancel (by grind)
  rw [h6] at h5
  exact h5
/-! ### what the steps call -/
/-- each one is up to its limit, of the others none is up to the next -/
structure Hm (n : Nat) (al : Rat) (ps : List Rat) (G : IS) : Prop where
  nd : G.Nodup
  mem : ∀ i ∈ G, 0 ≤ i ∧ i < (n : Int)
  up : ∀ (t : Nat) (x : Int), G[t]? = some x → ixI ps x ≤ al / ((n - t : Nat) : Rat)
  out : ∀ x : Int, 0 ≤ x → x < n → x ∉ G → al / ((n - G.length : Nat) : Rat) < ixI ps x
theorem Hm.len {G : IS} (h : Hm n al ps G) : G.length ≤ n := nodup_le h.nd h.mem
/-- no lot that is possible has one that is called -/
theorem Hm.not_open {G : IS} (h : Hm n al ps G) (hal : 0 ≤ al) (hl : ps.length = n) {s : IS} (hs : s ∈ opens ps (evb n al (ssets n)) (ssets n)) : ∀ i ∈ G, i ∉ s := by
  rcases (opens_ev hl).mp hs with rfl | ⟨st, ha⟩
  · exact fun i _ => by simp
  have st := mem_ssets.mp st
  have hsl := isSet_len st
  have hs1 : 1 ≤ s.length := List.length_pos_iff.mpr st.1
  have key : ∀ (m t : Nat) (x : Int), t < m → G[t]? = some x → x ∉ s := fun m => by
    induction m with
    | zero => exact fun t x ht => by omega
    | succ m ih =>
      intro t x ht hx hxs
      have htl := lt_of_get hx
      have hdis : ∀ y ∈ G.take t, y ∉ s := fun y hy => by
        obtain ⟨u, hu⟩ := List.mem_iff_getElem?.mp hy
        have hul := lt_of_get hu
        rw [List.length_take] at hul
        rw [List.getElem?_take, if_pos (by omega)] at hu
        exact ih u y (by omega) hu
      have hlen := nodup_le (n := n) (G := G.take t ++ s) (by
        rw [List.nodup_append]
        exact ⟨h.nd.sublist (List.take_sublist _ _), nodup_of_lt st.2.1, fun a ha b hb e => hdis a ha (e ▸ hb)⟩) fun i hi => by
          rcases List.mem_append.mp hi with z | z
          · exact h.mem i (List.mem_of_mem_take z)
          · exact st.2.2 i z
      rw [List.length_append, List.length_take, Nat.min_eq_left (by omega)] at hlen
      have h1 := h.up t x hx
      have h2 := div_mono hal hs1 (show s.length ≤ n - t by omega)
      exact Rat.not_le.mpr (ha x hxs) (Rat.le_trans h1 h2)
  intro i hi
  obtain ⟨t, ht⟩ := List.mem_iff_getElem?.mp hi
  exact key (t + 1) t i (by omega) ht
theorem cmp_card {G : IS} (hnd : G.Nodup) (hm : ∀ i ∈ G, 0 ≤ i ∧ i < (n : Int)) : (cmp n G).length + G.length = n := by
  have h1 : ((upto n).filter fun i => decide (i ∈ G)) = sortI G := (sortI_eq hnd (filter_asc _) fun i => by
    rw [List.mem_filter, mem_upto, decide_eq_true_iff]
    exact ⟨fun z => ⟨hm i z, z⟩, fun z => z.2⟩).symm
  have h2 := filter_two (fun i => decide (i ∈ G)) (upto n)
  rw [h1, upto_length, (sortI_perm G).length_eq] at h2
  unfold cmp
  omega
/-- the lot of those that are not called is possible -/
theorem Hm.rest_open {G : IS} (h : Hm n al ps G) (hl : ps.length = n) : cmp n G ∈ opens ps (evb n al (ssets n)) (ssets n) := by
  rw [opens_ev hl]
  by_cases e : cmp n G = []
  · exact .inl e
  refine .inr ⟨mem_ssets.mpr ⟨e, filter_asc _, fun i hi => (cmp_mem.mp hi).1⟩, fun k hk => ?_⟩
  obtain ⟨⟨k0, k1⟩, hk⟩ := cmp_mem.mp hk
  have := cmp_card h.nd h.mem
  rw [show (cmp n G).length = n - G.length by omega]
  exact h.out k k0 k1 hk
theorem Hm.called {G : IS} (h : Hm n al ps G) (hal : 0 ≤ al) (hl : ps.length = n) : ((upto n).filter fun i => decide (sureN [i] (opens ps (evb n al (ssets n)) (ssets n)) = 1)) = sortI G := by
  refine (sortI_eq h.nd (filter_asc _) fun i => ?_).symm
  rw [List.mem_filter, mem_upto, decide_eq_true_iff, sure_one (opens_ne _ _ _)]
  constructor
  · exact fun hi => ⟨h.mem i hi, fun s hs => h.not_open hal hl hs i hi⟩
  · rintro ⟨hi, hs⟩
    refine Classical.byContradiction fun hn => ?_
    exact hs _ (h.rest_open hl) (cmp_mem.mpr ⟨hi, hn⟩)
end
end SP

set_option exponentiation.threshold 20000
/-! What is shown of bars and sets; one of some sets. -/
namespace SP
open PySem PySem.Spec L2 DL PF MD MP ML LV
open LV (encR IsR isR Rz)
open PyProof.Rows hiding St
end SP

set_option exponentiation.threshold 20000
/-! Webs: the order does not matter; more out leave more; what all steps call. -/
namespace SP
open PySem PySem.Spec L2 DL PF MD MP ML LV
open LV (encR IsR isR Rz)
open PyProof.Rows hiding St
/-- alike on n places -/
def EqR (n : Nat) (p q : Wx) : Prop := (∀ k : Int, 0 ≤ k → k < n → p.1 k = q.1 k) ∧ ∀ j k : Int, 0 ≤ j → j < n → 0 ≤ k → k < n → p.2 j k = q.2 j k
/-- a web of parts of 1 -/
def Wg (n : Nat) (p : Wx) : Prop := ∃ B, 1 ≤ B ∧ Wb B n p.1 p.2
def InR (n : Nat) (os : IS) : Prop := ∀ i ∈ os, 0 ≤ i ∧ i < (n : Int)
section
variable {n : Nat} {p q r : Wx} {o k : Int} {al : Rat} {ps : List Rat} {os G : IS}
theorem EqR.refl (p : Wx) : EqR n p p := ⟨fun _ _ _ => rfl, fun _ _ _ _ _ _ => rfl⟩
theorem EqR.trans (h : EqR n p q) (g : EqR n q r) : EqR n p r := ⟨fun k a b => (h.1 k a b).trans (g.1 k a b), fun j k a b c d => (h.2 j k a b c d).trans (g.2 j k a b c d)⟩
theorem EqR.t1 (h : EqR n p q) (o0 : 0 ≤ o) (o1 : o < n) : EqR n (SP.t1 p o) (SP.t1 q o) := by
  refine ⟨fun k a b => ?_, fun j k a b c d => ?_⟩
  · show SP.tw p.1 p.2 o k = SP.tw q.1 q.2 o k
    unfold SP.tw
    rw [h.1 k a b, h.1 o o0 o1, h.2 o k o0 o1 a b]
  · show ta p.2 o j k = ta q.2 o j k
    unfold ta
    rw [h.2 j k a b c d, h.2 j o a b o0 o1, h.2 o k o0 o1 c d, h.2 o j o0 o1 a b]
theorem EqR.tws (h : EqR n p q) : ∀ (os : IS), InR n os → EqR n (SP.tws p os) (SP.tws q os) :=
  snoc_ind (P := fun os => InR n os → EqR n (SP.tws p os) (SP.tws q os)) (fun _ => h) fun os o ih hi => by
    have ho := hi o (List.mem_append_right _ (List.mem_singleton.mpr rfl))
    rw [tws_app, tws_app]
    exact (ih fun i hm => hi i (List.mem_append_left _ hm)).t1 ho.1 ho.2
theorem Wg.t1 (h : Wg n p) (o0 : 0 ≤ o) (o1 : o < n) : Wg n (SP.t1 p o) := by
  obtain ⟨B, hB, h⟩ := h
  exact ⟨B + B, by omega, h.step hB o0 o1⟩
theorem Wg.tws (h : Wg n p) : ∀ (os : IS), InR n os → Wg n (SP.tws p os) :=
  snoc_ind (P := fun os => InR n os → Wg n (SP.tws p os)) (fun _ => h) fun os o ih hi => by
    have ho := hi o (List.mem_append_right _ (List.mem_singleton.mpr rfl))
    rw [tws_app]
    exact (ih fun i hm => hi i (List.mem_append_left _ hm)).t1 ho.1 ho.2
theorem tws_cons (p : Wx) (o : Int) (os : IS) : tws p (o :: os) = tws (t1 p o) os := rfl
theorem tws_app2 (p : Wx) (a b : IS) : tws p (a ++ b) = tws (tws p a) b := by
  unfold tws
  rw [List.foldl_append]
/-- the order does not matter -/
theorem tws_perm {a b : IS} (h : a.Perm b) : ∀ {p : Wx}, Wg n p → InR n a → EqR n (tws p a) (tws p b) := by
  induction h with
  | nil => exact fun _ _ => EqR.refl _
  | cons x _ ih =>
    intro p hp hi
    have hx := hi x List.mem_cons_self
    exact ih (hp.t1 hx.1 hx.2) fun i hm => hi i (List.mem_cons_of_mem _ hm)
  | swap x y l =>
    intro p hp hi
    have hy := hi y List.mem_cons_self
    have hx := hi x (List.mem_cons_of_mem _ List.mem_cons_self)
    rw [tws_cons, tws_cons, tws_cons, tws_cons]
    refine EqR.tws ?_ l fun i hm => hi i (List.mem_cons_of_mem _ (List.mem_cons_of_mem _ hm))
    by_cases e : y = x
    · rw [e]
      exact EqR.refl _
    · obtain ⟨B, hB, h⟩ := hp
      exact ⟨fun k k0 k1 => tw_comm h hy.1 hy.2 hx.1 hx.2 e k0 k1, fun j k j0 j1 k0 k1 => ta_comm h hy.1 hy.2 hx.1 hx.2 e j0 j1 k0 k1⟩
  | trans h1 _ ih1 ih2 =>
    intro p hp hi
    exact (ih1 hp hi).trans (ih2 hp fun i hm => hi i (h1.mem_iff.mpr hm))
/-- one more out leaves at least as much -/
theorem t1_ge (hp : Wg n p) (o0 : 0 ≤ o) (o1 : o < n) (k0 : 0 ≤ k) (k1 : k < n) (h : k ≠ o) : p.1 k ≤ (t1 p o).1 k := by
  obtain ⟨B, hB, w⟩ := hp
  show _ ≤ SP.tw p.1 p.2 o k
  unfold SP.tw
  rw [if_neg h]
  have := Rat.mul_nonneg (w.w.pos o o0 o1) ((w.a o o0 o1).pos k k0 k1)
  grind
theorem tws_ge (k0 : 0 ≤ k) (k1 : k < n) : ∀ (os : IS) {p : Wx}, Wg n p → InR n os → k ∉ os → p.1 k ≤ (tws p os).1 k
  | [], _, _, _, _ => Rat.le_refl
  | o :: os, p, hp, hi, hk => by
    have ho := hi o List.mem_cons_self
    rw [tws_cons]
    exact Rat.le_trans (t1_ge hp ho.1 ho.2 k0 k1 fun e => hk (by rw [e]; exact List.mem_cons_self)) (tws_ge k0 k1 os (hp.t1 ho.1 ho.2) (fun i hm => hi i (List.mem_cons_of_mem _ hm)) fun z => hk (List.mem_cons_of_mem _ z))
/-- what is out among more that are out -/
theorem tws_sub (hp : Wg n p) {a b : IS} (ha : a.Nodup) (hb : b.Nodup) (hi : InR n b) (hs : ∀ i ∈ a, i ∈ b) (k0 : 0 ≤ k) (k1 : k < n) (hk : k ∉ b) : (tws p a).1 k ≤ (tws p b).1 k := by
  have hia : InR n a := fun i h => hi i (hs i h)
  have hper : (a ++ b.filter fun i => !decide (i ∈ a)).Perm b := by
    refine (List.perm_ext_iff_of_nodup ?_ hb).mpr fun i => ?_
    · rw [List.nodup_append]
      exact ⟨ha, hb.filter _, fun x hx y hy e => by
        subst e
        have := (List.mem_filter.mp hy).2
        simp [hx] at this⟩
    · rw [List.mem_append, List.mem_filter]
      constructor
      · rintro (z | z)
        · exact hs i z
        · exact z.1
      · intro z
        by_cases c : i ∈ a
        · exact .inl c
        · exact .inr ⟨z, by simp [c]⟩
  have h1 := (tws_perm hper hp fun i h => hi i (hper.mem_iff.mp h)).1 k k0 k1
  rw [← h1, tws_app2]
  exact tws_ge k0 k1 _ (hp.tws a hia) (fun i h => hi i (List.mem_filter.mp h).1) fun z => hk (List.mem_filter.mp z).1
theorem Nxt.mono {L M : Int → Rat} (hal : 0 ≤ al) (h : Nxt al ps L k) (hl : L k ≤ M k) : Nxt al ps M k :=
  ⟨by have := h.1; grind, Rat.le_trans h.2 (Rat.mul_le_mul_of_nonneg_left hl hal)⟩
/-- all that steps call, in some order -/
structure Mx (n : Nat) (al : Rat) (ps : List Rat) (p : Wx) (G : IS) : Prop where
  nd : G.Nodup
  mem : InR n G
  chn : Chn al ps p G
  mx : ∀ k : Int, 0 ≤ k → k < n → ¬ Nxt al ps (tws p G).1 k
theorem Chn.pre {a b : IS} (h : Chn al ps p (a ++ b)) : Chn al ps p a := fun os rest o e => h os (rest ++ b) o (by rw [e, List.append_assoc]; rfl)
/-- each chain lies in what is called -/
theorem chn_in (hp : Wg n p) (hal : 0 ≤ al) (hG : Mx n al ps p G) : ∀ (os : IS), os.Nodup → InR n os → Chn al ps p os → ∀ i ∈ os, i ∈ G :=
  snoc_ind (P := fun os => os.Nodup → InR n os → Chn al ps p os → ∀ i ∈ os, i ∈ G) (fun _ _ _ i hi => by cases hi) fun os o ih hnd hi hc => by
    obtain ⟨d1, _, d2⟩ := List.nodup_append.mp hnd
    have hin := ih d1 (fun i h => hi i (List.mem_append_left _ h)) hc.pre
    have ho := hi o (List.mem_append_right _ (List.mem_singleton.mpr rfl))
    have hoG : o ∈ G := by
      refine Classical.byContradiction fun hn => ?_
      have h1 := hc os [] o rfl
      exact hG.mx o ho.1 ho.2 (h1.mono hal (tws_sub hp d1 hG.nd hG.mem hin ho.1 ho.2 hn))
    intro i h
    rcases List.mem_append.mp h with z | z
    · exact hin i z
    · rw [List.mem_singleton.mp z]
      exact hoG
theorem Mx.eq (hp : Wg n p) (hal : 0 ≤ al) {G' : IS} (h : Mx n al ps p G) (h' : Mx n al ps p G') : sortI G = sortI G' := by
  refine sortI_eq h.nd (sortI_lt h'.nd) fun i => ?_
  rw [(sortI_perm G').mem_iff]
  exact ⟨fun z => chn_in hp hal h' G h.nd h.mem h.chn i z, fun z => chn_in hp hal h G' h'.nd h'.mem h'.chn i z⟩
/-- lesser numbers call all that was called -/
theorem Mx.less (hp : Wg n p) (hal : 0 ≤ al) {qs : List Rat} {G' : IS} (h : Mx n al ps p G) (h' : Mx n al qs p G') (hq : ∀ i : Int, 0 ≤ i → i < n → ixI qs i ≤ ixI ps i) : ∀ i ∈ G, i ∈ G' :=
  chn_in hp hal h' G h.nd h.mem fun os rest o e => by
    have h1 := h.chn os rest o e
    have ho := h.mem o (by rw [e]; exact List.mem_append_right _ List.mem_cons_self)
    exact ⟨h1.1, Rat.le_trans (hq o ho.1 ho.2) h1.2⟩
/-! ### the bars of a web -/
theorem barred_wb (hl : ps.length = n) {s : IS} (hs : s ∈ ssets n) : barred ps (wbs n al p (ssets n)) s = true ↔ ∃ k ∈ s, Nxt al ps (tws p (cmp n s)).1 k := by
  have st := mem_ssets.mp hs
  have one : ∀ k ∈ s, (wi ps (M_law_edge (n : Int) [k] (al * (tws p (cmp n s)).1 k)) = true ↔ ixI ps k ≤ al * (tws p (cmp n s)).1 k) := fun k hk => by
    rw [wi_edge hl (g := [k]) fun i hi => by rw [List.mem_singleton.mp hi]; exact st.2.2 k hk]
    exact ⟨fun h => h k (List.mem_singleton.mpr rfl), fun h i hi => by rw [List.mem_singleton.mp hi]; exact h⟩
  unfold barred
  rw [List.any_eq_true]
  constructor
  · rintro ⟨b, hb, h⟩
    rw [Bool.and_eq_true, decide_eq_true_iff] at h
    obtain ⟨h1, h2⟩ := h
    unfold wbs at hb
    rw [List.mem_flatMap] at hb
    obtain ⟨t, ht, hb⟩ := hb
    unfold wbS at hb
    obtain ⟨k, hk, rfl⟩ := List.mem_map.mp hb
    obtain rfl : t = s := h1
    obtain ⟨hk1, hk2⟩ := List.mem_filter.mp hk
    exact ⟨k, hk1, of_decide_eq_true hk2, (one k hk1).mp h2⟩
  · rintro ⟨k, hk, h1, h2⟩
    refine ⟨(s, M_law_edge (n : Int) [k] (al * (tws p (cmp n s)).1 k)), ?_, ?_⟩
    · unfold wbs
      rw [List.mem_flatMap]
      refine ⟨s, hs, ?_⟩
      unfold wbS
      exact List.mem_map.mpr ⟨k, List.mem_filter.mpr ⟨hk, decide_eq_true h1⟩, rfl⟩
    · rw [Bool.and_eq_true, decide_eq_true_iff]
      exact ⟨rfl, (one k hk).mpr h2⟩
theorem opens_wb (hl : ps.length = n) {s : IS} : s ∈ opens ps (wbs n al p (ssets n)) (ssets n) ↔ s = [] ∨ s ∈ ssets n ∧ ∀ k ∈ s, ¬ Nxt al ps (tws p (cmp n s)).1 k := by
  unfold opens
  rw [List.mem_cons, List.mem_filter]
  refine or_congr Iff.rfl (and_congr_right fun hs => ?_)
  rw [Bool.not_eq_true', ← Bool.not_eq_true, barred_wb hl hs]
  exact ⟨fun h k hk z => h ⟨k, hk, z⟩, fun h ⟨k, hk, z⟩ => h k hk z⟩
theorem cmp_nodup (n : Nat) (s : IS) : (cmp n s).Nodup := nodup_of_lt (filter_asc _)
theorem cmp_in (n : Nat) (s : IS) : InR n (cmp n s) := fun i hi => (cmp_mem.mp hi).1
/-- no lot that is possible has one that is called -/
theorem Mx.not_open (hp : Wg n p) (hal : 0 ≤ al) (hl : ps.length = n) (h : Mx n al ps p G) {s : IS} (hs : s ∈ opens ps (wbs n al p (ssets n)) (ssets n)) : ∀ i ∈ G, i ∉ s := by
  rcases (opens_wb hl).mp hs with rfl | ⟨st, ha⟩
  · exact fun i _ => by simp
  have key : ∀ os : IS, os.Nodup → InR n os → Chn al ps p os → ∀ i ∈ os, i ∉ s :=
    snoc_ind (P := fun os => os.Nodup → InR n os → Chn al ps p os → ∀ i ∈ os, i ∉ s) (fun _ _ _ i hi => by cases hi) fun os o ih hnd hi hc => by
      obtain ⟨d1, _, d2⟩ := List.nodup_append.mp hnd
      have hin := ih d1 (fun i h => hi i (List.mem_append_left _ h)) hc.pre
      have ho := hi o (List.mem_append_right _ (List.mem_singleton.mpr rfl))
      intro i hm
      rcases List.mem_append.mp hm with z | z
      · exact hin i z
      · rw [List.mem_singleton.mp z]
        intro hos
        have h1 := hc os [] o rfl
        refine ha o hos (h1.mono hal (tws_sub hp d1 (cmp_nodup n s) (cmp_in n s) (fun j hj => cmp_mem.mpr ⟨hi j (List.mem_append_left _ hj), hin j hj⟩) ho.1 ho.2 fun z => (cmp_mem.mp z).2 hos))
  exact key G h.nd h.mem h.chn
theorem cmp_cmp (h : InR n G) (hnd : G.Nodup) : (cmp n (cmp n G)).Perm G :=
  (List.perm_ext_iff_of_nodup (cmp_nodup _ _) hnd).mpr fun i => by
    rw [cmp_mem, cmp_mem]
    constructor
    · rintro ⟨a, b⟩
      refine Classical.byContradiction fun z => b ⟨a, z⟩
    · exact fun z => ⟨h i z, fun y => y.2 z⟩
/-- the lot of those that are not called is possible -/
theorem Mx.rest_open (hp : Wg n p) (hl : ps.length = n) (h : Mx n al ps p G) : cmp n G ∈ opens ps (wbs n al p (ssets n)) (ssets n) := by
  rw [opens_wb hl]
  by_cases e : cmp n G = []
  · exact .inl e
  refine .inr ⟨mem_ssets.mpr ⟨e, filter_asc _, fun i hi => (cmp_mem.mp hi).1⟩, fun k hk hN => ?_⟩
  obtain ⟨⟨k0, k1⟩, hk⟩ := cmp_mem.mp hk
  have e1 := (tws_perm (cmp_cmp h.mem h.nd) hp (cmp_in n _)).1 k k0 k1
  unfold Nxt at hN
  rw [e1] at hN
  exact h.mx k k0 k1 hN
theorem Mx.called (hp : Wg n p) (hal : 0 ≤ al) (hl : ps.length = n) (h : Mx n al ps p G) : ((upto n).filter fun i => decide (sureN [i] (opens ps (wbs n al p (ssets n)) (ssets n)) = 1)) = sortI G := by
  refine (sortI_eq h.nd (filter_asc _) fun i => ?_).symm
  rw [List.mem_filter, mem_upto, decide_eq_true_iff, sure_one (opens_ne _ _ _)]
  constructor
  · exact fun hi => ⟨h.mem i hi, fun s hs => h.not_open hp hal hl hs i hi⟩
  · rintro ⟨hi, hs⟩
    refine Classical.byContradiction fun hn => ?_
    exact hs _ (h.rest_open hp hl) (cmp_mem.mpr ⟨hi, hn⟩)
end
end SP

set_option exponentiation.threshold 20000
/-! Webs: what the laws draw; the laws' own bars. -/
namespace SP
open PySem PySem.Spec L2 DL PF MD MP ML LV
open LV (encR IsR isR Rz)
open PyProof.Rows hiding St
section
variable {n k : Nat} {w : Wl} {o : Int} {p : Wx} {al : Rat}
theorem Rw.congr {B : Nat} {f g : Int → Rat} (h : Rw B n f) (e : ∀ k : Int, 0 ≤ k → k < n → f k = g k) : Rw B n g := by
  refine ⟨fun k a b => by rw [← e k a b]; exact h.pos k a b, by rw [← su_congr e]; exact h.sum, ?_⟩
  obtain ⟨D, d0, d1, d2⟩ := h.den
  exact ⟨D, d0, d1, fun k a b => by rw [← e k a b]; exact d2 k a b⟩
/-- a law's weights and web -/
structure Wr (B n : Nat) (s : List Rat × List (List Rat)) (p : Wx) : Prop where
  l : RdR n s.1 p.1
  a : RdRR n s.2 p.2
  wb : Wb B n p.1 p.2
theorem Wr.kr {B : Nat} {s : List Rat × List (List Rat)} (h : Wr B n s p) : Ws B n (SP.kr s.1, List.map (List.map KR.r) s.2) p := ⟨h.l.kr, h.a.kr, h.wb⟩
theorem Wr.step {B : Nat} {s : List Rat × List (List Rat)} (h : Wr B n s p) (h1 : 1 ≤ B) (hB : B ≤ 900) (h9 : n ≤ 900) (o0 : 0 ≤ o) (o1 : o < n) : S_law_taken s.1 s.2 o ∧ Wr (B + B) n (M_law_taken s.1 s.2 o) (t1 p o) := by
  obtain ⟨a, b, c⟩ := taken_sp h.l h.a h.wb hB h9 o0 o1
  exact ⟨a, b, c, h.wb.step h1 o0 o1⟩
end
end SP

set_option exponentiation.threshold 20000
/-! Webs: taken out twice; sums; what is shown of weights. -/
namespace SP
open PySem PySem.Spec L2 DL PF MD MP ML LV
open LV (encR IsR isR Rz)
open PyProof.Rows hiding St
section
variable {n B : Nat} {p q : Wx} {o k : Int} {Lk : List KR} {Ak : List (List KR)} {Lr : List Rat} {f : Int → Rat}
theorem EqR.symm (h : EqR n p q) : EqR n q p := ⟨fun k a b => (h.1 k a b).symm, fun j k a b c d => (h.2 j k a b c d).symm⟩
theorem Wg.nil (h : Wg n p) : ∀ j : Int, 0 ≤ j → j < n → p.2 j j = 0 := by
  obtain ⟨B, _, w⟩ := h
  exact w.nil
/-! ### sums -/
/-! ### what is shown -/
theorem RdK.ext {Mk : List KR} (h : RdK n Lk f) (g : RdK n Mk f) : Lk.map KR.q = Mk.map KR.q := by
  refine List.ext_getElem? fun i => ?_
  rcases Nat.lt_or_ge i n with z | z
  · have a := ixI_get (xs := Lk) (i := (i : Int)) (by omega) (by rw [h.1]; omega)
    have b := ixI_get (xs := Mk) (i := (i : Int)) (by omega) (by rw [g.1]; omega)
    rw [show (i : Int).toNat = i by omega] at a b
    rw [List.getElem?_map, List.getElem?_map, a, b]
    show some (ixI Lk (i : Int)).q = some (ixI Mk (i : Int)).q
    rw [h.2 i (by omega) (by omega), g.2 i (by omega) (by omega)]
  · rw [List.getElem?_eq_none (by rw [List.length_map, h.1]; exact z), List.getElem?_eq_none (by rw [List.length_map, g.1]; exact z)]
end
end SP

set_option exponentiation.threshold 20000
/-! Webs: drawn orders. -/
namespace SP
open PySem PySem.Spec L2 DL PF MD MP ML LV
open LV (encR IsR isR Rz)
open PyProof.Rows hiding St
section
variable {n k : Nat} {w : Wl} {o : Int} {p : Wx} {al : Rat}
end
end SP

set_option exponentiation.threshold 20000
/-! Shares of wrong calls, and their worths. -/
namespace SP
open PySem PySem.Spec L2 DL PF MD MP ML LV
open LV (encR IsR isR Rz)
open PyProof.Rows hiding St
abbrev WR := CorR × Rat
def wthI (n : Nat) (cs : List Rat) (g : IS) (b : Int) : WR := (M_law_edge (n : Int) g (ixI cs (((g.length : Int) + b) - 1)), Rat.divInt (g.length : Int) ((g.length : Int) + b))
def wths (n : Nat) (cs : List Rat) (s : IS) : List WR := (upto (n - s.length + 1)).flatMap fun b => (subsL s).map fun g => wthI n cs g b
abbrev kw (ws : List WR) : List (List (Option KR) × Rat) := ws.map fun x => (kc x.1, x.2)
noncomputable def shQ (ps cs : List Rat) (s : IS) : Rat := if upS ps cs = [] then 0 else Rat.divInt (((upS ps cs).filter fun i => decide (i ∈ s)).length : Int) ((upS ps cs).length : Int)
section
variable {n : Nat} {ps qs cs : List Rat} {s g : IS} {B : Nat}
/-! ### steps up -/
theorem exists_max {P : Nat → Prop} : ∀ n : Nat, (∃ k, k < n ∧ P k) → ∃ K, K < n ∧ P K ∧ ∀ k, K < k → k < n → ¬ P k
  | 0, ⟨k, h, _⟩ => by omega
  | n + 1, ⟨k, h, hp⟩ => by
    by_cases c : P n
    · exact ⟨n, by omega, c, fun k h1 h2 => by omega⟩
    · have hk : k < n := by
        rcases Nat.lt_or_ge k n with z | z
        · exact z
        · obtain rfl : k = n := by omega
          exact absurd hp c
      obtain ⟨K, a, b, d⟩ := exists_max n ⟨k, hk, hp⟩
      refine ⟨K, by omega, b, fun j h1 h2 => ?_⟩
      rcases Nat.lt_or_ge j n with z | z
      · exact d j h1 z
      · obtain rfl : j = n := by omega
        exact c
theorem upI_asc (ps : List Rat) (c : Rat) : (upI ps c).Pairwise (· < ·) := filter_asc _
theorem upS_asc (ps cs : List Rat) : (upS ps cs).Pairwise (· < ·) := filter_asc _
theorem upI_le_n (hl : ps.length = n) (c : Rat) : (upI ps c).length ≤ n := by
  have := List.length_filter_le (fun i => decide (ixI ps i ≤ c)) (upto ps.length)
  rw [upto_length] at this
  rw [← hl]
  exact this
/-- the last limit that is reached tells what is called -/
theorem up_last (hl : ps.length = n) (hc : Lms B n cs) : upS ps cs = [] ∧ (∀ k, k < n → ¬ vUp ps cs k) ∨ ∃ K, K < n ∧ vUp ps cs K ∧ upS ps cs = upI ps (ixI cs K) ∧ (upS ps cs).length = K + 1 ∧ ∀ k, K < k → k < n → ¬ vUp ps cs k := by
  by_cases h : ∃ k, k < n ∧ vUp ps cs k
  · obtain ⟨K, k1, k2, k3⟩ := exists_max n h
    have e : upS ps cs = upI ps (ixI cs K) := asc_ext (upS_asc _ _) (upI_asc _ _) fun i => by
      rw [mem_upS, mem_upI]
      constructor
      · rintro ⟨hi, k, hk, hv, hle⟩
        rw [hc.1] at hk
        refine ⟨hi, ?_⟩
        rcases Nat.lt_or_ge K k with z | z
        · exact absurd hv (k3 k z hk)
        · exact Rat.le_trans hle (hc.mono z k1)
      · rintro ⟨hi, hle⟩
        exact ⟨hi, K, by rw [hc.1]; exact k1, k2, hle⟩
    refine .inr ⟨K, k1, k2, e, ?_, k3⟩
    rw [e]
    have h1 : K < (upI ps (ixI cs K)).length := k2
    have h2 := upI_le_n hl (ixI cs K)
    refine Nat.le_antisymm (Nat.le_of_not_lt fun z => ?_) h1
    have h3 : K + 1 < n := by omega
    have h4 := upI_mono (ps := ps) (hc.mono (show K ≤ K + 1 by omega) h3)
    exact k3 (K + 1) (by omega) h3 (show K + 1 < _ by omega)
  · refine .inl ⟨?_, fun k hk hv => h ⟨k, hk, hv⟩⟩
    rw [List.eq_nil_iff_forall_not_mem]
    intro i hi
    obtain ⟨_, k, hk, hv, _⟩ := mem_upS.mp hi
    rw [hc.1] at hk
    exact h ⟨k, hk, hv⟩
/-! ### what is the most -/
structure IsMost (ws : List WR) (ps : List Rat) (v : Rat) : Prop where
  nn : 0 ≤ v
  ub : ∀ x ∈ ws, wi ps x.1 = true → x.2 ≤ v
  at_ : v = 0 ∨ ∃ x ∈ ws, wi ps x.1 = true ∧ v = x.2
theorem mem_wths {x : WR} : x ∈ wths n cs s ↔ ∃ b : Nat, b < n - s.length + 1 ∧ ∃ g : IS, g ≠ [] ∧ g.Sublist s ∧ x = wthI n cs g (b : Int) := by
  unfold wths
  rw [List.mem_flatMap]
  constructor
  · rintro ⟨b, hb, hx⟩
    obtain ⟨b0, b1⟩ := mem_upto.mp hb
    obtain ⟨g, hg, rfl⟩ := List.mem_map.mp hx
    obtain ⟨g0, gs⟩ := mem_subsL.mp hg
    exact ⟨b.toNat, by omega, g, g0, gs, by rw [Int.toNat_of_nonneg b0]⟩
  · rintro ⟨b, hb, g, g0, gs, rfl⟩
    exact ⟨(b : Int), mem_upto.mpr (by omega), List.mem_map.mpr ⟨g, mem_subsL.mpr ⟨g0, gs⟩, rfl⟩⟩
theorem wi_wth (hl : ps.length = n) (hs : isSet n s) (gs : g.Sublist s) (b : Int) : wi ps (wthI n cs g b).1 = true ↔ ∀ i ∈ g, ixI ps i ≤ ixI cs (((g.length : Int) + b) - 1) := wi_edge hl fun i hi => hs.2.2 i (gs.subset hi)
theorem le_div {x c m : Rat} (hc : 0 < c) (h : m * c ≤ x) : m ≤ x / c := Rat.not_lt.mp fun z => by
  have := (Rat.div_lt_iff hc).mp z
  exact Rat.not_lt.mpr h this
/-- more of the lot called: a greater share -/
theorem frac_mono {a b A : Nat} (h1 : 1 ≤ a) (h : a ≤ A) : Rat.divInt (a : Int) ((a : Int) + (b : Int)) ≤ Rat.divInt (A : Int) ((A : Int) + (b : Int)) := by
  rw [Rat.divInt_eq_div, Rat.divInt_eq_div, Rat.intCast_add, Rat.intCast_add, Rat.intCast_natCast, Rat.intCast_natCast, Rat.intCast_natCast]
  have a0 := nat_pos h1
  have b0 : (0 : Rat) ≤ (b : Rat) := by exact_mod_cast Nat.zero_le b
  have aA : (a : Rat) ≤ (A : Rat) := by exact_mod_cast h
  have d1 : (0 : Rat) < (a : Rat) + b := by grind
  have d2 : (0 : Rat) < (A : Rat) + b := by grind
  refine le_div d2 ?_
  have e : (a : Rat) / ((a : Rat) + b) * ((A : Rat) + b) = ((a : Rat) * ((A : Rat) + b)) / ((a : Rat) + b) := by
    rw [Rat.div_def, Rat.div_def]
    grind
  rw [e]
  refine LV.div_le d1 ?_
  have := Rat.mul_le_mul_of_nonneg_right aA b0
  grind
theorem shQ_frac {R : IS} (h : upS ps cs = R) (h0 : R ≠ []) : shQ ps cs s = Rat.divInt ((R.filter fun i => decide (i ∈ s)).length : Int) ((R.length : Nat) : Int) := by
  unfold shQ
  rw [h, if_neg h0]
theorem shQ_nb (h5 : n ≤ 5) (hl : ps.length = n) : Nb 16 (shQ ps cs s) := by
  unfold shQ
  split
  · exact nb_zero (by decide)
  · next h =>
    have h1 : 1 ≤ (upS ps cs).length := List.length_pos_iff.mpr h
    have h2 : (upS ps cs).length ≤ n := by
      have := asc_len (upS ps cs) 0 n (upS_asc _ _) fun i hi => by
        have := (mem_upS.mp hi).1
        omega
      omega
    have h3 := List.length_filter_le (fun i => decide (i ∈ s)) (upS ps cs)
    exact ⟨Rat.divInt_nonneg (by omega) (by omega), divInt_le_one (by omega) (by omega), rz_div (by omega) (by omega) (by omega)⟩
/-- the share is one of the worths, at these numbers -/
theorem share_worth (hl : ps.length = n) (hc : Lms B n cs) (hs : isSet n s) (h0 : shQ ps cs s ≠ 0) : ∃ x ∈ wths n cs s, wi ps x.1 = true ∧ shQ ps cs s = x.2 := by
  rcases up_last hl hc with ⟨h, _⟩ | ⟨K, k1, k2, k3, k4, k5⟩
  · exact absurd (by unfold shQ; rw [if_pos h]) h0
  have hne : upS ps cs ≠ [] := fun e => by
    rw [e] at k4
    simp at k4
  obtain ⟨R, hR⟩ : ∃ R, upS ps cs = R := ⟨_, rfl⟩
  have e := shQ_frac (s := s) hR (by rw [← hR]; exact hne)
  rw [hR] at k3 k4
  have rasc : R.Pairwise (· < ·) := by rw [← hR]; exact upS_asc _ _
  have rmem : ∀ i ∈ R, (0 ≤ i ∧ i < n) ∧ ixI ps i ≤ ixI cs K := fun i hi => by
    rw [k3, mem_upI, hl] at hi
    exact hi
  have gs : (R.filter fun i => decide (i ∈ s)).Sublist s := LW.asc_sub (rasc.filter _) hs.2.1 fun i hi => of_decide_eq_true (List.mem_filter.mp hi).2
  have h2 := filter_two (fun i => decide (i ∈ s)) R
  have hsl := isSet_len hs
  have hg0 : (R.filter fun i => decide (i ∈ s)) ≠ [] := fun z => by
    rw [e, z] at h0
    exact h0 (by simp)
  have hb : (R.filter fun i => !decide (i ∈ s)).length ≤ n - s.length := by
    have h3 := nodup_le (n := n) (G := s ++ R.filter fun i => !decide (i ∈ s)) (by
      rw [List.nodup_append]
      exact ⟨nodup_of_lt hs.2.1, (nodup_of_lt rasc).filter _, fun x hx y hy z => by
        subst z
        have := (List.mem_filter.mp hy).2
        simp [hx] at this⟩) fun i hi => by
        rcases List.mem_append.mp hi with z | z
        · exact hs.2.2 i z
        · exact (rmem i (List.mem_filter.mp z).1).1
    rw [List.length_append] at h3
    omega
  refine ⟨wthI n cs (R.filter fun i => decide (i ∈ s)) ((R.filter fun i => !decide (i ∈ s)).length : Int), mem_wths.mpr ⟨_, by omega, _, hg0, gs, rfl⟩, (wi_wth hl hs gs _).mpr fun i hi => ?_, ?_⟩
  · rw [show (((R.filter fun i => decide (i ∈ s)).length : Nat) : Int) + ((R.filter fun i => !decide (i ∈ s)).length : Int) - 1 = (K : Int) by omega]
    exact (rmem i (List.mem_filter.mp hi).1).2
  · rw [e]
    exact congrArg (Rat.divInt _) (show ((R.length : Nat) : Int) = (((R.filter fun i => decide (i ∈ s)).length : Nat) : Int) + (((R.filter fun i => !decide (i ∈ s)).length : Nat) : Int) by omega)
/-- each worth is reached by numbers of the others that are 0 or 1 -/
theorem worth_reached (hl : ps.length = n) (hlq : qs.length = n) (hc : Lms B n cs) (hs : isSet n s) {b : Nat} (hb : b < n - s.length + 1) (g0 : g ≠ []) (gs : g.Sublist s) (hw : wi ps (wthI n cs g (b : Int)).1 = true)
    (q1 : ∀ i ∈ s, ixI qs i = ixI ps i) (q2 : ∀ i ∈ (cmp n s).take b, ixI qs i = 0) (q3 : ∀ i : Int, 0 ≤ i → i < n → i ∉ s → i ∉ (cmp n s).take b → ixI qs i = 1) : (wthI n cs g (b : Int)).2 ≤ shQ qs cs s := by
  have hsl := isSet_len hs
  have hcl := cmp_len hs
  have hg1 : 1 ≤ g.length := List.length_pos_iff.mpr g0
  have hgl := gs.length_le
  have hZ : ((cmp n s).take b).length = b := by rw [List.length_take]; omega
  have zin : ∀ i ∈ (cmp n s).take b, (0 ≤ i ∧ i < (n : Int)) ∧ i ∉ s := fun i hi => cmp_mem.mp (List.mem_of_mem_take hi)
  have hw2 := (wi_wth hl hs gs _).mp hw
  have cnn : ∀ k : Nat, k < n → 0 ≤ ixI cs (k : Int) ∧ ixI cs (k : Int) < 1 := fun k hk => by
    have := hc.2.1 _ (ixI_mem (xs := cs) (i := (k : Int)) (by rw [hc.1]; omega))
    exact ⟨this.1.1, this.2⟩
  -- so many are up to the limit
  have low : ∀ i ∈ g ++ (cmp n s).take b, i ∈ upI qs (ixI cs ((g.length + b - 1 : Nat) : Int)) := fun i hi => by
    rw [mem_upI, hlq]
    rcases List.mem_append.mp hi with z | z
    · refine ⟨hs.2.2 i (gs.subset z), ?_⟩
      rw [q1 i (gs.subset z)]
      have := hw2 i z
      rwa [show ((g.length : Int) + (b : Int) - 1) = ((g.length + b - 1 : Nat) : Int) by omega] at this
    · refine ⟨(zin i z).1, ?_⟩
      rw [q2 i z]
      exact (cnn _ (by omega)).1
  have nd : (g ++ (cmp n s).take b).Nodup := by
    rw [List.nodup_append]
    exact ⟨nodup_of_lt (hs.2.1.sublist gs), (cmp_nodup n s).sublist (List.take_sublist _ _), fun x hx y hy e => by
      subst e
      exact (zin x hy).2 (gs.subset hx)⟩
  have hv : vUp qs cs (g.length + b - 1) := by
    unfold vUp
    have hsub : (sortI (g ++ (cmp n s).take b)).Sublist (upI qs (ixI cs ((g.length + b - 1 : Nat) : Int))) := LW.asc_sub (sortI_lt nd) (upI_asc _ _) fun i hi => low i ((sortI_perm _).mem_iff.mp hi)
    have := hsub.length_le
    rw [(sortI_perm _).length_eq, List.length_append, hZ] at this
    omega
  rcases up_last hlq hc with ⟨_, h⟩ | ⟨K, k1, k2, k3, k4, k5⟩
  · exact absurd hv (h _ (by omega))
  have hK : g.length + b - 1 ≤ K := Nat.le_of_not_lt fun z => k5 _ z (by omega) hv
  obtain ⟨R, hR⟩ : ∃ R, upS qs cs = R := ⟨_, rfl⟩
  have hne : R ≠ [] := fun e => by
    rw [hR, e] at k4
    simp at k4
  rw [shQ_frac (s := s) hR hne]
  rw [hR] at k3 k4
  have rasc : R.Pairwise (· < ·) := by rw [← hR]; exact upS_asc _ _
  have hin : ∀ i ∈ g ++ (cmp n s).take b, i ∈ R := fun i hi => by
    have := mem_upI.mp (low i hi)
    rw [k3, mem_upI]
    exact ⟨this.1, Rat.le_trans this.2 (hc.mono hK k1)⟩
  have out : ∀ i ∈ R, i ∉ s → i ∈ (cmp n s).take b := fun i hi his => by
    refine Classical.byContradiction fun hn => ?_
    rw [k3, mem_upI, hlq] at hi
    have h1 := hi.2
    rw [q3 i hi.1.1 hi.1.2 his hn] at h1
    exact Rat.not_le.mpr (cnn K k1).2 h1
  have h2 := filter_two (fun i => decide (i ∈ s)) R
  have hrest : (R.filter fun i => !decide (i ∈ s)).length = b := by
    have hp : (R.filter fun i => !decide (i ∈ s)).Perm ((cmp n s).take b) := (List.perm_ext_iff_of_nodup ((nodup_of_lt rasc).filter _) ((cmp_nodup n s).sublist (List.take_sublist _ _))).mpr fun i => by
      rw [List.mem_filter]
      constructor
      · rintro ⟨a, c⟩
        exact out i a (by simpa using c)
      · exact fun hi => ⟨hin i (List.mem_append_right _ hi), by simpa using (zin i hi).2⟩
    rw [hp.length_eq, hZ]
  have hA : g.length ≤ (R.filter fun i => decide (i ∈ s)).length := by
    have hsub : g.Sublist (R.filter fun i => decide (i ∈ s)) := LW.asc_sub (hs.2.1.sublist gs) (rasc.filter _) fun i hi => List.mem_filter.mpr ⟨hin i (List.mem_append_left _ hi), decide_eq_true (gs.subset hi)⟩
    exact hsub.length_le
  have := frac_mono (b := b) hg1 hA
  rw [show (R.length : Int) = ((R.filter fun i => decide (i ∈ s)).length : Int) + (b : Int) by omega]
  exact this
/-- it does not fall as numbers fall -/
theorem most_less (hl : ps.length = n) (hq : qs.length = n) (hs : isSet n s) (hle : ∀ i : Int, 0 ≤ i → i < n → ixI qs i ≤ ixI ps i) {u v : Rat} (a : IsMost (wths n cs s) ps u) (b : IsMost (wths n cs s) qs v) : u ≤ v := by
  rcases a.at_ with e | ⟨x, hx, hw, e⟩
  · rw [e]
    exact b.nn
  · rw [e]
    refine b.ub x hx ?_
    obtain ⟨k, _, g, _, gs, rfl⟩ := mem_wths.mp hx
    refine (wi_wth hq hs gs _).mpr fun i hi => ?_
    have hi2 := hs.2.2 i (gs.subset hi)
    exact Rat.le_trans (hle i hi2.1 hi2.2) ((wi_wth hl hs gs _).mp hw i hi)
theorem share_le_most (hl : ps.length = n) (hc : Lms B n cs) (hs : isSet n s) {v : Rat} (a : IsMost (wths n cs s) ps v) : shQ ps cs s ≤ v := by
  by_cases h : shQ ps cs s = 0
  · rw [h]
    exact a.nn
  · obtain ⟨x, hx, hw, e⟩ := share_worth hl hc hs h
    rw [e]
    exact a.ub x hx hw
/-- numbers of the lot tell what is the most -/
theorem most_same (hl : ps.length = n) (hq : qs.length = n) (hs : isSet n s) (he : ∀ i ∈ s, ixI qs i = ixI ps i) {v : Rat} (a : IsMost (wths n cs s) ps v) : IsMost (wths n cs s) qs v := by
  have e : ∀ x ∈ wths n cs s, (wi qs x.1 = true ↔ wi ps x.1 = true) := fun x hx => by
    obtain ⟨k, _, g, _, gs, rfl⟩ := mem_wths.mp hx
    rw [wi_wth hq hs gs, wi_wth hl hs gs]
    exact ⟨fun h i hi => by rw [← he i (gs.subset hi)]; exact h i hi, fun h i hi => by rw [he i (gs.subset hi)]; exact h i hi⟩
  refine ⟨a.nn, fun x hx hw => a.ub x hx ((e x hx).mp hw), ?_⟩
  rcases a.at_ with z | ⟨x, hx, hw, z⟩
  · exact .inl z
  · exact .inr ⟨x, hx, (e x hx).mpr hw, z⟩
/-! ### rows of the others' numbers -/
def rowF (f : Int → Bool) (ps : List Rat) (ks : IS) : List Rat := ks.foldl (fun r k => r.set k.toNat (if f k = true then 1 else 0)) ps
theorem rowF_app (f : Int → Bool) (ps : List Rat) (ks : IS) (k : Int) : rowF f ps (ks ++ [k]) = (rowF f ps ks).set k.toNat (if f k = true then 1 else 0) := by
  unfold rowF
  rw [List.foldl_append]
  rfl
theorem ixI_set {xs : List Rat} {k i : Int} {v : Rat} (hl : xs.length = n) (k0 : 0 ≤ k) (k1 : k < n) (i0 : 0 ≤ i) (i1 : i < n) : ixI (xs.set k.toNat v) i = if i = k then v else ixI xs i := by
  obtain ⟨j, rfl⟩ : ∃ j : Nat, i = j := ⟨i.toNat, by omega⟩
  refine getI ?_
  rw [List.getElem?_set]
  by_cases c : (j : Int) = k
  · rw [if_pos (by omega), if_pos (by omega), if_pos c]
  · rw [if_neg (by omega), if_neg c]
    have := ixI_get (xs := xs) (i := (j : Int)) (by omega) (by omega)
    exact this
theorem rowF_get (f : Int → Bool) (hl : ps.length = n) : ∀ ks : IS, InR n ks → (rowF f ps ks).length = n ∧ ∀ i : Int, 0 ≤ i → i < n → ixI (rowF f ps ks) i = if i ∈ ks then (if f i = true then 1 else 0) else ixI ps i :=
  snoc_ind (P := fun ks => InR n ks → (rowF f ps ks).length = n ∧ ∀ i : Int, 0 ≤ i → i < n → ixI (rowF f ps ks) i = if i ∈ ks then (if f i = true then 1 else 0) else ixI ps i) (fun _ => ⟨hl, fun i _ _ => by rw [if_neg (by simp)]; rfl⟩) fun ks k ih hi => by
    have hk := hi k (List.mem_append_right _ (List.mem_singleton.mpr rfl))
    obtain ⟨a, b⟩ := ih fun i h => hi i (List.mem_append_left _ h)
    rw [rowF_app]
    refine ⟨by rw [List.length_set, a], fun i i0 i1 => ?_⟩
    rw [ixI_set a hk.1 hk.2 i0 i1]
    by_cases c : i = k
    · rw [if_pos c, c, if_pos (List.mem_append_right _ (List.mem_singleton.mpr rfl))]
    · rw [if_neg c, b i i0 i1]
      by_cases d : i ∈ ks
      · rw [if_pos d, if_pos (List.mem_append_left _ d)]
      · rw [if_neg d, if_neg fun z => by
          rcases List.mem_append.mp z with z | z
          · exact d z
          · exact c (List.mem_singleton.mp z)]
/-- all rows of 0 and 1 at these places -/
def rowsF (ps : List Rat) (ks : IS) : List (List Rat) := ks.foldl (fun rs k => rs.map (fun r => r.set k.toNat 1) ++ rs.map fun r => r.set k.toNat 0) [ps]
theorem rowsF_app (ps : List Rat) (ks : IS) (k : Int) : rowsF ps (ks ++ [k]) = (rowsF ps ks).map (fun r => r.set k.toNat 1) ++ (rowsF ps ks).map fun r => r.set k.toNat 0 := by
  unfold rowsF
  rw [List.foldl_append]
  rfl
theorem rowsF_mem : ∀ ks : IS, InR n ks → ∀ r ∈ rowsF ps ks, ∃ f : Int → Bool, ∀ (hl : ps.length = n), (r.length = n ∧ ∀ i : Int, 0 ≤ i → i < n → ixI r i = if i ∈ ks then (if f i = true then 1 else 0) else ixI ps i) :=
  snoc_ind (P := fun ks => InR n ks → ∀ r ∈ rowsF ps ks, ∃ f : Int → Bool, ∀ (hl : ps.length = n), (r.length = n ∧ ∀ i : Int, 0 ≤ i → i < n → ixI r i = if i ∈ ks then (if f i = true then 1 else 0) else ixI ps i)) (fun _ r hr => ⟨fun _ => true, fun hl => by
      obtain rfl : r = ps := List.mem_singleton.mp hr
      exact ⟨hl, fun i _ _ => by rw [if_neg (by simp)]⟩⟩) fun ks k ih hi r hr => by
    have hk := hi k (List.mem_append_right _ (List.mem_singleton.mpr rfl))
    rw [rowsF_app] at hr
    have key : ∀ (v : Bool), r ∈ (rowsF ps ks).map (fun r => r.set k.toNat (if v = true then 1 else 0)) → ∃ f : Int → Bool, ∀ (hl : ps.length = n), (r.length = n ∧ ∀ i : Int, 0 ≤ i → i < n → ixI r i = if i ∈ ks ++ [k] then (if f i = true then 1 else 0) else ixI ps i) := fun v hv => by
      obtain ⟨q, hq, rfl⟩ := List.mem_map.mp hv
      obtain ⟨f, hf⟩ := ih (fun i h => hi i (List.mem_append_left _ h)) q hq
      obtain ⟨F, Fk, Fi⟩ : ∃ F : Int → Bool, F k = v ∧ ∀ i, i ≠ k → F i = f i := ⟨fun i => if i = k then v else f i, if_pos rfl, fun i h => if_neg h⟩
      refine ⟨F, fun hl => ?_⟩
      obtain ⟨a, b⟩ := hf hl
      refine ⟨by rw [List.length_set, a], fun i i0 i1 => ?_⟩
      rw [ixI_set a hk.1 hk.2 i0 i1]
      by_cases c : i = k
      · rw [if_pos c, c, if_pos (List.mem_append_right _ (List.mem_singleton.mpr rfl)), Fk]
      · rw [if_neg c, b i i0 i1, Fi i c]
        by_cases d : i ∈ ks
        · rw [if_pos d, if_pos (List.mem_append_left _ d)]
        · rw [if_neg d, if_neg fun z => by
            rcases List.mem_append.mp z with z | z
            · exact d z
            · exact c (List.mem_singleton.mp z)]
    rcases List.mem_append.mp hr with z | z
    · exact key true z
    · exact key false z
theorem rowF_in (f : Int → Bool) : ∀ ks : IS, rowF f ps ks ∈ rowsF ps ks :=
  snoc_ind (P := fun ks => rowF f ps ks ∈ rowsF ps ks) (List.mem_singleton.mpr rfl) fun ks k ih => by
    rw [rowF_app, rowsF_app]
    cases f k with
    | true => exact List.mem_append_left _ (List.mem_map.mpr ⟨_, ih, rfl⟩)
    | false => exact List.mem_append_right _ (List.mem_map.mpr ⟨_, ih, rfl⟩)
theorem rowsF_len : ∀ ks : IS, (rowsF ps ks).length = 2 ^ ks.length :=
  snoc_ind (P := fun ks => (rowsF ps ks).length = 2 ^ ks.length) rfl fun ks k ih => by
    rw [rowsF_app, List.length_append, List.length_map, List.length_map, ih, List.length_append, List.length_singleton, Nat.pow_succ]
    omega
/-- the greatest share over all rows is the most -/
theorem rows_most (hl : ps.length = n) (hc : Lms B n cs) (hs : isSet n s) {v u : Rat} (a : IsMost (wths n cs s) ps v) (u0 : 0 ≤ u) (hub : ∀ r ∈ rowsF ps (cmp n s), shQ r cs s ≤ u) (hat : u = 0 ∨ ∃ r ∈ rowsF ps (cmp n s), u = shQ r cs s) : u = v := by
  refine Rat.le_antisymm ?_ ?_
  · rcases hat with e | ⟨r, hr, e⟩
    · rw [e]
      exact a.nn
    · obtain ⟨f, hf⟩ := rowsF_mem (cmp n s) (cmp_in n s) r hr
      obtain ⟨rl, rg⟩ := hf hl
      rw [e]
      refine share_le_most rl hc hs (most_same hl rl hs (fun i hi => ?_) a)
      have hi2 := hs.2.2 i hi
      rw [rg i hi2.1 hi2.2, if_neg fun z => (cmp_mem.mp z).2 hi]
  · rcases a.at_ with e | ⟨x, hx, hw, e⟩
    · rw [e]
      exact u0
    · obtain ⟨b, hb, g, g0, gs, rfl⟩ := mem_wths.mp hx
      rw [e]
      obtain ⟨rl, rg⟩ := rowF_get (fun k => !decide (k ∈ (cmp n s).take b)) hl (cmp n s) (cmp_in n s)
      refine Rat.le_trans (worth_reached hl rl hc hs hb g0 gs hw (fun i hi => ?_) (fun i hi => ?_) fun i i0 i1 his hiz => ?_) (hub _ (rowF_in _ (cmp n s)))
      · have hi2 := hs.2.2 i hi
        rw [rg i hi2.1 hi2.2, if_neg fun z => (cmp_mem.mp z).2 hi]
      · have hm := List.mem_of_mem_take hi
        have hi2 := (cmp_mem.mp hm).1
        rw [rg i hi2.1 hi2.2, if_pos hm, if_neg (by simp [hi])]
      · rw [rg i i0 i1, if_pos (cmp_mem.mpr ⟨⟨i0, i1⟩, his⟩), if_pos (by simp [hiz])]
end
end SP

set_option exponentiation.threshold 20000
namespace K41
open PySem PySem.Spec L2 DL PF MD MP ML LV
open LV (encR IsR isR Rz)
open PyProof.Rows hiding St
noncomputable section
/-! worths_against -/
def M_worths_against_count1 (v_limits : (List KR)) (v_lot : (List Int)) : Int := ((v_limits).length : Int)
def M_worths_against_groups1 (v_limits : (List KR)) (v_lot : (List Int)) : (List (List Int)) := (List.filter (fun (x1 : (List Int)) => (M_is_part x1 v_lot)) ((ssets (Int.toNat (M_worths_against_count1 v_limits v_lot)))))
def M_worths_against (v_limits : (List KR)) (v_lot : (List Int)) : (List ((List (Option KR)) × Rat)) := (List.flatMap (fun (x3 : Int) => (List.map (fun (x4 : (List Int)) => (M_share_worth v_limits x4 x3)) (M_worths_against_groups1 v_limits v_lot))) (upto (Int.toNat (((M_worths_against_count1 v_limits v_lot) - ((v_lot).length : Int)) + (1 : Int)))))
structure S_worths_against (v_limits : (List KR)) (v_lot : (List Int)) : Prop where
  c1 : 1 ≤ (M_worths_against_count1 v_limits v_lot) ∧ (M_worths_against_count1 v_limits v_lot) ≤ 5
  c2 : (((ssets (Int.toNat (M_worths_against_count1 v_limits v_lot))))).length ≤ sizeLine
  c3 : ∀ x1 : (List Int), x1 ∈ ((ssets (Int.toNat (M_worths_against_count1 v_limits v_lot)))) → S_is_part x1 v_lot
  c4 : small (((M_worths_against_count1 v_limits v_lot) - ((v_lot).length : Int)) + (1 : Int)) = true
  c5 : ∀ x3 : Int, x3 ∈ (upto (Int.toNat (((M_worths_against_count1 v_limits v_lot) - ((v_lot).length : Int)) + (1 : Int)))) → ∀ x4 : (List Int), x4 ∈ (M_worths_against_groups1 v_limits v_lot) → S_share_worth v_limits x4 x3
  c6 : ((List.flatMap (fun (x3 : Int) => (List.map (fun (x4 : (List Int)) => (M_share_worth v_limits x4 x3)) (M_worths_against_groups1 v_limits v_lot))) (upto (Int.toNat (((M_worths_against_count1 v_limits v_lot) - ((v_lot).length : Int)) + (1 : Int)))))).length ≤ sizeLine
theorem T_worths_against {w : Wl} (v_limits : (List KR)) (v_lot : (List Int)) (h : S_worths_against v_limits v_lot) : G_worths_against [(eT eK) v_limits, (eT D.int) v_lot] w = .ok ((eT (eP (eT (eO eK)) encR)) (M_worths_against v_limits v_lot)) w := by
  refine run_rt ?_
  refine sq (setE (dv := D.int (M_worths_against_count1 v_limits v_lot)) (lenT rfl)) ?_
  refine sq (setE (dv := (eL (eT D.int)) (M_worths_against_groups1 v_limits v_lot)) (filtI (filtE (e := (eT D.int)) (e2 := (eT D.int)) (xs := ((ssets (Int.toNat (M_worths_against_count1 v_limits v_lot))))) (p := (fun (x1 : (List Int)) => (M_is_part x1 v_lot))) (f := (fun (x1 : (List Int)) => x1)) (seqT ((efn_ev (ds := [D.int (M_worths_against_count1 v_limits v_lot)]) (one_ev rfl) rfl).trans (MD.T_all_sets (M_worths_against_count1 v_limits v_lot) h.c1))) h.c2 (fun x1 hx1 => ⟨_, rfl, (tru_ev ((efn_ev (ds := [(eT D.int) x1, (eT D.int) v_lot]) (cons_ev rfl (one_ev rfl)) rfl).trans (T_is_part x1 v_lot (h.c3 x1 hx1)))), fun hc2 => rfl⟩)))) ?_
  exact retE (tupL (lc2_ev (e := D.int) (e1 := (eT D.int)) (e2 := (eP (eT (eO eK)) encR)) (xs := (upto (Int.toNat (((M_worths_against_count1 v_limits v_lot) - ((v_lot).length : Int)) + (1 : Int))))) (ys := fun (x3 : Int) => (M_worths_against_groups1 v_limits v_lot)) (fn := fun (x3 : Int) (x4 : (List Int)) => (M_share_worth v_limits x4 x3)) (rng1 (add_ev (MD.sub_ev rfl (lenT rfl)) rfl) h.c4) h.c6 (fun x3 hx3 => ⟨_, rfl, rfl, (seqL rfl), fun x4 hx4 => ⟨_, rfl, ((efn_ev (ds := [(eT eK) v_limits, (eT D.int) x4, D.int x3]) (cons_ev rfl (cons_ev rfl (one_ev rfl))) rfl).trans (T_share_worth v_limits x4 x3 (h.c5 x3 hx3 x4 hx4)))⟩⟩)))
/-! share_worths -/
def M_share_worths (v_limits : (List KR)) (v_lot : (List Int)) : (List ((List (Option KR)) × Rat)) := (M_worths_against v_limits v_lot)
structure S_share_worths (v_limits : (List KR)) (v_lot : (List Int)) : Prop where
  c1 : S_check_leading_limits v_limits
  c2 : S_check_set ((v_limits).length : Int) v_lot
  c3 : S_worths_against v_limits v_lot
theorem T_share_worths {w : Wl} (v_limits : (List KR)) (v_lot : (List Int)) (h : S_share_worths v_limits v_lot) : G_share_worths [(eT eK) v_limits, (eT D.int) v_lot] w = .ok ((eT (eP (eT (eO eK)) encR)) (M_share_worths v_limits v_lot)) w := by
  refine run_rt ?_
  refine sq (dropE ((efn_ev (ds := [(eT eK) v_limits]) (one_ev rfl) rfl).trans (T_check_leading_limits v_limits h.c1))) ?_
  refine sq (dropE ((efn_ev (ds := [D.int ((v_limits).length : Int), (eT D.int) v_lot]) (cons_ev (lenT rfl) (one_ev rfl)) rfl).trans (T_check_set ((v_limits).length : Int) v_lot h.c2))) ?_
  exact retE ((efn_ev (ds := [(eT eK) v_limits, (eT D.int) v_lot]) (cons_ev rfl (one_ev rfl)) rfl).trans (T_worths_against v_limits v_lot h.c3))
/-! _law_worth_at -/
def M_law_worth_at_found1 (v_worths : (List ((List (Option Rat)) × Rat))) (v_seen : (List Rat)) (x1 : ((List (Option Rat)) × Rat)) (s2 : Rat) : Rat := (bif (M_law_is_in v_seen x1.1) then (M_law_greater s2 x1.2) else s2)
def M_law_worth_at_step1 (v_worths : (List ((List (Option Rat)) × Rat))) (v_seen : (List Rat)) (x1 : ((List (Option Rat)) × Rat)) (s2 : Rat) : Rat := (M_law_worth_at_found1 v_worths v_seen x1 s2)
structure S_law_worth_at_l1 (v_worths : (List ((List (Option Rat)) × Rat))) (v_seen : (List Rat)) (x1 : ((List (Option Rat)) × Rat)) (s2 : Rat) : Prop where
  c1 : S_law_is_in v_seen x1.1
  c2 : (M_law_is_in v_seen x1.1) = true → S_law_greater s2 x1.2
def M_law_worth_at_l1 (v_worths : (List ((List (Option Rat)) × Rat))) (v_seen : (List Rat)) : Rat := foldS (M_law_worth_at_step1 v_worths v_seen) v_worths (0 : Rat)
def M_law_worth_at (v_worths : (List ((List (Option Rat)) × Rat))) (v_seen : (List Rat)) : Rat := (M_law_worth_at_l1 v_worths v_seen)
structure S_law_worth_at (v_worths : (List ((List (Option Rat)) × Rat))) (v_seen : (List Rat)) : Prop where
  c1 : SafeL (M_law_worth_at_step1 v_worths v_seen) (S_law_worth_at_l1 v_worths v_seen) v_worths (0 : Rat)
theorem T_law_worth_at {w : Wl} (v_worths : (List ((List (Option Rat)) × Rat))) (v_seen : (List Rat)) (h : S_law_worth_at v_worths v_seen) : G__law_worth_at [(eT (eP (eT (eO encR)) encR)) v_worths, (eT encR) v_seen] w = .ok (encR (M_law_worth_at v_worths v_seen)) w := by
  refine run_rt ?_
  refine sq (setE (dv := encR (0 : Rat)) rfl) ?_
  refine sqX (Q := (fun (s2 : Rat) (en : List Sl) => ∃ j_edge j_cut : Sl, en = [.dat ((eT (eP (eT (eO encR)) encR)) v_worths), .dat ((eT encR) v_seen), .dat (encR s2), j_edge, j_cut]) (M_law_worth_at_l1 v_worths v_seen)) (forE (e := (eP (eT (eO encR)) encR)) (xs := v_worths) (M_law_worth_at_step1 v_worths v_seen) (S_law_worth_at_l1 v_worths v_seen) (fun (s2 : Rat) (en : List Sl) => ∃ j_edge j_cut : Sl, en = [.dat ((eT (eP (eT (eO encR)) encR)) v_worths), .dat ((eT encR) v_seen), .dat (encR s2), j_edge, j_cut]) (s0 := (0 : Rat)) (seqT rfl) ⟨_, _, rfl⟩ h.c1 (fun x1 s2 en hx1 g3 hq => ?_)) (fun en5 hq6 => ?_)
  · obtain ⟨j_edge, j_cut, rfl⟩ := hq
    refine ⟨_, rfl, ?_⟩
    refine NxR.last (setE (dv := encR (M_law_worth_at_found1 v_worths v_seen x1 s2)) (ifE (e := encR) (c := (M_law_is_in v_seen x1.1)) (a := (M_law_greater s2 x1.2)) (b := s2) (tru_ev ((efn_ev (ds := [(eT encR) v_seen, (eT (eO encR)) x1.1]) (cons_ev rfl (one_ev rfl)) rfl).trans (T_law_is_in v_seen x1.1 g3.c1))) (fun hc4 => ((efn_ev (ds := [encR s2, encR x1.2]) (cons_ev rfl (one_ev rfl)) rfl).trans (T_law_greater s2 x1.2 (g3.c2 hc4)))) (fun hc4 => rfl))) ?_
    exact by first | rfl | trivial | exact ⟨_, rfl⟩ | exact ⟨_, _, rfl⟩ | exact ⟨_, _, _, rfl⟩ | exact ⟨_, _, _, _, rfl⟩ | exact ⟨_, _, _, _, _, rfl⟩ | exact ⟨_, _, _, _, _, _, rfl⟩ | exact ⟨_, _, _, _, _, _, _, rfl⟩ | exact ⟨_, _, _, _, _, _, _, _, rfl⟩
  obtain ⟨j_edge, j_cut, rfl⟩ := hq6
  exact retE rfl
/-! _law_greatest -/
def M_law_greatest_found1 (v_seen : (List Rat)) (v_steps : (List Rat)) (v_part : (List Int)) : KR := (KR.r (0 : Rat))
def M_law_greatest_ends1 (v_seen : (List Rat)) (v_steps : (List Rat)) (v_part : (List Int)) (x3 : Int) (s4 : (List (List Rat))) : (List (List Rat)) := (List.map (fun (x6 : (List Rat)) => (((slI x6 none (some x3)) ++ [(1 : Rat)]) ++ (slI x6 (some (x3 + (1 : Int))) none))) s4)
def M_law_greatest_rows1 (v_seen : (List Rat)) (v_steps : (List Rat)) (v_part : (List Int)) (x3 : Int) (s4 : (List (List Rat))) : (List (List Rat)) := ((M_law_greatest_ends1 v_seen v_steps v_part x3 s4) ++ (List.map (fun (x7 : (List Rat)) => (((slI x7 none (some x3)) ++ [(0 : Rat)]) ++ (slI x7 (some (x3 + (1 : Int))) none))) s4))
def M_law_greatest_step1 (v_seen : (List Rat)) (v_steps : (List Rat)) (v_part : (List Int)) (x3 : Int) (s4 : (List (List Rat))) : (List (List Rat)) := (M_law_greatest_rows1 v_seen v_steps v_part x3 s4)
structure S_law_greatest_l1 (v_seen : (List Rat)) (v_steps : (List Rat)) (v_part : (List Int)) (x3 : Int) (s4 : (List (List Rat))) : Prop where
  c1 : (s4).length ≤ sizeLine
  c2 : ∀ x6 : (List Rat), x6 ∈ s4 → ((slI x6 none (some x3))).length + ([(1 : Rat)]).length ≤ sizeLine
  c3 : ∀ x6 : (List Rat), x6 ∈ s4 → (((slI x6 none (some x3)) ++ [(1 : Rat)])).length + ((slI x6 (some (x3 + (1 : Int))) none)).length ≤ sizeLine
  c4 : ∀ x7 : (List Rat), x7 ∈ s4 → ((slI x7 none (some x3))).length + ([(0 : Rat)]).length ≤ sizeLine
  c5 : ∀ x7 : (List Rat), x7 ∈ s4 → (((slI x7 none (some x3)) ++ [(0 : Rat)])).length + ((slI x7 (some (x3 + (1 : Int))) none)).length ≤ sizeLine
  c6 : ((M_law_greatest_ends1 v_seen v_steps v_part x3 s4)).length + ((List.map (fun (x7 : (List Rat)) => (((slI x7 none (some x3)) ++ [(0 : Rat)]) ++ (slI x7 (some (x3 + (1 : Int))) none))) s4)).length ≤ sizeLine
def M_law_greatest_l1 (v_seen : (List Rat)) (v_steps : (List Rat)) (v_part : (List Int)) : (List (List Rat)) := foldS (M_law_greatest_step1 v_seen v_steps v_part) (List.filter (fun (x1 : Int) => (!(decide (x1 ∈ v_part)))) (upto (Int.toNat ((v_seen).length : Int)))) [v_seen]
def M_law_greatest_found2 (v_seen : (List Rat)) (v_steps : (List Rat)) (v_part : (List Int)) (x10 : (List Rat)) (s11 : KR) : KR := (M_law_greater_v3 s11 (M_share (List.map KR.r x10) (List.map KR.r v_steps) v_part))
def M_law_greatest_step2 (v_seen : (List Rat)) (v_steps : (List Rat)) (v_part : (List Int)) (x10 : (List Rat)) (s11 : KR) : KR := (M_law_greatest_found2 v_seen v_steps v_part x10 s11)
structure S_law_greatest_l2 (v_seen : (List Rat)) (v_steps : (List Rat)) (v_part : (List Int)) (x10 : (List Rat)) (s11 : KR) : Prop where
  c1 : S_share (List.map KR.r x10) (List.map KR.r v_steps) v_part
  c2 : S_law_greater_v3 s11 (M_share (List.map KR.r x10) (List.map KR.r v_steps) v_part)
def M_law_greatest_l2 (v_seen : (List Rat)) (v_steps : (List Rat)) (v_part : (List Int)) : KR := foldS (M_law_greatest_step2 v_seen v_steps v_part) (M_law_greatest_l1 v_seen v_steps v_part) (M_law_greatest_found1 v_seen v_steps v_part)
def M_law_greatest (v_seen : (List Rat)) (v_steps : (List Rat)) (v_part : (List Int)) : KR := (M_law_greatest_l2 v_seen v_steps v_part)
structure S_law_greatest (v_seen : (List Rat)) (v_steps : (List Rat)) (v_part : (List Int)) : Prop where
  c1 : small ((v_seen).length : Int) = true
  c2 : ((upto (Int.toNat ((v_seen).length : Int)))).length ≤ sizeLine
  c3 : SafeL (M_law_greatest_step1 v_seen v_steps v_part) (S_law_greatest_l1 v_seen v_steps v_part) (List.filter (fun (x1 : Int) => (!(decide (x1 ∈ v_part)))) (upto (Int.toNat ((v_seen).length : Int)))) [v_seen]
  c4 : SafeL (M_law_greatest_step2 v_seen v_steps v_part) (S_law_greatest_l2 v_seen v_steps v_part) (M_law_greatest_l1 v_seen v_steps v_part) (M_law_greatest_found1 v_seen v_steps v_part)
theorem T_law_greatest {w : Wl} (v_seen : (List Rat)) (v_steps : (List Rat)) (v_part : (List Int)) (h : S_law_greatest v_seen v_steps v_part) : G__law_greatest [(eT encR) v_seen, (eT encR) v_steps, (eT D.int) v_part] w = .ok (eK (M_law_greatest v_seen v_steps v_part)) w := by
  refine run_rt ?_
  refine sq (parE (cons_ev (elst_ev (one_ev rfl) (show 1 ≤ sizeLine by decide)) (one_ev rfl))) ?_
  refine sqX (Q := (fun (s4 : (List (List Rat))) (en : List Sl) => ∃ j_k j_ends j_row : Sl, en = [.dat ((eT encR) v_seen), .dat ((eT encR) v_steps), .dat ((eT D.int) v_part), .dat ((eL (eT encR)) s4), .dat (eK (M_law_greatest_found1 v_seen v_steps v_part)), j_k, .non, j_ends, j_row]) (M_law_greatest_l1 v_seen v_steps v_part)) (forE (e := D.int) (xs := (List.filter (fun (x1 : Int) => (!(decide (x1 ∈ v_part)))) (upto (Int.toNat ((v_seen).length : Int))))) (M_law_greatest_step1 v_seen v_steps v_part) (S_law_greatest_l1 v_seen v_steps v_part) (fun (s4 : (List (List Rat))) (en : List Sl) => ∃ j_k j_ends j_row : Sl, en = [.dat ((eT encR) v_seen), .dat ((eT encR) v_steps), .dat ((eT D.int) v_part), .dat ((eL (eT encR)) s4), .dat (eK (M_law_greatest_found1 v_seen v_steps v_part)), j_k, .non, j_ends, j_row]) (s0 := [v_seen]) (seqL (filtI (filtE (e := D.int) (e2 := D.int) (xs := (upto (Int.toNat ((v_seen).length : Int)))) (p := (fun (x1 : Int) => (!(decide (x1 ∈ v_part))))) (f := (fun (x1 : Int) => x1)) (rng1 (lenT rfl) h.c1) h.c2 (fun x1 hx1 => ⟨_, rfl, (notinT (e := D.int) (x := x1) (xs := v_part) eqv_int rfl rfl), fun hc2 => rfl⟩)))) ⟨_, _, _, rfl⟩ h.c3 (fun x3 s4 en hx3 g5 hq => ?_)) (fun en8 hq9 => ?_)
  · obtain ⟨j_k, j_ends, j_row, rfl⟩ := hq
    refine ⟨_, rfl, ?_⟩
    refine NxR.sq (setE (dv := (eL (eT encR)) (M_law_greatest_ends1 v_seen v_steps v_part x3 s4)) (mapE (e := (eT encR)) (e2 := (eT encR)) (xs := s4) (f := (fun (x6 : (List Rat)) => (((slI x6 none (some x3)) ++ [(1 : Rat)]) ++ (slI x6 (some (x3 + (1 : Int))) none)))) (seqL rfl) g5.c1 (fun x6 hx6 => ⟨_, rfl, (catT (catT (slT rfl prN (prS rfl)) (etup_ev (one_ev rfl) (show 1 ≤ sizeLine by decide)) (g5.c2 x6 hx6)) (slT rfl (prS (add_ev rfl rfl)) prN) (g5.c3 x6 hx6))⟩))) ?_
    refine NxR.last (setE (dv := (eL (eT encR)) (M_law_greatest_rows1 v_seen v_steps v_part x3 s4)) (catL rfl (mapE (e := (eT encR)) (e2 := (eT encR)) (xs := s4) (f := (fun (x7 : (List Rat)) => (((slI x7 none (some x3)) ++ [(0 : Rat)]) ++ (slI x7 (some (x3 + (1 : Int))) none)))) (seqL rfl) g5.c1 (fun x7 hx7 => ⟨_, rfl, (catT (catT (slT rfl prN (prS rfl)) (etup_ev (one_ev rfl) (show 1 ≤ sizeLine by decide)) (g5.c4 x7 hx7)) (slT rfl (prS (add_ev rfl rfl)) prN) (g5.c5 x7 hx7))⟩)) g5.c6)) ?_
    exact by first | rfl | trivial | exact ⟨_, rfl⟩ | exact ⟨_, _, rfl⟩ | exact ⟨_, _, _, rfl⟩ | exact ⟨_, _, _, _, rfl⟩ | exact ⟨_, _, _, _, _, rfl⟩ | exact ⟨_, _, _, _, _, _, rfl⟩ | exact ⟨_, _, _, _, _, _, _, rfl⟩ | exact ⟨_, _, _, _, _, _, _, _, rfl⟩
  obtain ⟨j_k, j_ends, j_row, rfl⟩ := hq9
  refine sqX (Q := (fun (s11 : KR) (en : List Sl) => ∃ j_row : Sl, en = [.dat ((eT encR) v_seen), .dat ((eT encR) v_steps), .dat ((eT D.int) v_part), .dat ((eL (eT encR)) (M_law_greatest_l1 v_seen v_steps v_part)), .dat (eK s11), j_k, .non, j_ends, j_row]) (M_law_greatest_l2 v_seen v_steps v_part)) (forE (e := (eT encR)) (xs := (M_law_greatest_l1 v_seen v_steps v_part)) (M_law_greatest_step2 v_seen v_steps v_part) (S_law_greatest_l2 v_seen v_steps v_part) (fun (s11 : KR) (en : List Sl) => ∃ j_row : Sl, en = [.dat ((eT encR) v_seen), .dat ((eT encR) v_steps), .dat ((eT D.int) v_part), .dat ((eL (eT encR)) (M_law_greatest_l1 v_seen v_steps v_part)), .dat (eK s11), j_k, .non, j_ends, j_row]) (s0 := (M_law_greatest_found1 v_seen v_steps v_part)) (seqL rfl) ⟨_, rfl⟩ h.c4 (fun x10 s11 en hx10 g12 hq => ?_)) (fun en13 hq14 => ?_)
  · obtain ⟨j_row, rfl⟩ := hq
    refine ⟨_, rfl, ?_⟩
    refine NxR.last (setE (dv := eK (M_law_greatest_found2 v_seen v_steps v_part x10 s11)) ((efn_ev (ds := [eK s11, eK (M_share (List.map KR.r x10) (List.map KR.r v_steps) v_part)]) (cons_ev rfl (one_ev ((efn_ev (ds := [(eT eK) (List.map KR.r x10), (eT eK) (List.map KR.r v_steps), (eT D.int) v_part]) (cons_ev (castE ((coT (e := encR) (e2 := eK) (c := KR.r) (fun _ => rfl)) x10) rfl) (cons_ev (castE ((coT (e := encR) (e2 := eK) (c := KR.r) (fun _ => rfl)) v_steps) rfl) (one_ev rfl))) rfl).trans (T_share (List.map KR.r x10) (List.map KR.r v_steps) v_part g12.c1)))) rfl).trans (T_law_greater_v3 s11 (M_share (List.map KR.r x10) (List.map KR.r v_steps) v_part) g12.c2))) ?_
    exact by first | rfl | trivial | exact ⟨_, rfl⟩ | exact ⟨_, _, rfl⟩ | exact ⟨_, _, _, rfl⟩ | exact ⟨_, _, _, _, rfl⟩ | exact ⟨_, _, _, _, _, rfl⟩ | exact ⟨_, _, _, _, _, _, rfl⟩ | exact ⟨_, _, _, _, _, _, _, rfl⟩ | exact ⟨_, _, _, _, _, _, _, _, rfl⟩
  obtain ⟨j_row, rfl⟩ := hq14
  exact retE rfl
/-! _law_worth_at -/
def M_law_worth_at_v2_found1 (v_worths : (List ((List (Option KR)) × Rat))) (v_seen : (List Rat)) (x1 : ((List (Option KR)) × Rat)) (s2 : Rat) : Rat := (bif (M_law_is_in_v2 v_seen x1.1) then (M_law_greater s2 x1.2) else s2)
def M_law_worth_at_v2_step1 (v_worths : (List ((List (Option KR)) × Rat))) (v_seen : (List Rat)) (x1 : ((List (Option KR)) × Rat)) (s2 : Rat) : Rat := (M_law_worth_at_v2_found1 v_worths v_seen x1 s2)
structure S_law_worth_at_v2_l1 (v_worths : (List ((List (Option KR)) × Rat))) (v_seen : (List Rat)) (x1 : ((List (Option KR)) × Rat)) (s2 : Rat) : Prop where
  c1 : S_law_is_in_v2 v_seen x1.1
  c2 : (M_law_is_in_v2 v_seen x1.1) = true → S_law_greater s2 x1.2
def M_law_worth_at_v2_l1 (v_worths : (List ((List (Option KR)) × Rat))) (v_seen : (List Rat)) : Rat := foldS (M_law_worth_at_v2_step1 v_worths v_seen) v_worths (0 : Rat)
def M_law_worth_at_v2 (v_worths : (List ((List (Option KR)) × Rat))) (v_seen : (List Rat)) : Rat := (M_law_worth_at_v2_l1 v_worths v_seen)
structure S_law_worth_at_v2 (v_worths : (List ((List (Option KR)) × Rat))) (v_seen : (List Rat)) : Prop where
  c1 : SafeL (M_law_worth_at_v2_step1 v_worths v_seen) (S_law_worth_at_v2_l1 v_worths v_seen) v_worths (0 : Rat)
theorem T_law_worth_at_v2 {w : Wl} (v_worths : (List ((List (Option KR)) × Rat))) (v_seen : (List Rat)) (h : S_law_worth_at_v2 v_worths v_seen) : G__law_worth_at [(eT (eP (eT (eO eK)) encR)) v_worths, (eT encR) v_seen] w = .ok (encR (M_law_worth_at_v2 v_worths v_seen)) w := by
  refine run_rt ?_
  refine sq (setE (dv := encR (0 : Rat)) rfl) ?_
  refine sqX (Q := (fun (s2 : Rat) (en : List Sl) => ∃ j_edge j_cut : Sl, en = [.dat ((eT (eP (eT (eO eK)) encR)) v_worths), .dat ((eT encR) v_seen), .dat (encR s2), j_edge, j_cut]) (M_law_worth_at_v2_l1 v_worths v_seen)) (forE (e := (eP (eT (eO eK)) encR)) (xs := v_worths) (M_law_worth_at_v2_step1 v_worths v_seen) (S_law_worth_at_v2_l1 v_worths v_seen) (fun (s2 : Rat) (en : List Sl) => ∃ j_edge j_cut : Sl, en = [.dat ((eT (eP (eT (eO eK)) encR)) v_worths), .dat ((eT encR) v_seen), .dat (encR s2), j_edge, j_cut]) (s0 := (0 : Rat)) (seqT rfl) ⟨_, _, rfl⟩ h.c1 (fun x1 s2 en hx1 g3 hq => ?_)) (fun en5 hq6 => ?_)
  · obtain ⟨j_edge, j_cut, rfl⟩ := hq
    refine ⟨_, rfl, ?_⟩
    refine NxR.last (setE (dv := encR (M_law_worth_at_v2_found1 v_worths v_seen x1 s2)) (ifE (e := encR) (c := (M_law_is_in_v2 v_seen x1.1)) (a := (M_law_greater s2 x1.2)) (b := s2) (tru_ev ((efn_ev (ds := [(eT encR) v_seen, (eT (eO eK)) x1.1]) (cons_ev rfl (one_ev rfl)) rfl).trans (T_law_is_in_v2 v_seen x1.1 g3.c1))) (fun hc4 => ((efn_ev (ds := [encR s2, encR x1.2]) (cons_ev rfl (one_ev rfl)) rfl).trans (T_law_greater s2 x1.2 (g3.c2 hc4)))) (fun hc4 => rfl))) ?_
    exact by first | rfl | trivial | exact ⟨_, rfl⟩ | exact ⟨_, _, rfl⟩ | exact ⟨_, _, _, rfl⟩ | exact ⟨_, _, _, _, rfl⟩ | exact ⟨_, _, _, _, _, rfl⟩ | exact ⟨_, _, _, _, _, _, rfl⟩ | exact ⟨_, _, _, _, _, _, _, rfl⟩ | exact ⟨_, _, _, _, _, _, _, _, rfl⟩
  obtain ⟨j_edge, j_cut, rfl⟩ := hq6
  exact retE rfl
/-! _law_right -/
def M_law_right_d1 (w : Wl) : Int × Wl := M_law_pick_TI [(3 : Int), (2 : Int), (4 : Int), (3 : Int), (5 : Int), (1 : Int)] w
def M_law_right_d2 (w : Wl) : (List Rat) × Wl := M_law_steps ((M_law_right_d1 w).1) ((M_law_right_d1 w).2)
def M_law_right_d3 (w : Wl) : (List Int) × Wl := M_law_pick_LTI ((ssets (Int.toNat ((M_law_right_d1 w).1)))) ((M_law_right_d2 w).2)
def M_law_right_d4 (w : Wl) : (List Rat) × Wl := M_law_marks ((M_law_right_d1 w).1) ((M_law_right_d2 w).1) ((M_law_right_d3 w).2)
def M_law_right_due1 (w : Wl) : Rat := (M_law_share ((M_law_right_d4 w).1) ((M_law_right_d2 w).1) ((M_law_right_d3 w).1))
def M_law_right_told1 (w : Wl) : (List ((List (Option KR)) × Rat)) := (M_share_worths (List.map KR.r ((M_law_right_d2 w).1)) ((M_law_right_d3 w).1))
def M_law_right_most1 (w : Wl) : Rat := (M_law_worth_at (M_law_worths ((M_law_right_d2 w).1) ((M_law_right_d3 w).1)) ((M_law_right_d4 w).1))
def M_law_right_d5 (w : Wl) (x2 : Rat) (w3 : Wl) : Rat × Wl := M_law_pick_TR [(1 : Rat), (mkRat 1 2), (0 : Rat), (mkRat 9 10)] w3
structure S_law_right_c1 (w : Wl) (x2 : Rat) (w3 : Wl) : Prop where
  c1 : S_law_pick_TR [(1 : Rat), (mkRat 1 2), (0 : Rat), (mkRat 9 10)] w3
  c2 : Rs x2 ((M_law_right_d5 w x2 w3).1)
def M_law_right_p1 (w : Wl) : Rat → Wl → Bool × Wl := (fun (x2 : Rat) (w3 : Wl) => (true, w3))
def M_law_right_f1 (w : Wl) : Rat → Wl → Rat × Wl := (fun (x2 : Rat) (w3 : Wl) => (((x2 * (M_law_right_d5 w x2 w3).1)), (M_law_right_d5 w x2 w3).2))
def M_law_right_l1 (w : Wl) : (List Rat) × Wl := lcW (M_law_right_p1 w) (M_law_right_f1 w) (M_law_right_d4 w).1 (M_law_right_d4 w).2
def M_law_right (w : Wl) : Bool × Wl := (true, (M_law_right_l1 w).2)
structure S_law_right (w : Wl) : Prop where
  c1 : S_law_pick_TI [(3 : Int), (2 : Int), (4 : Int), (3 : Int), (5 : Int), (1 : Int)] w
  c2 : S_law_steps ((M_law_right_d1 w).1) ((M_law_right_d1 w).2)
  c3 : 1 ≤ (M_law_right_d1 w).1 ∧ (M_law_right_d1 w).1 ≤ 5
  c4 : S_law_pick_LTI ((ssets (Int.toNat ((M_law_right_d1 w).1)))) ((M_law_right_d2 w).2)
  c5 : S_law_marks ((M_law_right_d1 w).1) ((M_law_right_d2 w).1) ((M_law_right_d3 w).2)
  c6 : S_law_share ((M_law_right_d4 w).1) ((M_law_right_d2 w).1) ((M_law_right_d3 w).1)
  c7 : S_share_worths (List.map KR.r ((M_law_right_d2 w).1)) ((M_law_right_d3 w).1)
  c8 : S_share (List.map KR.r ((M_law_right_d4 w).1)) (List.map KR.r ((M_law_right_d2 w).1)) ((M_law_right_d3 w).1)
  c9 : ((eL eK) [(M_share (List.map KR.r ((M_law_right_d4 w).1)) (List.map KR.r ((M_law_right_d2 w).1)) ((M_law_right_d3 w).1)), (M_share (List.map KR.r ((M_law_right_d4 w).1)) (List.map KR.r ((M_law_right_d2 w).1)) ((M_law_right_d3 w).1))]).toP = ((eL encR) [(M_law_right_due1 w), (M_law_right_due1 w)]).toP ∧ Sw ((eL encR) [(M_law_right_due1 w), (M_law_right_due1 w)])
  c10 : false = false
  c11 : S_law_worths ((M_law_right_d2 w).1) ((M_law_right_d3 w).1)
  c12 : 0 ≤ (2 : Int) ∧ (2 : Int) ≤ 1000
  c13 : ((eL (eT (eP (eT (eO eK)) encR))) [(M_law_right_told1 w), (M_share_worths (List.map KR.r ((M_law_right_d2 w).1)) ((M_law_right_d3 w).1))]).toP = ((eL (eT (eP (eT (eO encR)) encR))) (List.replicate (Int.toNat (2 : Int)) (M_law_worths ((M_law_right_d2 w).1) ((M_law_right_d3 w).1)))).toP ∧ Sw ((eL (eT (eP (eT (eO encR)) encR))) (List.replicate (Int.toNat (2 : Int)) (M_law_worths ((M_law_right_d2 w).1) ((M_law_right_d3 w).1))))
  c14 : S_law_worth_at (M_law_worths ((M_law_right_d2 w).1) ((M_law_right_d3 w).1)) ((M_law_right_d4 w).1)
  c15 : Rs (M_law_right_most1 w) (M_law_right_due1 w)
  c16 : ((decide ((M_law_right_most1 w) < (M_law_right_due1 w)))) = false → S_law_greatest ((M_law_right_d4 w).1) ((M_law_right_d2 w).1) ((M_law_right_d3 w).1)
  c17 : ((decide ((M_law_right_most1 w) < (M_law_right_due1 w)))) = false → (eK (M_law_greatest ((M_law_right_d4 w).1) ((M_law_right_d2 w).1) ((M_law_right_d3 w).1))).toP = (encR (M_law_right_most1 w)).toP ∧ Sw (encR (M_law_right_most1 w))
  c18 : (((decide ((M_law_right_most1 w) < (M_law_right_due1 w)))) || false) = false
  c19 : ((M_law_right_d4 w).1).length ≤ sizeLine
  c20 : SafeW (M_law_right_p1 w) (M_law_right_f1 w) (fun x2 w3 => S_law_right_c1 w x2 w3) (M_law_right_d4 w).1 (M_law_right_d4 w).2
  c21 : S_law_worth_at_v2 (M_law_right_told1 w) ((M_law_right_l1 w).1)
  c22 : Rs (M_law_worth_at_v2 (M_law_right_told1 w) ((M_law_right_l1 w).1)) (M_law_right_most1 w)
  c23 : (!((decide ((M_law_worth_at_v2 (M_law_right_told1 w) ((M_law_right_l1 w).1)) < (M_law_right_most1 w))))) = true
theorem T_law_right (w : Wl) (h : S_law_right w) : G__law_right [.well] w = .ok (D.bl (M_law_right w).1) (M_law_right w).2 := by
  refine run_rt ?_
  refine sq (setE (dv := D.int ((M_law_right_d1 w).1)) ((efn_ev (ds := [.well, (eT D.int) [(3 : Int), (2 : Int), (4 : Int), (3 : Int), (5 : Int), (1 : Int)]]) (cons_ev rfl (one_ev (etup_ev (cons_ev rfl (cons_ev rfl (cons_ev rfl (cons_ev rfl (cons_ev rfl (one_ev rfl)))))) (show 6 ≤ sizeLine by decide)))) rfl).trans (T_law_pick_TI [(3 : Int), (2 : Int), (4 : Int), (3 : Int), (5 : Int), (1 : Int)] w h.c1))) ?_
  refine sq (parE (cons_ev ((efn_ev (ds := [.well, D.int ((M_law_right_d1 w).1)]) (cons_ev rfl (one_ev rfl)) rfl).trans (T_law_steps ((M_law_right_d1 w).1) ((M_law_right_d1 w).2) h.c2)) (one_ev ((efn_ev (ds := [.well, (eL (eT D.int)) ((ssets (Int.toNat ((M_law_right_d1 w).1))))]) (cons_ev rfl (one_ev ((efn_ev (ds := [D.int ((M_law_right_d1 w).1)]) (one_ev rfl) rfl).trans (MD.T__law_all_sets ((M_law_right_d1 w).1) h.c3)))) rfl).trans (T_law_pick_LTI ((ssets (Int.toNat ((M_law_right_d1 w).1)))) ((M_law_right_d2 w).2) h.c4))))) ?_
  refine sq (setE (dv := (eT encR) ((M_law_right_d4 w).1)) ((efn_ev (ds := [.well, D.int ((M_law_right_d1 w).1), (eL encR) ((M_law_right_d2 w).1)]) (cons_ev rfl (cons_ev rfl (one_ev (lstT rfl)))) rfl).trans (T_law_marks ((M_law_right_d1 w).1) ((M_law_right_d2 w).1) ((M_law_right_d3 w).2) h.c5))) ?_
  refine sq (parE (cons_ev ((efn_ev (ds := [(eT encR) ((M_law_right_d4 w).1), (eT encR) ((M_law_right_d2 w).1), (eT D.int) ((M_law_right_d3 w).1)]) (cons_ev rfl (cons_ev rfl (one_ev rfl))) rfl).trans (T_law_share ((M_law_right_d4 w).1) ((M_law_right_d2 w).1) ((M_law_right_d3 w).1) h.c6)) (one_ev ((efn_ev (ds := [(eT eK) (List.map KR.r ((M_law_right_d2 w).1)), (eT D.int) ((M_law_right_d3 w).1)]) (cons_ev (castE ((coT (e := encR) (e2 := eK) (c := KR.r) (fun _ => rfl)) ((M_law_right_d2 w).1)) rfl) (one_ev rfl)) rfl).trans (T_share_worths (List.map KR.r ((M_law_right_d2 w).1)) ((M_law_right_d3 w).1) h.c7))))) ?_
  refine (ifF_seq (w1 := (M_law_right_d4 w).2) (castB (c := false) h.c10 (repNe (elst_ev (cons_ev ((efn_ev (ds := [(eT eK) (List.map KR.r ((M_law_right_d4 w).1)), (eT eK) (List.map KR.r ((M_law_right_d2 w).1)), (eT D.int) ((M_law_right_d3 w).1)]) (cons_ev (castE ((coT (e := encR) (e2 := eK) (c := KR.r) (fun _ => rfl)) ((M_law_right_d4 w).1)) rfl) (cons_ev (castE ((coT (e := encR) (e2 := eK) (c := KR.r) (fun _ => rfl)) ((M_law_right_d2 w).1)) rfl) (one_ev rfl))) rfl).trans (T_share (List.map KR.r ((M_law_right_d4 w).1)) (List.map KR.r ((M_law_right_d2 w).1)) ((M_law_right_d3 w).1) h.c8)) (one_ev ((efnk_ev (ds := []) (es := [(eT D.int) ((M_law_right_d3 w).1), (eT eK) (List.map KR.r ((M_law_right_d2 w).1)), (eT eK) (List.map KR.r ((M_law_right_d4 w).1))]) (zs := [(eT eK) (List.map KR.r ((M_law_right_d4 w).1)), (eT eK) (List.map KR.r ((M_law_right_d2 w).1)), (eT D.int) ((M_law_right_d3 w).1)]) rfl (cons_ev rfl (cons_ev (castE ((coT (e := encR) (e2 := eK) (c := KR.r) (fun _ => rfl)) ((M_law_right_d2 w).1)) rfl) (one_ev (castE ((coT (e := encR) (e2 := eK) (c := KR.r) (fun _ => rfl)) ((M_law_right_d4 w).1)) rfl)))) rfl rfl rfl rfl).trans (T_share (List.map KR.r ((M_law_right_d4 w).1)) (List.map KR.r ((M_law_right_d2 w).1)) ((M_law_right_d3 w).1) h.c8)))) (show 2 ≤ sizeLine by decide)) (elst_ev (cons_ev rfl (one_ev rfl)) (show 2 ≤ sizeLine by decide)) h.c9.1 h.c9.2 ((pL pK) [(M_share (List.map KR.r ((M_law_right_d4 w).1)) (List.map KR.r ((M_law_right_d2 w).1)) ((M_law_right_d3 w).1)), (M_share (List.map KR.r ((M_law_right_d4 w).1)) (List.map KR.r ((M_law_right_d2 w).1)) ((M_law_right_d3 w).1))])))).trans ?_
  refine (ifF_seq (w1 := (M_law_right_d4 w).2) (castB (c := false) h.c10 (repNe (elst_ev (cons_ev rfl (one_ev ((efnk_ev (ds := []) (es := [(eT D.int) ((M_law_right_d3 w).1), (eT eK) (List.map KR.r ((M_law_right_d2 w).1))]) (zs := [(eT eK) (List.map KR.r ((M_law_right_d2 w).1)), (eT D.int) ((M_law_right_d3 w).1)]) rfl (cons_ev rfl (one_ev (castE ((coT (e := encR) (e2 := eK) (c := KR.r) (fun _ => rfl)) ((M_law_right_d2 w).1)) rfl))) rfl rfl rfl rfl).trans (T_share_worths (List.map KR.r ((M_law_right_d2 w).1)) ((M_law_right_d3 w).1) h.c7)))) (show 2 ≤ sizeLine by decide)) (mulL1 (elst_ev (one_ev ((efn_ev (ds := [(eT encR) ((M_law_right_d2 w).1), (eT D.int) ((M_law_right_d3 w).1)]) (cons_ev rfl (one_ev rfl)) rfl).trans (T_law_worths ((M_law_right_d2 w).1) ((M_law_right_d3 w).1) h.c11))) (show 1 ≤ sizeLine by decide)) rfl h.c12) h.c13.1 h.c13.2 ((pL (pT (pP (pT (pO pK)) pR))) [(M_law_right_told1 w), (M_share_worths (List.map KR.r ((M_law_right_d2 w).1)) ((M_law_right_d3 w).1))])))).trans ?_
  refine sq (setE (dv := encR (M_law_right_most1 w)) ((efn_ev (ds := [(eT (eP (eT (eO encR)) encR)) (M_law_worths ((M_law_right_d2 w).1) ((M_law_right_d3 w).1)), (eT encR) ((M_law_right_d4 w).1)]) (cons_ev ((efn_ev (ds := [(eT encR) ((M_law_right_d2 w).1), (eT D.int) ((M_law_right_d3 w).1)]) (cons_ev rfl (one_ev rfl)) rfl).trans (T_law_worths ((M_law_right_d2 w).1) ((M_law_right_d3 w).1) h.c11)) (one_ev rfl)) rfl).trans (T_law_worth_at (M_law_worths ((M_law_right_d2 w).1) ((M_law_right_d3 w).1)) ((M_law_right_d4 w).1) h.c14))) ?_
  refine (ifF_seq (w1 := (M_law_right_d4 w).2) (castB (c := (((decide ((M_law_right_most1 w) < (M_law_right_due1 w)))) || false)) h.c18 (orE (c := ((decide ((M_law_right_most1 w) < (M_law_right_due1 w))))) (tru_ev ((efn_ev (ds := [encR (M_law_right_most1 w), encR (M_law_right_due1 w)]) (cons_ev rfl (one_ev rfl)) rfl).trans (MD.T__law_below (M_law_right_most1 w) (M_law_right_due1 w) h.c15))) (fun hc1 => (repNe ((efn_ev (ds := [(eT encR) ((M_law_right_d4 w).1), (eT encR) ((M_law_right_d2 w).1), (eT D.int) ((M_law_right_d3 w).1)]) (cons_ev rfl (cons_ev rfl (one_ev rfl))) rfl).trans (T_law_greatest ((M_law_right_d4 w).1) ((M_law_right_d2 w).1) ((M_law_right_d3 w).1) (h.c16 hc1))) rfl (h.c17 hc1).1 (h.c17 hc1).2 (pK (M_law_greatest ((M_law_right_d4 w).1) ((M_law_right_d2 w).1) ((M_law_right_d3 w).1)))))))).trans ?_
  refine sq (setE (dv := (eT encR) ((M_law_right_l1 w).1)) (tupL (lcWE (e := encR) (e2 := encR) (p := (M_law_right_p1 w)) (f := (M_law_right_f1 w)) (S := fun x2 w3 => S_law_right_c1 w x2 w3) (xs := (M_law_right_d4 w).1) (seqT rfl) h.c19 h.c20 (fun x2 w3 g4 => ⟨_, rfl, rfl, fun _ => ((efn_ev (ds := [encR x2, encR ((M_law_right_d5 w x2 w3).1)]) (cons_ev rfl (one_ev ((efn_ev (ds := [.well, (eT encR) [(1 : Rat), (mkRat 1 2), (0 : Rat), (mkRat 9 10)]]) (cons_ev rfl (one_ev (etup_ev (cons_ev rfl (cons_ev rfl (cons_ev rfl (one_ev rfl)))) (show 4 ≤ sizeLine by decide)))) rfl).trans (T_law_pick_TR [(1 : Rat), (mkRat 1 2), (0 : Rat), (mkRat 9 10)] w3 g4.c1)))) rfl).trans (MD.T__law_mul x2 ((M_law_right_d5 w x2 w3).1) g4.c2))⟩)))) ?_
  exact retE (castB (c := (!((decide ((M_law_worth_at_v2 (M_law_right_told1 w) ((M_law_right_l1 w).1)) < (M_law_right_most1 w)))))) h.c23 (not_ev ((efn_ev (ds := [encR (M_law_worth_at_v2 (M_law_right_told1 w) ((M_law_right_l1 w).1)), encR (M_law_right_most1 w)]) (cons_ev ((efn_ev (ds := [(eT (eP (eT (eO eK)) encR)) (M_law_right_told1 w), (eT encR) ((M_law_right_l1 w).1)]) (cons_ev rfl (one_ev rfl)) rfl).trans (T_law_worth_at_v2 (M_law_right_told1 w) ((M_law_right_l1 w).1) h.c21)) (one_ev rfl)) rfl).trans (MD.T__law_below (M_law_worth_at_v2 (M_law_right_told1 w) ((M_law_right_l1 w).1)) (M_law_right_most1 w) h.c22))))
end
end K41

set_option exponentiation.threshold 20000
namespace K41
open PySem PySem.Spec L2 DL PF MD MP ML LV SP
open LV (encR IsR isR Rz)
open PyProof.Rows hiding St
section
variable {n B C : Nat} {ps cs : List Rat} {s : IS}
theorem upS_le (hl : ps.length = n) : (upS ps cs).length ≤ n := by
  have := asc_len (upS ps cs) 0 n (upS_asc _ _) fun i hi => by
    have := (mem_upS.mp hi).1
    omega
  omega
theorem share_sp (h1 : 1 ≤ n) (h5 : n ≤ 5) (hl : ps.length = n) (hp : ∀ p ∈ ps, Nb C p) (hc : Lms B n cs) (hB : B ≤ 4000) (hBC : C + B < 9000) (hs : isSet n s) : S_share (kr ps) (kr cs) s ∧ (M_share (kr ps) (kr cs) s).q = shQ ps cs s := by
  obtain ⟨u1, u2⟩ := called_up_sp (B := C) (C := B) hl (by omega) (fun p h => (hp p h).2.2) hc hBC
  have hk : (kr ps).length = n := by rw [List.length_map, hl]
  have hR := upS_le (ps := ps) (cs := cs) hl
  refine ⟨⟨check_leading_numbers_sp (by rw [hk]; exact h1) (by rw [hk]; exact h5) (kr_nb hp), by rw [hk]; exact check_limits_sp hB hc.kr, by rw [hk]; exact check_set_sp h5 hs, u1, fun _ => by rw [u2]; exact szl (by omega), fun hd => ?_⟩, ?_⟩
  · rw [u2] at hd ⊢
    have hd := of_decide_eq_false hd
    have := List.length_pos_iff.mpr hd
    exact fb (B := 10) (by omega) (by omega) (by decide)
  · unfold M_share M_share_r1 shQ
    rw [u2]
    by_cases c : upS ps cs = []
    · rw [decide_eq_true c, cond_true, if_pos c]
    · rw [decide_eq_false c, cond_false, if_neg c]
theorem law_share_sp (h5 : n ≤ 5) (hl : ps.length = n) (hp : ∀ p ∈ ps, Nb C p) (hc : Lms B n cs) (hC : C + C < 9000) (hBC : B + C < 9000) : S_law_share ps cs s ∧ M_law_share ps cs s = shQ ps cs s := by
  obtain ⟨u1, u2⟩ := stepped_sp (B := C) (C := B) true hl (by omega) (fun p h => (hp p h).2.2) hc hC hBC
  have u2 : M_law_stepped_TR_TR_B ps cs true = upS ps cs := u2
  have hR := upS_le (ps := ps) (cs := cs) hl
  refine ⟨⟨u1, fun _ => by rw [u2]; exact szl (by omega), fun hd => ?_⟩, ?_⟩
  · rw [u2] at hd ⊢
    have hne : upS ps cs ≠ [] := fun e => by
      rw [e] at hd
      exact absurd hd (by decide)
    have := List.length_pos_iff.mpr hne
    exact fb (B := 10) (by omega) (by omega) (by decide)
  · unfold M_law_share shQ
    rw [u2]
    by_cases c : upS ps cs = []
    · rw [decide_eq_true c, if_pos c]
      rfl
    · rw [decide_eq_false c, if_neg c]
      rfl
theorem sub_len (h1 : 1 ≤ n) (h5 : n ≤ 5) (hs : isSet n s) : (ssets n).filter (fun g => M_is_part g s) = subsL s ∧ (subsL s).length ≤ 31 := by
  obtain ⟨f1, f2⟩ := parts_facts n (five h1 h5)
  obtain ⟨a, b, _⟩ := f2 s (mem_ssets.mpr hs)
  exact ⟨a, b⟩
theorem flat_one {α β : Type} (f : α → β) : ∀ xs : List α, (xs.flatMap fun x => [f x]) = xs.map f
  | [] => rfl
  | x :: xs => by rw [List.flatMap_cons, flat_one f xs]; rfl
theorem law_worths_sp (h1 : 1 ≤ n) (h5 : n ≤ 5) (hc : Lms B n cs) (hs : isSet n s) : S_law_worths cs s ∧ M_law_worths cs s = wths n cs s := by
  obtain ⟨_, f2⟩ := sub_len h1 h5 hs
  have hsl := isSet_len hs
  have hs1 : 1 ≤ s.length := List.length_pos_iff.mpr hs.1
  have em : M_law_worths_many1 cs s = (n : Int) := by unfold M_law_worths_many1; rw [hc.1]
  have et : Int.toNat ((M_law_worths_many1 cs s - (s.length : Int)) + 1) = n - s.length + 1 := by rw [em]; omega
  have inner : ∀ (b : Int) (v : List WR), M_law_worths_step1 cs s b v = v ++ (subsL s).map fun g => wthI n cs g b := fun b v => by
    refine (fold_app (step := M_law_worths_step2 cs s b v) (fun g => [wthI n cs g b]) (subsL s) v fun g _ t => ?_).trans ?_
    · unfold M_law_worths_step2 M_law_worths_found2
      rw [em]
      rfl
    · rw [flat_one]
  have key := foldL_sp (step := M_law_worths_step1 cs s) (S := S_law_worths_l1 cs s) (fun m v => v.length ≤ 31 * m ∧ m ≤ 5) (ys := upto (n - s.length + 1)) (s := M_law_worths_found1 cs s) ⟨by simp [M_law_worths_found1], by omega⟩ (fun x v m hx hi => by
    obtain ⟨rfl, hm⟩ := upto_get hx
    refine ⟨⟨sub5 h5 (mem_ssets.mpr hs), ?_⟩, ?_⟩
    · refine (foldL_sp (fun j t => t.length ≤ v.length + j ∧ j ≤ 31) ⟨by omega, by omega⟩ fun g t j hg ht => ?_).1
      have hj := lt_of_get hg
      obtain ⟨g0, gs⟩ := mem_subsL.mp (List.mem_of_getElem? hg)
      have hgl := gs.length_le
      have hg1 : 1 ≤ g.length := List.length_pos_iff.mpr g0
      have := hi.1
      have := ht.1
      refine ⟨⟨?_, ?_, ?_, szlt (by omega)⟩, ?_, by omega⟩
      · show 0 ≤ ((g.length : Int) + (m : Int)) - 1 ∧ ((g.length : Int) + (m : Int)) - 1 < (cs.length : Int)
        rw [hc.1]
        omega
      · rw [em]
        exact edge_ok h5 _ _
      · show Fb ((g.length : Int) + (m : Int))
        exact fb (B := 10) (by omega) (by omega) (by decide)
      · unfold M_law_worths_step2 M_law_worths_found2
        rw [List.length_append, List.length_singleton]
        omega
    · rw [inner, List.length_append, List.length_map]
      have := hi.1
      omega)
  refine ⟨⟨by rw [em]; exact small_of (by omega) (by omega), by rw [et]; exact key.1⟩, ?_⟩
  unfold M_law_worths M_law_worths_l2
  rw [et]
  exact (fold_app (fun b => (subsL s).map fun g => wthI n cs g b) (upto (n - s.length + 1)) [] fun b _ v => inner b v).trans (List.nil_append _)
theorem wths_len (h1 : 1 ≤ n) (h5 : n ≤ 5) (hs : isSet n s) : (wths n cs s).length ≤ 155 := by
  obtain ⟨_, f2⟩ := sub_len h1 h5 hs
  have hs1 : 1 ≤ s.length := List.length_pos_iff.mpr hs.1
  have key : ∀ xs : List Int, (xs.flatMap fun b => (subsL s).map fun g => wthI n cs g b).length ≤ 31 * xs.length := fun xs => by
    induction xs with
    | nil => simp
    | cons x xs ih =>
      rw [List.flatMap_cons, List.length_append, List.length_map, List.length_cons]
      omega
  have := key (upto (n - s.length + 1))
  rw [upto_length] at this
  unfold wths
  omega
theorem share_worths_sp (h1 : 1 ≤ n) (h5 : n ≤ 5) (hc : Lms B n cs) (hB : B ≤ 4000) (hs : isSet n s) : S_share_worths (kr cs) s ∧ M_share_worths (kr cs) s = kw (wths n cs s) := by
  obtain ⟨f1, f2⟩ := sub_len h1 h5 hs
  have hsl := isSet_len hs
  have hs1 : 1 ≤ s.length := List.length_pos_iff.mpr hs.1
  have hk : (kr cs).length = n := by rw [List.length_map, hc.1]
  have ec : M_worths_against_count1 (kr cs) s = (n : Int) := by unfold M_worths_against_count1; rw [hk]
  have et : Int.toNat ((M_worths_against_count1 (kr cs) s - (s.length : Int)) + 1) = n - s.length + 1 := by rw [ec]; omega
  have en : Int.toNat (M_worths_against_count1 (kr cs) s) = n := by rw [ec]; exact Int.toNat_natCast n
  have eg : M_worths_against_groups1 (kr cs) s = subsL s := by
    unfold M_worths_against_groups1
    rw [en]
    exact f1
  have eW : M_worths_against (kr cs) s = kw (wths n cs s) := by
    unfold M_worths_against wths kw
    rw [et, eg, List.map_flatMap]
    congr 1
    refine funext fun b => ?_
    rw [List.map_map]
    refine List.map_congr_left fun g _ => ?_
    show M_share_worth (kr cs) g b = (kc (wthI n cs g b).1, (wthI n cs g b).2)
    unfold M_share_worth
    rw [hk, ixI_kr, alike_kc]
    rfl
  have hll := ssets_len n h5
  refine ⟨⟨⟨by rw [tellsK (by rw [hk]; exact h1) (by rw [hk]; exact h5)]; rfl, by rw [hk]; exact check_limits_sp hB hc.kr⟩, by rw [hk]; exact check_set_sp h5 hs, ⟨by omega, by rw [en]; exact szl (by omega), fun g hg => ?_, by rw [ec]; exact small_of (by omega) (by omega), fun b hb g hg => ?_, ?_⟩⟩, eW⟩
  · rw [en] at hg
    have := isSet_len (mem_ssets.mp hg)
    exact ⟨szl (by omega)⟩
  · rw [et] at hb
    rw [eg] at hg
    obtain ⟨b0, b1⟩ := mem_upto.mp hb
    obtain ⟨g0, gs⟩ := mem_subsL.mp hg
    have hgl := gs.length_le
    have hg1 : 1 ≤ g.length := List.length_pos_iff.mpr g0
    refine ⟨?_, ⟨by rw [hk]; exact small_of (by omega) (by omega), by rw [hk, Int.toNat_natCast, upto_length]; exact szl (by omega)⟩, ?_⟩
    · show 0 ≤ ((g.length : Int) + b) - 1 ∧ ((g.length : Int) + b) - 1 < ((kr cs).length : Int)
      rw [hk]
      omega
    · show Fb ((g.length : Int) + b)
      exact fb (B := 10) (by omega) (by omega) (by decide)
  · have hlen := wths_len (n := n) (cs := cs) (s := s) h1 h5 hs
    have := congrArg List.length eW
    rw [List.length_map] at this
    unfold M_worths_against at this
    exact szl (by omega)
/-- the worths' corners and fractions -/
theorem wths_ok (h1 : 1 ≤ n) (h5 : n ≤ 5) (hc : Lms B n cs) (hs : isSet n s) {x : WR} (hx : x ∈ wths n cs s) : Cr B n x.1 ∧ Nb 16 x.2 := by
  obtain ⟨b, hb, g, g0, gs, rfl⟩ := mem_wths.mp hx
  have hsl := isSet_len hs
  have hgl := gs.length_le
  have hg1 : 1 ≤ g.length := List.length_pos_iff.mpr g0
  refine ⟨⟨edge_len _ _ _, fun q hq => ?_⟩, ?_⟩
  · obtain ⟨j, hj⟩ := List.mem_iff_getElem?.mp hq
    obtain ⟨_, e⟩ := edge_mem hj
    split at e
    · cases e
      exact (hc.2.1 _ (ixI_mem (by rw [hc.1]; omega))).1
    · cases e
  · exact ⟨Rat.divInt_nonneg (by omega) (by omega), divInt_le_one (by omega) (by omega), rz_div (by omega) (by omega) (by omega)⟩
/-! ### the most -/
theorem foldE_map {α β σ ρ : Type} (f : α → β) (step : β → σ → Sum σ ρ) : ∀ (xs : List α) (s : σ), foldE step (xs.map f) s = foldE (fun x => step (f x)) xs s
  | [], _ => rfl
  | x :: xs, s => by
    show (match step (f x) s with | .inl t => foldE step (xs.map f) t | .inr r => .inr r) = (match step (f x) s with | .inl t => foldE (fun x => step (f x)) xs t | .inr r => .inr r)
    cases step (f x) s with
    | inl t => exact foldE_map f step xs t
    | inr r => rfl
theorem safeE_map {α β σ ρ : Type} (f : α → β) (step : β → σ → Sum σ ρ) (S : β → σ → Prop) (S' : α → σ → Prop) (hS : ∀ x s, S' x s → S (f x) s) : ∀ (xs : List α) (s : σ), SafeE (fun x => step (f x)) S' xs s → SafeE step S (xs.map f) s
  | [], _, _ => trivial
  | x :: xs, s, h => by
    refine ⟨hS x s h.1, ?_⟩
    have h2 : (match step (f x) s with | .inl t => SafeE (fun x => step (f x)) S' xs t | .inr _ => True) := h.2
    show (match step (f x) s with | .inl t => SafeE step S (xs.map f) t | .inr _ => True)
    revert h2
    cases step (f x) s with
    | inl t => exact fun h2 => safeE_map f step S S' hS xs t h2
    | inr r => exact fun _ => trivial
theorem is_in2_sp {c : CorR} (hp : ∀ p ∈ ps, Rz C p) (hc : Cr B n c) (h : B + C < 9000) : S_law_is_in_v2 ps (kc c) ∧ M_law_is_in_v2 ps (kc c) = wi ps c := by
  obtain ⟨⟨a⟩, b⟩ := law_in_sp hp hc h
  have ez : ps.zip (kc c) = (ps.zip c).map fun x => (x.1, Option.map KR.r x.2) := by
    rw [List.zip_map_right]
    rfl
  have est : ∀ (x : Rat × Option Rat) (t : Unit), M_law_is_in_v2_step1 ps (kc c) (x.1, Option.map KR.r x.2) t = M_law_is_in_step1 ps c x t := fun x t => by
    obtain ⟨p, o⟩ := x
    cases o <;> rfl
  have est2 : (fun x : Rat × Option Rat => M_law_is_in_v2_step1 ps (kc c) (x.1, Option.map KR.r x.2)) = M_law_is_in_step1 ps c := funext fun x => funext fun t => est x t
  refine ⟨⟨?_⟩, ?_⟩
  · rw [ez]
    refine safeE_map (fun x : Rat × Option Rat => (x.1, Option.map KR.r x.2)) _ _ (S_law_is_in_l1 ps c) (fun x t hx => ⟨fun y hy => ?_⟩) _ _ (by rw [est2]; exact a)
    obtain ⟨p, o⟩ := x
    cases o with
    | none => cases hy
    | some q =>
      cases hy
      exact hx.c1 q rfl
  · rw [← b]
    unfold M_law_is_in_v2 M_law_is_in_v2_r2 M_law_is_in_v2_l1 M_law_is_in M_law_is_in_r2 M_law_is_in_l1
    rw [ez, foldE_map, est2]
def Im (ws : List WR) (ps : List Rat) (m : Nat) (v : Rat) : Prop := Nb 16 v ∧ (∀ (i : Nat) (x : WR), i < m → ws[i]? = some x → wi ps x.1 = true → x.2 ≤ v) ∧ (v = 0 ∨ ∃ x ∈ ws, wi ps x.1 = true ∧ v = x.2)
theorem im_step {ws : List WR} {m : Nat} {v : Rat} {x : WR} (h : Im ws ps m v) (hx : ws[m]? = some x) (hn : Nb 16 x.2) : Im ws ps (m + 1) (bif wi ps x.1 then M_law_greater v x.2 else v) := by
  obtain ⟨a, b, c⟩ := h
  have old : ∀ u, v ≤ u → (wi ps x.1 = true → x.2 ≤ u) → ∀ (i : Nat) (y : WR), i < m + 1 → ws[i]? = some y → wi ps y.1 = true → y.2 ≤ u := fun u hu hx2 i y hi hy hw => by
    rcases Nat.lt_or_ge i m with z | z
    · exact Rat.le_trans (b i y z hy hw) hu
    · obtain rfl : i = m := by omega
      rw [hx] at hy
      cases hy
      exact hx2 hw
  cases e : wi ps x.1 with
  | false =>
    rw [cond_false]
    exact ⟨a, old v Rat.le_refl (fun z => absurd (e.symm.trans z) (by decide)), c⟩
  | true =>
    rw [cond_true]
    unfold M_law_greater
    by_cases d : v < x.2
    · rw [decide_eq_true d, cond_true]
      exact ⟨hn, old _ (Rat.le_of_lt d) fun _ => Rat.le_refl, .inr ⟨x, List.mem_of_getElem? hx, e, rfl⟩⟩
    · rw [decide_eq_false d, cond_false]
      exact ⟨a, old v Rat.le_refl fun _ => Rat.not_lt.mp d, c⟩
theorem im_most {ws : List WR} {v : Rat} (h : Im ws ps ws.length v) : IsMost ws ps v := ⟨h.1.1, fun x hx hw => by
  obtain ⟨i, hi⟩ := List.mem_iff_getElem?.mp hx
  exact h.2.1 i x (lt_of_get hi) hi hw, h.2.2⟩
theorem worth_at_sp {ws : List WR} (hp : ∀ p ∈ ps, Rz C p) (hw : ∀ x ∈ ws, Cr B n x.1 ∧ Nb 16 x.2) (h : B + C < 9000) : S_law_worth_at ws ps ∧ IsMost ws ps (M_law_worth_at ws ps) ∧ Nb 16 (M_law_worth_at ws ps) := by
  have key := foldL_sp (step := M_law_worth_at_step1 ws ps) (S := S_law_worth_at_l1 ws ps) (Im ws ps) (ys := ws) (s := (0 : Rat)) ⟨nb_zero (by decide), fun i x hi => by omega, .inl rfl⟩ (fun x v m hx hi => by
    obtain ⟨hc, hn⟩ := hw x (List.mem_of_getElem? hx)
    obtain ⟨a, b⟩ := law_in_sp hp hc h
    refine ⟨⟨a, fun _ => ⟨rs hi.1.2.2 hn.2.2 (by decide)⟩⟩, ?_⟩
    have := im_step hi hx hn
    rw [← b] at this
    exact this)
  exact ⟨⟨key.1⟩, im_most key.2, key.2.1⟩
theorem worth_at2_sp {ws : List WR} (hp : ∀ p ∈ ps, Rz C p) (hw : ∀ x ∈ ws, Cr B n x.1 ∧ Nb 16 x.2) (h : B + C < 9000) : S_law_worth_at_v2 (kw ws) ps ∧ IsMost ws ps (M_law_worth_at_v2 (kw ws) ps) ∧ Nb 16 (M_law_worth_at_v2 (kw ws) ps) := by
  have key := foldL_sp (step := M_law_worth_at_v2_step1 (kw ws) ps) (S := S_law_worth_at_v2_l1 (kw ws) ps) (Im ws ps) (ys := kw ws) (s := (0 : Rat)) ⟨nb_zero (by decide), fun i x hi => by omega, .inl rfl⟩ (fun x v m hx hi => by
    rw [List.getElem?_map, Option.map_eq_some_iff] at hx
    obtain ⟨y, hy, rfl⟩ := hx
    obtain ⟨hc, hn⟩ := hw y (List.mem_of_getElem? hy)
    obtain ⟨a, b⟩ := is_in2_sp hp hc h
    refine ⟨⟨a, fun _ => ⟨rs hi.1.2.2 hn.2.2 (by decide)⟩⟩, ?_⟩
    have := im_step hi hy hn
    rw [← b] at this
    exact this)
  rw [List.length_map] at key
  exact ⟨⟨key.1⟩, im_most key.2, key.2.1⟩
/-! ### all rows -/
theorem sl_set {r : List Rat} {k : Int} (v : Rat) (hl : r.length = n) (k0 : 0 ≤ k) (k1 : k < n) : (slI r none (some k) ++ [v]) ++ slI r (some (k + 1)) none = r.set k.toNat v := by
  rw [slI_take _ k0, slI_drop _ (by omega), List.set_eq_take_append_cons_drop, if_pos (by omega), List.append_assoc, show (k + 1).toNat = k.toNat + 1 by omega]
  rfl
theorem rows_len (hl : ps.length = n) (ks : IS) (hi : InR n ks) : ∀ r ∈ rowsF ps ks, r.length = n := fun r hr => by
  obtain ⟨f, hf⟩ := rowsF_mem ks hi r hr
  exact (hf hl).1
theorem greatest_sp (h1 : 1 ≤ n) (h5 : n ≤ 5) (hl : ps.length = n) (hp : ∀ p ∈ ps, Nb C p) (hc : Lms B n cs) (hB : B ≤ 4000) (hBC : C + B < 9000) (hC : 2 ≤ C) (hs : isSet n s) {v : Rat} (a : IsMost (wths n cs s) ps v) : S_law_greatest ps cs s ∧ (M_law_greatest ps cs s).q = v := by
  have en : Int.toNat (ps.length : Int) = n := by omega
  have ef : (List.filter (fun (x1 : Int) => (!(decide (x1 ∈ s)))) (upto n)) = cmp n s := rfl
  have hcl := cmp_len hs
  have hs1 : 1 ≤ s.length := List.length_pos_iff.mpr hs.1
  have pow5 : ∀ m, m ≤ 4 → 2 ^ m ≤ 16 := fun m hm => by
    have : 2 ^ m ≤ 2 ^ 4 := Nat.pow_le_pow_right (by decide) hm
    exact this
  have rowsK := foldL_sp (step := M_law_greatest_step1 ps cs s) (S := S_law_greatest_l1 ps cs s) (fun m v => v = rowsF ps ((cmp n s).take m) ∧ m ≤ (cmp n s).length) (ys := cmp n s) (s := [ps]) ⟨rfl, by omega⟩ (fun x v m hx hi => by
    have hm := lt_of_get hx
    obtain ⟨rfl, _⟩ := hi
    have hxm := cmp_in n s x (List.mem_of_getElem? hx)
    have hin : InR n ((cmp n s).take m) := fun i h => cmp_in n s i (List.mem_of_mem_take h)
    have hrl := rows_len hl _ hin
    have hlen : (rowsF ps ((cmp n s).take m)).length ≤ 16 := by
      rw [rowsF_len, List.length_take]
      exact pow5 _ (by omega)
    have e1 : ∀ v : Rat, (rowsF ps ((cmp n s).take m)).map (fun (x6 : List Rat) => (((slI x6 none (some x)) ++ [v]) ++ (slI x6 (some (x + (1 : Int))) none))) = (rowsF ps ((cmp n s).take m)).map fun r => r.set x.toNat v := fun v => List.map_congr_left fun r hr => sl_set v (hrl r hr) hxm.1 hxm.2
    have est : M_law_greatest_step1 ps cs s x (rowsF ps ((cmp n s).take m)) = rowsF ps ((cmp n s).take (m + 1)) := by
      rw [List.take_succ, hx, Option.toList_some, rowsF_app]
      unfold M_law_greatest_step1 M_law_greatest_rows1 M_law_greatest_ends1
      rw [e1, e1]
    have sl1 : ∀ r ∈ rowsF ps ((cmp n s).take m), (slI r none (some x)).length + 1 ≤ 1000 ∧ ((slI r none (some x)).length + 1) + (slI r (some (x + 1)) none).length ≤ 1000 := fun r hr => by
      have := hrl r hr
      rw [slI_take _ hxm.1, slI_drop _ (by omega), List.length_take, List.length_drop]
      omega
    refine ⟨⟨szl (by omega), fun r hr => szl (sl1 r hr).1, fun r hr => ?_, fun r hr => szl (sl1 r hr).1, fun r hr => ?_, ?_⟩, est, by omega⟩
    · rw [List.length_append]
      exact szl (sl1 r hr).2
    · rw [List.length_append]
      exact szl (sl1 r hr).2
    · unfold M_law_greatest_ends1
      rw [List.length_map, List.length_map]
      exact szl (by omega))
  rw [List.take_length] at rowsK
  have el1 : M_law_greatest_l1 ps cs s = rowsF ps (cmp n s) := by
    unfold M_law_greatest_l1
    rw [en]
    exact rowsK.2.1
  have nbrow : ∀ r ∈ rowsF ps (cmp n s), r.length = n ∧ ∀ p ∈ r, Nb C p := fun r hr => by
    obtain ⟨f, hf⟩ := rowsF_mem (cmp n s) (cmp_in n s) r hr
    obtain ⟨rl, rg⟩ := hf hl
    refine ⟨rl, fun q hq => ?_⟩
    obtain ⟨i, hi⟩ := List.mem_iff_getElem?.mp hq
    have hil := lt_of_get hi
    rw [← getI hi, rg i (by omega) (by omega)]
    have one : Nb C (1 : Rat) := by
      refine ⟨by decide, by decide, ?_, ?_⟩
      · exact Nat.lt_of_lt_of_le (show (1 : Rat).num.natAbs < 2 ^ 2 by decide) (Nat.pow_le_pow_right (by decide) hC)
      · exact Nat.lt_of_lt_of_le (show (1 : Rat).den < 2 ^ 2 by decide) (Nat.pow_le_pow_right (by decide) hC)
    split
    · split
      · exact one
      · exact nb_zero (by omega)
    · exact hp _ (ixI_mem (by omega))
  have sh : ∀ r ∈ rowsF ps (cmp n s), S_share (kr r) (kr cs) s ∧ (M_share (kr r) (kr cs) s).q = shQ r cs s ∧ Nb 16 (shQ r cs s) := fun r hr => by
    obtain ⟨rl, rp⟩ := nbrow r hr
    obtain ⟨x, y⟩ := share_sp h1 h5 rl rp hc hB hBC hs
    exact ⟨x, y, shQ_nb h5 rl⟩
  have key := foldL_sp (step := M_law_greatest_step2 ps cs s) (S := S_law_greatest_l2 ps cs s) (fun m (v : KR) => Nb 16 v.q ∧ (∀ (i : Nat) (r : List Rat), i < m → (rowsF ps (cmp n s))[i]? = some r → shQ r cs s ≤ v.q) ∧ (v.q = 0 ∨ ∃ r ∈ rowsF ps (cmp n s), v.q = shQ r cs s)) (ys := rowsF ps (cmp n s)) (s := M_law_greatest_found1 ps cs s) ⟨nb_zero (by decide), fun i x hi => by omega, .inl rfl⟩ (fun x v m hx hi => by
    have hxm := List.mem_of_getElem? hx
    obtain ⟨i1, i2, i3⟩ := hi
    obtain ⟨s1, s2, s3⟩ := sh x hxm
    have s2' : (M_share (List.map KR.r x) (List.map KR.r cs) s).q = shQ x cs s := s2
    have old : ∀ u, v.q ≤ u → shQ x cs s ≤ u → ∀ (i : Nat) (r : List Rat), i < m + 1 → (rowsF ps (cmp n s))[i]? = some r → shQ r cs s ≤ u := fun u hu hx2 i y hi hy => by
      rcases Nat.lt_or_ge i m with z | z
      · exact Rat.le_trans (i2 i y z hy) hu
      · obtain rfl : i = m := by omega
        rw [hx] at hy
        cases hy
        exact hx2
    refine ⟨⟨s1, ⟨by rw [s2']; exact rs i1.2.2 s3.2.2 (by decide)⟩⟩, ?_⟩
    unfold M_law_greatest_step2 M_law_greatest_found2 M_law_greater_v3
    rw [s2']
    by_cases d : v.q < shQ x cs s
    · rw [decide_eq_true d, cond_true, s2']
      exact ⟨s3, old _ (Rat.le_of_lt d) Rat.le_refl, .inr ⟨x, hxm, rfl⟩⟩
    · rw [decide_eq_false d, cond_false]
      exact ⟨i1, old _ Rat.le_refl (Rat.not_lt.mp d), i3⟩)
  obtain ⟨k1, k2, k3, k4⟩ := key
  refine ⟨⟨small_of (by omega) (by omega), by rw [en, upto_length]; exact szl (by omega), by rw [en]; exact rowsK.1, by rw [el1]; exact k1⟩, ?_⟩
  unfold M_law_greatest M_law_greatest_l2
  rw [el1]
  refine rows_most hl hc hs a k2.1 (fun r hr => ?_) k4
  obtain ⟨i, hi⟩ := List.mem_iff_getElem?.mp hr
  exact k3 i r (lt_of_get hi) hi
/-! ### what is shown -/
theorem kw_enc (ws : List WR) : eT (eP (eT (eO eK)) encR) (kw ws) = eT (eP (eT (eO encR)) encR) ws := by
  unfold eT kw
  rw [List.map_map]
  congr 1
  refine List.map_congr_left fun b _ => ?_
  show eP (eT (eO eK)) encR (kc b.1, b.2) = eP (eT (eO encR)) encR b
  unfold eP eT kc
  simp only [List.map_map]
  congr 3
  refine List.map_congr_left fun x _ => ?_
  rcases x with _ | q <;> rfl
theorem sw_wths {ws : List WR} (h5 : n ≤ 5) (hw : ∀ x ∈ ws, Cr B n x.1 ∧ Nb 16 x.2) (hB : B ≤ 1600) (hl : ws.length ≤ 155) : Shw 4 1600000 (eT (eP (eT (eO encR)) encR) ws) := by
  have h1 : ∀ x ∈ ws, Shw 3 9800 ((eP (eT (eO encR)) encR) x) := fun x hx => by
    obtain ⟨b2, b3⟩ := hw x hx
    have s2 : ∀ d ∈ x.1.map (eO encR), Shw 1 975 d := shw_map fun x hx => by
      rcases x with _ | q
      · exact (shw_non 1).mono (Nat.le_refl _) (by decide)
      · exact shw_rat (b2.2 q hx).2.2 hB
    have s3 : Shw 2 4890 (eT (eO encR) x.1) := (shw_tup s2).mono (Nat.le_refl _) (by rw [List.length_map, b2.1]; omega)
    have s4 : Shw 1 975 (encR x.2) := shw_rat b3.2.2 (by decide)
    exact (shw_tup (shw_two s3 (s4.mono (by decide) (by decide)))).mono (Nat.le_refl _) (by simp)
  exact (shw_tup (shw_map h1)).mono (Nat.le_refl _) (by rw [List.length_map]; omega)
end
theorem right_ok (w : Wl) (hw : Wk (10 ^ 8) w) : ∃ w', G__law_right [.well] w = .ok (.bl true) w' := by
  obtain ⟨s1, m1, k1⟩ := pick_sp (k := 2000) (w := w) (xs := [(3 : Int), (2 : Int), (4 : Int), (3 : Int), (5 : Int), (1 : Int)]) (hw.mono (by omega)) (by simp) (by simp)
  have b1 : 1 ≤ (M_law_right_d1 w).1 ∧ (M_law_right_d1 w).1 ≤ 5 := by
    have : ∀ z ∈ [(3 : Int), (2 : Int), (4 : Int), (3 : Int), (5 : Int), (1 : Int)], 1 ≤ z ∧ z ≤ 5 := by decide
    exact this _ m1
  obtain ⟨n, hn⟩ : ∃ n : Nat, (M_law_right_d1 w).1 = n := ⟨(M_law_right_d1 w).1.toNat, by omega⟩
  have h1 : 1 ≤ n := by omega
  have h5 : n ≤ 5 := by omega
  have en : Int.toNat (n : Int) = n := Int.toNat_natCast n
  obtain ⟨s2, hc, k2⟩ := steps_sp (n := n) (k := 1900) (w := (M_law_right_d1 w).2) h1 (by omega) (k1.mono (by omega))
  have e2 : M_law_right_d2 w = M_law_steps (n : Int) (M_law_right_d1 w).2 := by
    unfold M_law_right_d2
    rw [hn]
  rw [← e2] at hc k2
  obtain ⟨cs, ecs⟩ : ∃ v, (M_law_right_d2 w).1 = v := ⟨_, rfl⟩
  rw [ecs] at hc
  have hne : ssets n ≠ [] := (fra_full h1).1
  have hll := ssets_len n h5
  obtain ⟨s3, m3, k3⟩ := pick3_sp (k := 1800) (xs := ssets n) (w := (M_law_right_d2 w).2) (k2.mono (by omega)) hne (by omega)
  have e3 : M_law_right_d3 w = M_law_pick_LTI (ssets n) (M_law_right_d2 w).2 := by
    unfold M_law_right_d3
    rw [hn, en]
  rw [← e3] at m3 k3
  obtain ⟨s, es⟩ : ∃ v, (M_law_right_d3 w).1 = v := ⟨_, rfl⟩
  rw [es] at m3
  have st := mem_ssets.mp m3
  obtain ⟨s4, ⟨l4, p4⟩, k4⟩ := marks_sp (k := 1700) (n := n) (B := 100) (near := cs) (w := (M_law_right_d3 w).2) (by omega) (by omega) (fun q hq => (hc.2.1 q hq).1) (by rw [hc.1]; omega) (by omega) (k3.mono (by omega))
  have e4 : M_law_right_d4 w = M_law_marks (n : Int) cs (M_law_right_d3 w).2 := by
    unfold M_law_right_d4
    rw [hn, ecs]
  rw [← e4] at l4 p4 k4
  obtain ⟨ps, eps⟩ : ∃ v, (M_law_right_d4 w).1 = v := ⟨_, rfl⟩
  rw [eps] at l4 p4
  have p4 : ∀ q ∈ ps, Nb 164 q := p4
  have pz : ∀ q ∈ ps, Rz 164 q := fun q hq => (p4 q hq).2.2
  obtain ⟨s6, q6⟩ := law_share_sp (s := s) h5 l4 p4 hc (by decide) (by decide)
  obtain ⟨s7, q7⟩ := share_worths_sp h1 h5 hc (by decide) st
  obtain ⟨s8, q8⟩ := share_sp h1 h5 l4 p4 hc (by decide) (by decide) st
  obtain ⟨s11, q11⟩ := law_worths_sp h1 h5 hc st
  have wok : ∀ x ∈ wths n cs s, Cr 100 n x.1 ∧ Nb 16 x.2 := fun x hx => wths_ok h1 h5 hc st hx
  obtain ⟨s14, q14, z14⟩ := worth_at_sp (ws := wths n cs s) pz wok (by decide)
  obtain ⟨v, ev⟩ : ∃ v, M_law_worth_at (wths n cs s) ps = v := ⟨_, rfl⟩
  rw [ev] at q14 z14
  obtain ⟨s16, q16⟩ := greatest_sp h1 h5 l4 p4 hc (by decide) (by decide) (by decide) st q14
  have edue : M_law_right_due1 w = shQ ps cs s := by
    unfold M_law_right_due1
    rw [eps, ecs, es, q6]
  have etold : M_law_right_told1 w = kw (wths n cs s) := by
    unfold M_law_right_told1
    rw [ecs, es]
    exact q7
  have emost : M_law_right_most1 w = v := by
    unfold M_law_right_most1
    rw [eps, ecs, es, q11, ev]
  have shnb := shQ_nb (cs := cs) (s := s) h5 l4
  have hle := share_le_most l4 hc st q14
  obtain ⟨s20, n20, p20, k20⟩ := lcW_sp (p := M_law_right_p1 w) (f := M_law_right_f1 w) (S := fun x2 w3 => S_law_right_c1 w x2 w3) (fun x z => z ≤ x ∧ Nb 196 z) 1 ps (M_law_right_d4 w).2 1600 (by rw [l4]; exact k4.mono (by omega)) (fun x w4 k4 hx hw4 => by
    obtain ⟨s, m, kk⟩ := pick2_sp (k := k4) (w := w4) (xs := [(1 : Rat), (mkRat 1 2), (0 : Rat), (mkRat 9 10)]) hw4 (by simp) (by simp)
    have m2 : ∀ z ∈ [(1 : Rat), (mkRat 1 2), (0 : Rat), (mkRat 9 10)], 0 ≤ z ∧ z ≤ 1 ∧ z.num.natAbs < 2 ^ 32 ∧ z.den < 2 ^ 32 := by decide +kernel
    obtain ⟨z0, z1, zr⟩ := m2 _ m
    obtain ⟨x0, x1, xr⟩ := p4 x hx
    have zx : x * (M_law_right_d5 w x w4).1 ≤ x := by
      have := Rat.mul_le_mul_of_nonneg_left (show (M_law_right_d5 w x w4).1 ≤ 1 from z1) x0
      rwa [Rat.mul_one] at this
    exact ⟨⟨s, rs xr (rz_c zr) (by decide)⟩, rfl, ⟨zx, Rat.mul_nonneg x0 z0, Rat.le_trans zx x1, rz_mul xr (rz_c zr)⟩, kk⟩)
  obtain ⟨qs, hqs⟩ : ∃ qs, (M_law_right_l1 w).1 = qs := ⟨_, rfl⟩
  have el1 : lcW (M_law_right_p1 w) (M_law_right_f1 w) ps (M_law_right_d4 w).2 = M_law_right_l1 w := by
    unfold M_law_right_l1
    rw [eps]
  rw [el1] at n20 p20 k20
  rw [hqs] at n20 p20
  have lq : qs.length = n := n20.trans l4
  have each : ∀ j : Nat, j < n → ixI qs (j : Int) ≤ ixI ps (j : Int) ∧ Nb 196 (ixI qs (j : Int)) := fun j hj => by
    have g1 : ps[j]? = some (ps[j]'(by omega)) := List.getElem?_eq_getElem _
    have g2 : qs[j]? = some (qs[j]'(by omega)) := List.getElem?_eq_getElem _
    have := p20 j _ _ g1 g2
    rw [getI g1, getI g2]
    exact this
  have nq : ∀ q ∈ qs, Rz 196 q := fun q hq => by
    obtain ⟨j, hj⟩ := List.mem_iff_getElem?.mp hq
    have := lt_of_get hj
    have := (each j (by omega)).2.2.2
    rwa [getI hj] at this
  obtain ⟨s21, q21, z21⟩ := worth_at2_sp (ws := wths n cs s) nq wok (by decide)
  have hless := most_less l4 lq st (fun i i0 i1 => by
    obtain ⟨j, rfl⟩ : ∃ j : Nat, i = j := ⟨i.toNat, by omega⟩
    exact (each j (by omega)).1) q14 q21
  have nolt : decide (v < shQ ps cs s) = false := decide_eq_false (Rat.not_lt.mpr hle)
  have sw1 : Shw 1 975 (encR (shQ ps cs s)) := shw_rat shnb.2.2 (by decide)
  have q8' : (M_share (List.map KR.r ps) (List.map KR.r cs) s).q = shQ ps cs s := q8
  refine ⟨(M_law_right w).2, T_law_right w ⟨s1, by rw [hn]; exact s2, by omega, by rw [hn, en]; exact s3, by rw [hn, ecs]; exact s4, by rw [eps, ecs, es]; exact s6, by rw [ecs, es]; exact s7, by rw [eps, ecs, es]; exact s8, ?_, rfl, by rw [ecs, es]; exact s11, by decide, ?_, by rw [ecs, es, eps, q11]; exact s14, ?_, fun _ => by rw [eps, ecs, es]; exact s16, fun _ => ?_, ?_, by rw [eps]; exact szl (by omega), by rw [eps]; exact s20, by rw [etold, hqs]; exact s21, ?_, ?_⟩⟩
  · rw [eps, ecs, es, edue]
    refine ⟨?_, 2, 2000, (shw_lst (shw_two sw1 sw1)).mono (Nat.le_refl _) (by simp), by decide, by decide⟩
    have e := (isK (M_share (List.map KR.r ps) (List.map KR.r cs) s)).toP
    rw [q8'] at e
    show PyData.list [(eK (M_share (List.map KR.r ps) (List.map KR.r cs) s)).toP, (eK (M_share (List.map KR.r ps) (List.map KR.r cs) s)).toP] = PyData.list [(encR (shQ ps cs s)).toP, (encR (shQ ps cs s)).toP]
    rw [e]
  · have hsw := sw_wths h5 wok (by decide) (wths_len (cs := cs) h1 h5 st)
    rw [etold, ecs, es, q11, show M_share_worths (List.map KR.r cs) s = kw (wths n cs s) from q7]
    have eL2 : (eL (eT (eP (eT (eO eK)) encR))) [kw (wths n cs s), kw (wths n cs s)] = (eL (eT (eP (eT (eO encR)) encR))) [wths n cs s, wths n cs s] := by
      show D.lst [_, _] = D.lst [_, _]
      rw [kw_enc]
    rw [eL2]
    exact ⟨rfl, 5, 4000000, (shw_lst (shw_two hsw hsw)).mono (Nat.le_refl _) (by simp), by decide, by decide⟩
  · rw [emost, edue]
    exact rs z14.2.2 shnb.2.2 (by decide)
  · rw [eps, ecs, es, emost]
    have e := (isK (M_law_greatest ps cs s)).toP
    rw [q16] at e
    exact ⟨e, 1, 975, shw_rat z14.2.2 (by decide), by decide, by decide⟩
  · rw [emost, edue, nolt]
    rfl
  · rw [etold, hqs, emost]
    exact rs z21.2.2 z14.2.2 (by decide)
  · rw [etold, hqs, emost, decide_eq_false (Rat.not_lt.mpr hless)]
    rfl
theorem law_true (ns : List Int) (hl : ns.length ≤ 63) (hb : ∀ z ∈ ns, Builtin.Int.intBits z ≤ 1048576) : ∃ w1, G_law [.scr ns] [] = .ok (.bl true) w1 :=
  ⟨[], law2_ok (GR := G__law_right) (GW := LV.G__law_well) (fun ns turn w h0 h1 => well2_ok ns turn w h0 h1) right_ok ns []⟩
end K41

namespace K41
open PySem PySem.Spec L2 DL PF LV
open PyProof.Rows hiding St
variable {P : Program} {w : World} {K : Kt} {mg : Str → Option Value} {base : Heap}
theorem txt_of {K : PySem.W.Frag} {h : Heap} {mg : Str → Option Value} {TT : List (Addr × Str)} {base : Heap} (X : K.In h) (G : h.Ns mainGlobals mg) (c : He.SaysD fas dfs K) (ci : ims.all (impOk K) = true) (ck : cns.all (conOk K) = true)  : Txt K TT mg base where
  f__law_draw := c.def_ 0 rfl
  g__law_draw := He.glo_ok X G (c.fact 0 rfl)
  f__law_pick := c.def_ 1 rfl
  g__law_pick := He.glo_ok X G (c.fact 1 rfl)
  f__law_low := c.def_ 2 rfl
  g__law_low := He.glo_ok X G (c.fact 2 rfl)
  f__law_any_part := c.def_ 3 rfl
  g__law_any_part := He.glo_ok X G (c.fact 3 rfl)
  f__law_sub := c.def_ 4 rfl
  g__law_sub := He.glo_ok X G (c.fact 4 rfl)
  f__law_add := c.def_ 5 rfl
  g__law_add := He.glo_ok X G (c.fact 5 rfl)
  f__law_mark := c.def_ 6 rfl
  g__law_mark := He.glo_ok X G (c.fact 6 rfl)
  f__law_marks := c.def_ 7 rfl
  g__law_marks := He.glo_ok X G (c.fact 7 rfl)
  f__law_below := c.def_ 8 rfl
  g__law_below := He.glo_ok X G (c.fact 8 rfl)
  f__law_is_in := c.def_ 9 rfl
  g__law_is_in := He.glo_ok X G (c.fact 9 rfl)
  f__law_greater := c.def_ 10 rfl
  g__law_greater := He.glo_ok X G (c.fact 10 rfl)
  f__law_worth_at := c.def_ 11 rfl
  g__law_worth_at := He.glo_ok X G (c.fact 11 rfl)
  f__law_level := c.def_ 12 rfl
  g__law_level := He.glo_ok X G (c.fact 12 rfl)
  f__law_low_level := c.def_ 13 rfl
  g__law_low_level := He.glo_ok X G (c.fact 13 rfl)
  f__law_mul := c.def_ 14 rfl
  g__law_mul := He.glo_ok X G (c.fact 14 rfl)
  f__law_steps := c.def_ 15 rfl
  g__law_steps := He.glo_ok X G (c.fact 15 rfl)
  f__law_order := c.def_ 16 rfl
  g__law_order := He.glo_ok X G (c.fact 16 rfl)
  f__law_stepped := c.def_ 17 rfl
  g__law_stepped := He.glo_ok X G (c.fact 17 rfl)
  f__law_share := c.def_ 18 rfl
  g__law_share := He.glo_ok X G (c.fact 18 rfl)
  f_is_row := c.def_ 19 rfl
  g_is_row := He.glo_ok X G (c.fact 19 rfl)
  f_is_whole := c.def_ 20 rfl
  g_is_whole := He.glo_ok X G (c.fact 20 rfl)
  f_is_fraction := c.def_ 21 rfl
  g_is_fraction := He.glo_ok X G (c.fact 21 rfl)
  f_is_number := c.def_ 22 rfl
  g_is_number := He.glo_ok X G (c.fact 22 rfl)
  f_is_at_most := c.def_ 23 rfl
  g_is_at_most := He.glo_ok X G (c.fact 23 rfl)
  f_check_limits := c.def_ 24 rfl
  g_check_limits := He.glo_ok X G (c.fact 24 rfl)
  f_is_count := c.def_ 25 rfl
  g_is_count := He.glo_ok X G (c.fact 25 rfl)
  f_tells_count := c.def_ 26 rfl
  g_tells_count := He.glo_ok X G (c.fact 26 rfl)
  f_check_leading_limits := c.def_ 27 rfl
  g_check_leading_limits := He.glo_ok X G (c.fact 27 rfl)
  f_is_ascending := c.def_ 28 rfl
  g_is_ascending := He.glo_ok X G (c.fact 28 rfl)
  f_is_index := c.def_ 29 rfl
  g_is_index := He.glo_ok X G (c.fact 29 rfl)
  f_is_set := c.def_ 30 rfl
  g_is_set := He.glo_ok X G (c.fact 30 rfl)
  f_check_set := c.def_ 31 rfl
  g_check_set := He.glo_ok X G (c.fact 31 rfl)
  f_all_sets := c.def_ 32 rfl
  g_all_sets := He.glo_ok X G (c.fact 32 rfl)
  f_is_part := c.def_ 33 rfl
  g_is_part := He.glo_ok X G (c.fact 33 rfl)
  f_alike := c.def_ 34 rfl
  g_alike := He.glo_ok X G (c.fact 34 rfl)
  f_lowest := c.def_ 35 rfl
  g_lowest := He.glo_ok X G (c.fact 35 rfl)
  f_share_worth := c.def_ 36 rfl
  g_share_worth := He.glo_ok X G (c.fact 36 rfl)
  f_worths_against := c.def_ 37 rfl
  g_worths_against := He.glo_ok X G (c.fact 37 rfl)
  f_share_worths := c.def_ 38 rfl
  g_share_worths := He.glo_ok X G (c.fact 38 rfl)
  f__law_sets_of := c.def_ 39 rfl
  g__law_sets_of := He.glo_ok X G (c.fact 39 rfl)
  f__law_edge := c.def_ 40 rfl
  g__law_edge := He.glo_ok X G (c.fact 40 rfl)
  f__law_worths := c.def_ 41 rfl
  g__law_worths := He.glo_ok X G (c.fact 41 rfl)
  f__law_all_sets := c.def_ 42 rfl
  g__law_all_sets := He.glo_ok X G (c.fact 42 rfl)
  f_first_wrong := c.def_ 43 rfl
  g_first_wrong := He.glo_ok X G (c.fact 43 rfl)
  f_check_numbers := c.def_ 44 rfl
  g_check_numbers := He.glo_ok X G (c.fact 44 rfl)
  f_check_leading_numbers := c.def_ 45 rfl
  g_check_leading_numbers := He.glo_ok X G (c.fact 45 rfl)
  f_up_to := c.def_ 46 rfl
  g_up_to := He.glo_ok X G (c.fact 46 rfl)
  f_called_up := c.def_ 47 rfl
  g_called_up := He.glo_ok X G (c.fact 47 rfl)
  f_share := c.def_ 48 rfl
  g_share := He.glo_ok X G (c.fact 48 rfl)
  f__law_greatest := c.def_ 49 rfl
  g__law_greatest := He.glo_ok X G (c.fact 49 rfl)
  f__law_right := c.def_ 50 rfl
  g__law_right := He.glo_ok X G (c.fact 50 rfl)
  f__law_well := c.def_ 51 rfl
  g__law_well := He.glo_ok X G (c.fact 51 rfl)
  f_law := c.def_ 52 rfl
  g_law := He.glo_ok X G (c.fact 52 rfl)
  k_NIL := con_ok X G ck (by decide)
  k_ONE := con_ok X G ck (by decide)
  z_abs := He.free_ok X G (c.fact 53 rfl)
  z_all := He.free_ok X G (c.fact 54 rfl)
  z_divmod := He.free_ok X G (c.fact 55 rfl)
  z_enumerate := He.free_ok X G (c.fact 56 rfl)
  z_int := He.free_ok X G (c.fact 57 rfl)
  z_len := He.free_ok X G (c.fact 58 rfl)
  z_list := He.free_ok X G (c.fact 59 rfl)
  z_range := He.free_ok X G (c.fact 60 rfl)
  z_repr := He.free_ok X G (c.fact 61 rfl)
  z_sorted := He.free_ok X G (c.fact 62 rfl)
  z_sum := He.free_ok X G (c.fact 63 rfl)
  z_tuple := He.free_ok X G (c.fact 64 rfl)
  z_type := He.free_ok X G (c.fact 65 rfl)
  z_zip := He.free_ok X G (c.fact 66 rfl)
  m_gcd := imp_ok X G ci (by decide)
  c_MOST_COUNT := He.int_ok X G (c.fact 67 rfl)
theorem recs_ok : (lams.all fun x => (recsOf vw).any fun d => d.name == x) = true := by kernel_rfl
theorem facts {w : World} {K : PySem.W.Frag} {h : Heap} {mg : Str → Option Value} {f : Addr} (X : K.In h) (G : h.Ns mainGlobals mg) (hfa : mg ("law" : Str) = some (.ref f)) (c : He.SaysD fas dfs K) (nt : NoTab K) (ap : apart K lams = true) (ci : ims.all (impOk K) = true) (ck : cns.all (conOk K) = true) (tb : TabsOf vw mg h) :
    ∃ (fd : FuncData) (cs : List (Addr × Addr)) (sp : Sp), (∀ p ∈ cs, h.get? p.2 = some { cls := .none, data := .fields #[] }) ∧ (∀ p ∈ cs, K.lookup p.2 = none) ∧ (∀ p ∈ cs, PySem.W.CodeHd h p.1 p.2) ∧ (∀ (s : Shared) (u : Value), BindsTo s fd ⟨[u], []⟩ [("script", u)]) ∧
      (∀ (H : Hp) (a : Addr) (ns : List Int), ns.length ≤ 63 → (∀ z ∈ ns, Builtin.Int.intBits z ≤ 1048576) → (∀ p ∈ cs, H p.2 = some (.tbl #[])) → SqL K H a (ns.map V.int) → (∀ b ps, H b = some (.tbl ps) → b ∈ cs.map (·.2)) → sp [.ref a] H (fun v _ => v = .bl true) fun _ _ _ => False) ∧
      ∀ base : Heap, K.In base → base.Ns mainGlobals mg → (∀ p ∈ cs, LamX.TabB base mg p.1 p.2) → FG R.prog w K mg base 10 f fd ["script"] sp := by
  have glo : ∀ x ∈ lams, mg x = some (.ref (He.ga K x)) := fun x hx => by
    simp only [lams, List.mem_cons, List.not_mem_nil, or_false] at hx
  have recd : ∀ x ∈ lams, ∃ d ∈ recsOf vw, d.name = x := fun x hx => by
    obtain ⟨d, hd, e⟩ := List.any_eq_true.mp (List.all_eq_true.mp recs_ok x hx)
    exact ⟨d, hd, by simpa using e⟩
  have lf : ∀ p ∈ csOf K lams, h.get? p.2 = some { cls := .none, data := .fields #[] } ∧ K.lookup p.2 = none ∧ PySem.W.CodeHd h p.1 p.2 := fun p hp => by
    obtain ⟨x, hx, e⟩ := cs_mem hp
    exact lam_facts X nt tb (glo x hx) (recd x hx) e
  obtain ⟨fd, F⟩ := c.def_ 52 rfl
  have ef := hfa.symm.trans (He.glo_ok X G (c.fact 52 rfl))
  cases ef
  have b := FunD.bindsA (ps := ["script"]) F fun _ _ _ _ _ _ us hl => match us, hl with | [_], _ => rfl
  refine ⟨fd, csOf K lams, spD ⟨K, TTof K lams, none⟩ 1 G_law, fun p hp => (lf p hp).1, fun p hp => (lf p hp).2.1, fun p hp => (lf p hp).2.2, fun s u => b s [u] rfl, fun H a ns hl hb ht hs _ => ?_, fun base kb gb tabs => ?_⟩
  · obtain ⟨w1, e⟩ := law_true ns hl hb
    exact law_sp hs (tabs_of ht) e
  · exact fg_law (K := ⟨K, TTof K lams, none⟩) (txt_of X G c ci ck ) F
end K41
open PySem PySem.W PySem.Calls PyProof.Rows
theorem PySem.Challenge.cw_surefinds_k41_whole_shares_and_worths_holds : PySem.Challenge.rw_surefinds_k41_whole_shares_and_worths.Holds := by
  w_on; o_law
  refine HandSHeadRun.head_imp (r := OpenLaw.row PySem.Challenge.rw_surefinds_k41_whole_shares_and_worths) (q := view (OpenLaw.row PySem.Challenge.rw_surefinds_k41_whole_shares_and_worths).prog [0, 69]) (H := K41.hk) (ob := K41.ob) (M := 8000) (loose := K41.lo) (d := HandSHeadRun.topDef (OpenLaw.row PySem.Challenge.rw_surefinds_k41_whole_shares_and_worths).prog 69) (kwd := []) K41.ob_eq
    K41.run (by kernel_rfl) (by kernel_rfl) (by kernel_rfl) (by rfl) (by first | assumption | decide +kernel) (by decide +kernel) ⟨rfl, rfl, rfl, rfl, rfl, by decide +kernel⟩ ?hw ?hc
  case hw => w_witness2
  case hc =>
    refine DL.walk_own (l := PySem.Challenge.rw_surefinds_k41_whole_shares_and_worths) (n := 63) (k := 10) (x := "script") rfl (by decide) (by kernel_rfl) ⟨⟨rfl, by decide, by decide⟩, rfl⟩ ?F
    intro w mg fa h Y G hmg0 tb
    obtain ⟨K, KX, c, nt, ap0⟩ := Y
    obtain ⟨ap1, ck⟩ := Bool.and_eq_true_iff.mp ap0
    obtain ⟨ap, ci⟩ := Bool.and_eq_true_iff.mp ap1
    have hmg : mg ("law" : PySem.Str) = some (.ref fa) := by
      have e : (HandSHeadRun.topDef (OpenLaw.row PySem.Challenge.rw_surefinds_k41_whole_shares_and_worths).prog 69).name = ("law" : PySem.Str) := by kernel_rfl
      rw [← e]
      exact hmg0
    obtain ⟨fd, cs, sp, z⟩ := K41.facts (w := w) KX G hmg c nt ap ci ck tb
    exact ⟨K, fd, cs, sp, KX, z⟩



import PyProof.Rows.All
import Wide.All
import OpenK.AllK
import Wide.FinOn
import HandS.Base
import HandS.Call
import HandS.List
import HandS.Comp
import HandS.Words
import HandS.Exc
import HandS.ExcInit
import HandS.Lambda
import HandS.Deep
import HandS.ExcOwn
import HandS.WordsExc
import HandS.IsInst
import KE.SortData
import HandS.More
import HandS.Wide
import HandS.TupAny
import HandS.Dict
import HandS.Nested
import KE.DataMinKey
import PyProof.Rows.CallKwBuiltin
import KE.KExcIs
import HandS.ExcIs
import HandS.ExcField
import HandS.Head0
import HandS.Head1
import HandS.Head2
import HandS.HeadHook4
import HandS.HeadWalk
import HandS.Zip
import KE.GoesEnum
import KE.GoesComp
import HandS.Property
import HandS.MakeKwOnly
import HandS.ClsMeth
import HandS.OwnEq
import KE.KeyNested
import HandS.Iter
import KE.KTupSum
import HandS.WideBits
import PySem.Challenge.RW_sixviews_k07_mixed_numbers_and_rims
set_option Elab.async false
set_option linter.all false
set_option maxRecDepth 100000
namespace PL
open PySem PySem.Spec PyProof.Rows L2 LamX
inductive D where
  | non | bl (b : Bool) | int (i : Int) | str (x : Str) | val (v : V)
  | tup (l : List D) | lst (l : List D) | scr (l : List Int)
  | dk (l : List (Key × D)) | dt (l : List (List Key × D))
  /-- a tuple of ints and texts that was made while the law ran; a dict keyed by such tuples that never changes any more -/
  | key (l : List Key) | dz (l : List (List Key × D))
  /-- an instance of the class of the name n; an exception that a suite holds, its dict at d -/
  | obj (n : Str) (l : List (Str × D)) | exc (a d : Addr) (l : List (Str × D))
  /-- a lambda at f, its code object, what it captured -/
  | lam (f c : Addr) (q : Str) (l : List (V × D))
/-- what a name may own -/
inductive MO where
  | lst (l : List D) | dk (l : List (Key × D)) | dt (l : List (List Key × D)) | obj (n : Str) (l : List (Str × D))
def MO.d : MO → D
  | .lst l => .lst l
  | .dk l => .dk l
  | .dt l => .dt l
  | .obj n l => .obj n l
structure Exn where
  cls : Str
  fs : List (Str × D)
inductive Sl where
  | no | im (d : D) | ow (l : MO) | io (l : MO)
abbrev En := List Sl
inductive Rs (α : Type) where
  | ok (a : α) (δ : En) | err (x : Exn) (δ : En) | bad
abbrev M (α : Type) := En → Rs α
def M.pure {α : Type} (a : α) : M α := fun δ => .ok a δ
def M.bind {α β : Type} (m : M α) (k : α → M β) : M β := fun δ => match m δ with
  | .ok a δ' => k a δ'
  | .err x δ' => .err x δ'
  | .bad => .bad
def M.bad {α : Type} : M α := fun _ => .bad
/-- the tables of the code objects of lambdas: the only things that change behind all names; where the classes lie -/
class Tbls where
  tb : List (Addr × Str)
  adr : Str → Addr
variable [Tbls]
mutual
inductive Has (K : PySem.W.Frag) (F : Hp) : D → V → Prop
  | non : Has K F .non .non
  | bl (b : Bool) : Has K F (.bl b) (.bl b)
  | int (i : Int) : Has K F (.int i) (.int i)
  | str (x : Str) : Has K F (.str x) (.str x)
  | val (v : V) : Has K F (.val v) v
  | tup {a : Addr} {vs : List V} {ds : List D} : SqT K F a vs → HasL K F ds vs → Has K F (.tup ds) (.ref a)
  | lst {a : Addr} {vs : List V} {ds : List D} : F a = some (.lst vs) → HasL K F ds vs → Has K F (.lst ds) (.ref a)
  | scr {a : Addr} {l : List Int} : SqL K F a (l.map V.int) → Has K F (.scr l) (.ref a)
  | dk {a : Addr} {l : List (Key × D)} {vs : List (Key × V)} : F a = some (.dK vs) → l.map (·.1) = vs.map (·.1) → HasL K F (l.map (·.2)) (vs.map (·.2)) → Has K F (.dk l) (.ref a)
  | dt {a : Addr} {l : List (List Key × D)} {vs : List (List Key × V)} : F a = some (.dT vs) → l.map (·.1) = vs.map (·.1) → HasL K F (l.map (·.2)) (vs.map (·.2)) → Has K F (.dt l) (.ref a)
  | key {a : Addr} {ks : List Key} : F a = some (.tup (ks.map kV)) → Has K F (.key ks) (.ref a)
  | dz {a : Addr} {o : Obj} {l : List (List Key × D)} {vs : List (List Key × V)} : F a = some (.frz o (.dT vs)) → l.map (·.1) = vs.map (·.1) → HasL K F (l.map (·.2)) (vs.map (·.2)) → Has K F (.dz l) (.ref a)
  | obj {a dx : Addr} {n : Str} {l : List (Str × D)} {vs : List (Str × V)} : F a = some (.ins (Tbls.adr n) dx vs) → l.map (·.1) = vs.map (·.1) → HasL K F (l.map (·.2)) (vs.map (·.2)) → Has K F (.obj n l) (.ref a)
  | exc {a d : Addr} {l : List (Str × D)} {vs : List (Str × V)} : F d = some (.xd vs) → l.map (·.1) = vs.map (·.1) → HasL K F (l.map (·.2)) (vs.map (·.2)) → Has K F (.exc a d l) (.ref a)
  | lam {f c : Addr} {q : Str} {l : List (V × D)} : F c = some (CodeO c q) → HasL K F (l.map (·.2)) (l.map (·.1)) → Has K F (.lam f c q l) (.ref f)
inductive HasL (K : PySem.W.Frag) (F : Hp) : List D → List V → Prop
  | nil : HasL K F [] []
  | cons {d : D} {v : V} {ds : List D} {vs : List V} : Has K F d v → HasL K F ds vs → HasL K F (d :: ds) (v :: vs)
end
theorem Same.seqT {K : PySem.W.Frag} {H H' : Hp} {a : Addr} {xs : List V} (e : Same H H') (h : SqT K H a xs) : SqT K H' a xs := by
  rcases h with (h | ⟨o, h⟩) | h
  · exact .inl (.inl (e _ _ h))
  · exact .inl (.inr ⟨o, e _ _ h⟩)
  · exact .inr h
mutual
theorem Has.mono {K : PySem.W.Frag} {F F' : Hp} (e : Same F F') : ∀ {d : D} {v : V}, Has K F d v → Has K F' d v
  | _, _, .non => .non
  | _, _, .bl b => .bl b
  | _, _, .int i => .int i
  | _, _, .str x => .str x
  | _, _, .val v => .val v
  | _, _, .tup h l => .tup (Same.seqT e h) (HasL.mono e l)
  | _, _, .lst h l => .lst (e _ _ h) (HasL.mono e l)
  | _, _, .scr h => .scr (e.seq h)
  | _, _, .dk h k l => .dk (e _ _ h) k (HasL.mono e l)
  | _, _, .dt h k l => .dt (e _ _ h) k (HasL.mono e l)
  | _, _, .key h => .key (e _ _ h)
  | _, _, .dz h k l => .dz (e _ _ h) k (HasL.mono e l)
  | _, _, .obj h k l => .obj (e _ _ h) k (HasL.mono e l)
  | _, _, .exc h k l => .exc (e _ _ h) k (HasL.mono e l)
  | _, _, .lam h l => .lam (e _ _ h) (HasL.mono e l)
theorem HasL.mono {K : PySem.W.Frag} {F F' : Hp} (e : Same F F') : ∀ {ds : List D} {vs : List V}, HasL K F ds vs → HasL K F' ds vs
  | _, _, .nil => .nil
  | _, _, .cons h l => .cons (Has.mono e h) (HasL.mono e l)
end
section
variable {K : PySem.W.Frag} {F : Hp}
theorem HasL.length : ∀ {ds : List D} {vs : List V}, HasL K F ds vs → ds.length = vs.length
  | _, _, .nil => rfl
  | _, _, .cons _ l => congrArg (· + 1) l.length
theorem HasL.get : ∀ {ds : List D} {vs : List V} {i : Nat} {d : D}, HasL K F ds vs → ds[i]? = some d → ∃ v, vs[i]? = some v ∧ Has K F d v
  | _, _, 0, _, .cons h _, e => by simp at e; subst e; exact ⟨_, rfl, h⟩
  | _, _, i + 1, d, .cons _ l, e => by
    obtain ⟨v, h1, h2⟩ := HasL.get (i := i) l (by simpa using e)
    exact ⟨v, by simpa using h1, h2⟩
  | _, _, 0, _, .nil, e => by simp at e
  | _, _, i + 1, _, .nil, e => by simp at e
theorem HasL.append : ∀ {ds es : List D} {vs ws : List V}, HasL K F ds vs → HasL K F es ws → HasL K F (ds ++ es) (vs ++ ws)
  | _, _, _, _, .nil, s => s
  | _, _, _, _, .cons h l, s => .cons h (l.append s)
theorem HasL.take : ∀ {ds : List D} {vs : List V} (n : Nat), HasL K F ds vs → HasL K F (ds.take n) (vs.take n)
  | _, _, 0, _ => .nil
  | _, _, _ + 1, .nil => .nil
  | _, _, n + 1, .cons h l => .cons h (l.take n)
theorem HasL.drop : ∀ {ds : List D} {vs : List V} (n : Nat), HasL K F ds vs → HasL K F (ds.drop n) (vs.drop n)
  | _, _, 0, h => h
  | _, _, _ + 1, .nil => .nil
  | _, _, n + 1, .cons _ l => HasL.drop n l
theorem HasL.set : ∀ {ds : List D} {vs : List V} {d : D} {v : V} (i : Nat), Has K F d v → HasL K F ds vs → HasL K F (ds.set i d) (vs.set i v)
  | _, _, _, _, _, _, .nil => .nil
  | _, _, _, _, 0, r, .cons _ t => .cons r t
  | _, _, _, _, i + 1, r, .cons q t => .cons q (HasL.set i r t)
end
/-- what is owned, as it stands -/
def MOk (K : PySem.W.Frag) (F : Hp) : MO → HO → Prop
  | .lst l, .lst vs => HasL K F l vs
  | .dk l, .dK vs => l.map (·.1) = vs.map (·.1) ∧ HasL K F (l.map (·.2)) (vs.map (·.2))
  | .dt l, .dT vs => l.map (·.1) = vs.map (·.1) ∧ HasL K F (l.map (·.2)) (vs.map (·.2))
  | .obj n l, .ins C _ vs => C = Tbls.adr n ∧ l.map (·.1) = vs.map (·.1) ∧ HasL K F (l.map (·.2)) (vs.map (·.2))
  | _, _ => False
theorem MOk.mono {K : PySem.W.Frag} {F F' : Hp} (e : Same F F') : ∀ {o : MO} {h : HO}, MOk K F o h → MOk K F' o h := fun {o h} => by
  cases o <;> cases h <;> first | exact id | exact fun x => HasL.mono e x | exact fun x => ⟨x.1, HasL.mono e x.2⟩ | exact fun x => ⟨x.1, x.2.1, HasL.mono e x.2.2⟩
theorem MOk.ntbl {K : PySem.W.Frag} {F : Hp} {o : MO} {h : HO} (m : MOk K F o h) : ∀ ps, h ≠ .tbl ps := fun ps z => by
  subst z
  cases o <;> exact m
theorem MOk.kp {K : PySem.W.Frag} {F : Hp} {o : MO} {h : HO} (m : MOk K F o h) : (∀ ps, h ≠ .tbl ps) ∧ ∀ xs, h ≠ .tup xs := ⟨m.ntbl, fun xs z => by
  subst z
  cases o <;> exact m⟩
theorem MOk.ncode {K : PySem.W.Frag} {F : Hp} {o : MO} {h : HO} {a : Addr} (m : MOk K F o h) : ∀ q, h ≠ CodeO a q := fun q z => by
  unfold CodeO at z
  subst z
  cases o <;> exact m
theorem MOk.has {K : PySem.W.Frag} {F : Hp} {a : Addr} {o : MO} {h : HO} (m : MOk K F o h) (e : F a = some h) : Has K F o.d (.ref a) := by
  cases o <;> cases h <;> first | exact m.elim | exact .lst e m | exact .dk e m.1 m.2 | exact .dt e m.1 m.2 | (obtain ⟨m0, m1, m2⟩ := m; subst m0; exact .obj e m1 m2)
def noT (H : Hp) : Hp := fun b => match H b with
  | some (.tbl _) => none
  | some (.tup _) => none
  | o => o
/-- neither a table nor a tuple -/
def Kp (o : HO) : Prop := (∀ ps, o ≠ .tbl ps) ∧ ∀ xs, o ≠ .tup xs
def NB (F : Hp) : Prop := ∀ a o, F a = some o → Kp o
def NT (F : Hp) : Prop := ∀ a ps, F a ≠ some (.tbl ps)
theorem noT_some {H : Hp} {a : Addr} {o : HO} : noT H a = some o ↔ H a = some o ∧ Kp o := by
  unfold noT
  constructor
  · intro h
    split at h
    · cases h
    · cases h
    · rename_i q q2; exact ⟨h, fun ps z => by subst z; exact q ps h, fun xs z => by subst z; exact q2 xs h⟩
  · rintro ⟨h1, h2⟩
    split
    · rename_i ps q; rw [h1] at q; cases q; exact absurd rfl (h2.1 ps)
    · rename_i ps q; rw [h1] at q; cases q; exact absurd rfl (h2.2 ps)
    · exact h1
theorem noT_none {H : Hp} {a : Addr} (h : H a = none) : noT H a = none := by unfold noT; rw [h]
theorem NT.noT (H : Hp) : NT (noT H) := fun a ps z => (noT_some.mp z).2.1 ps rfl
theorem NB.noT (H : Hp) : NB (PL.noT H) := fun a o z => (noT_some.mp z).2
theorem NB.upd {F : Hp} {a : Addr} {o : HO} (n : NB F) (h : Kp o) : NB (upd F a o) := fun b u z => by
  by_cases q : b = a
  · subst q; rw [upd_same] at z; cases z; exact h
  · rw [upd_ne q] at z; exact n b u z
theorem noT_same (H : Hp) : Same (PL.noT H) H := fun a o h => (noT_some.mp h).1
theorem NT.upd {F : Hp} {a : Addr} {o : HO} (n : NT F) (h : ∀ ps, o ≠ .tbl ps) : NT (upd F a o) := fun b ps z => by
  by_cases q : b = a
  · subst q; rw [upd_same] at z; exact h ps (Option.some.inj z)
  · rw [upd_ne q] at z; exact n b ps z
/-- all but tables stay -/
theorem Same.noT {H H' : Hp} (h : Same H H') : Same (PL.noT H) H' := (noT_same H).trans h
theorem Same.into {F H H' : Hp} (n : NB F) (e : Same F H) (h : Same (PL.noT H) H') : Same F H' := fun a o q => h a o (noT_some.mpr ⟨e a o q, n a o q⟩)
abbrev TB (H : Hp) : Prop := Tabs Tbls.tb H
structure EO (K : PySem.W.Frag) (P B F0 H F : Hp) (δ : En) (σ : L2.St) (τ : List (D × V)) : Prop where
  dm' : ∀ a, noT H a = none → P a = none
  bp : ∀ a, P a = none → B a = none
  sb : Same B H
  sf : Same F H
  s0 : Same F0 F
  nw : ∀ a, F0 a = none → F a ≠ none → P a = none
  len : δ.length = σ.length
  im : ∀ (i : Nat) (d : D), δ[i]? = some (Sl.im d) → ∃ v, σ[i]? = some (some v) ∧ Has K F d v
  ow : ∀ (i : Nat) (l : MO), δ[i]? = some (Sl.ow l) → ∃ a vs, σ[i]? = some (some (V.ref a)) ∧ P a = none ∧ F a = none ∧ H a = some vs ∧ MOk K F l vs
  io : ∀ (i : Nat) (l : MO), δ[i]? = some (Sl.io l) → ∃ a vs, σ[i]? = some (some (V.ref a)) ∧ (B a = none ∧ P a ≠ none) ∧ F a = none ∧ H a = some vs ∧ MOk K F l vs
  ap : ∀ (i j : Nat) (a : Addr), ((∃ l, δ[i]? = some (Sl.ow l)) ∨ ∃ l, δ[i]? = some (Sl.io l)) → ((∃ l, δ[j]? = some (Sl.ow l)) ∨ ∃ l, δ[j]? = some (Sl.io l)) →
    σ[i]? = some (some (V.ref a)) → σ[j]? = some (some (V.ref a)) → i = j
  tm : ∀ p ∈ τ, Has K F p.1 p.2
  nt : NT F
  bt : NB B
  tb : TB H
section
variable {K : PySem.W.Frag} {P B F0 H F H' F' : Hp} {δ δ' : En} {σ σ' : L2.St} {τ τ' : List (D × V)} {d : D} {v : V} {a p : Addr}
theorem EO.dm (e : EO K P B F0 H F δ σ τ) (a : Addr) (h : H a = none) : P a = none := e.dm' a (noT_none h)
/-- the heap grows -/
theorem EO.grow (e : EO K P B F0 H F δ σ τ) (h : Same (noT H) H') (t : TB H') (f : Same F F') (fh : Same F' H') (nt : NT F') (n : ∀ a, F a = none → F' a ≠ none → noT H a = none) : EO K P B F0 H' F' δ σ τ where
  dm' := fun a q => e.dm' a (by
    cases z : noT H a with
    | none => rfl
    | some o => rw [noT_some.mpr ⟨h a o z, (noT_some.mp z).2⟩] at q; cases q)
  bp := e.bp
  sb := Same.into e.bt e.sb h
  sf := fh
  s0 := e.s0.trans f
  nw := fun a q1 q2 => by
    by_cases q : F a = none
    · exact e.dm' a (n a q q2)
    · exact e.nw a q1 q
  len := e.len
  im := fun i d q => let ⟨v, h1, h2⟩ := e.im i d q; ⟨v, h1, h2.mono f⟩
  ow := fun i l q => by
    obtain ⟨a, vs, h1, h2, h3, h4, h5⟩ := e.ow i l q
    have h6 : noT H a = some vs := noT_some.mpr ⟨h4, h5.kp⟩
    refine ⟨a, vs, h1, h2, ?_, h _ _ h6, h5.mono f⟩
    cases z : F' a with
    | none => rfl
    | some o =>
      have := n a h3 (by rw [z]; exact fun y => nomatch y)
      rw [this] at h6; cases h6
  io := fun i l q => by
    obtain ⟨a, vs, h1, h2, h3, h4, h5⟩ := e.io i l q
    have h6 : noT H a = some vs := noT_some.mpr ⟨h4, h5.kp⟩
    refine ⟨a, vs, h1, h2, ?_, h _ _ h6, h5.mono f⟩
    cases z : F' a with
    | none => rfl
    | some o =>
      have := n a h3 (by rw [z]; exact fun y => nomatch y)
      rw [this] at h6; cases h6
  ap := e.ap
  tm := fun p q => (e.tm p q).mono f
  nt := nt
  bt := e.bt
  tb := t
theorem EO.push (e : EO K P B F0 H F δ σ τ) (h : Has K F d v) : EO K P B F0 H F δ σ ((d, v) :: τ) :=
  { e with tm := fun p q => (List.mem_cons.mp q).elim (fun z => by rw [z]; exact h) (e.tm p) }
theorem EO.sub (e : EO K P B F0 H F δ σ τ) (h : ∀ p ∈ τ', p ∈ τ) : EO K P B F0 H F δ σ τ' := { e with tm := fun p q => e.tm p (h p q) }
theorem EO.pop {x : D × V} (e : EO K P B F0 H F δ σ (x :: τ)) : EO K P B F0 H F δ σ τ := e.sub fun _ q => List.mem_cons_of_mem _ q
theorem EO.top (e : EO K P B F0 H F δ σ ((d, v) :: τ)) : Has K F d v := e.tm (d, v) List.mem_cons_self
theorem EO.fresh (e : EO K P B F0 H F δ σ τ) (h : H p = none) : F p = none := e.sf.free h
theorem same_new {H : Hp} {p : Addr} {o : HO} (h : H p = none) : Same H (upd H p o) := fun b x e => by
  rw [upd_ne (ne_of_none e h)]
  exact e
theorem upd_nn {F : Hp} {p b : Addr} {o : HO} (h1 : F b = none) (h2 : upd F p o b ≠ none) : b = p := by
  by_cases h : b = p
  · exact h
  · rw [upd_ne h] at h2
    exact absurd h1 h2
theorem same_upd2 {F H : Hp} {p : Addr} {o : HO} (h : Same F H) : Same (upd F p o) (upd H p o) := fun b x e => by
  by_cases q : b = p
  · subst q
    rw [upd_same] at e ⊢
    exact e
  · rw [upd_ne q] at e ⊢
    exact h _ _ e
/-- a new object, frozen at once -/
theorem EO.alloc {o : HO} (e : EO K P B F0 H F δ σ τ) (h : H p = none) (ho : ∀ ps, o ≠ .tbl ps := by exact fun _ z => nomatch z) : EO K P B F0 (upd H p o) (upd F p o) δ σ τ :=
  e.grow (Same.noT (same_new h)) (e.tb.ext (same_new h)) (same_new (e.fresh h)) (same_upd2 e.sf) (e.nt.upd ho) fun a q1 q2 => by
    rw [upd_nn q1 q2]
    exact noT_none h
/-- a new object that nothing holds yet -/
theorem EO.allocU {o : HO} (e : EO K P B F0 H F δ σ τ) (h : H p = none) : EO K P B F0 (upd H p o) F δ σ τ :=
  e.grow (Same.noT (same_new h)) (e.tb.ext (same_new h)) (Same.refl _) (fun b x q => same_new h _ _ (e.sf _ _ q)) e.nt fun a q1 q2 => absurd q1 q2
theorem EO.slot (e : EO K P B F0 H F δ σ τ) {i : Nat} {s : Sl} (h : δ[i]? = some s) : i < σ.length := by
  rw [← e.len]
  exact (List.getElem?_eq_some_iff.mp h).1
end
def ft (H F : Hp) : Hp := fun a => match F a with
  | some o => some o
  | none => match H a with
    | some (.tup xs) => some (.tup xs)
    | _ => none
section
variable {K : PySem.W.Frag} {P B F0 H F F' : Hp} {δ : En} {σ : L2.St} {τ : List (D × V)} {a : Addr} {xs : List V}
theorem ft_some {o : HO} (h : F a = some o) : ft H F a = some o := by unfold ft; rw [h]
theorem ft_cases {o : HO} (h : ft H F a = some o) : F a = some o ∨ (F a = none ∧ H a = some o ∧ ∃ xs, o = .tup xs) := by
  unfold ft at h
  split at h
  · rename_i q; cases h; exact .inl q
  · rename_i q
    split at h
    · rename_i xs q2; cases h; exact .inr ⟨q, q2, xs, rfl⟩
    · cases h
theorem ft_same : Same F (ft H F) := fun a o h => ft_some h
theorem ft_sub (h : Same F H) : Same (ft H F) H := fun a o q => (ft_cases q).elim (h a o) fun z => z.2.1
theorem ft_tup (h : Same F H) (q : H a = some (.tup xs)) : ft H F a = some (.tup xs) := by
  cases z : F a with
  | some o => rw [ft_some z, ← h _ _ z]; exact q
  | none => unfold ft; rw [z, q]
theorem ft_mono (h : Same F F') (h2 : Same F' H) : Same (ft H F) (ft H F') := fun a o q => by
  rcases ft_cases q with z | ⟨_, z, xs, rfl⟩
  · exact ft_some (h a o z)
  · exact ft_tup h2 z
theorem EO.close (e : EO K P B F0 H F δ σ τ) : EO K P B F0 H (ft H F) δ σ τ :=
  { e with
    sf := ft_sub e.sf
    s0 := e.s0.trans ft_same
    nw := fun a q1 q2 => by
      cases z : F a with
      | some o => exact e.nw a q1 (by rw [z]; exact fun y => nomatch y)
      | none =>
        cases y : ft H F a with
        | none => exact absurd y q2
        | some o =>
          rcases ft_cases y with w | ⟨_, w, xs, rfl⟩
          · rw [z] at w; cases w
          · exact e.dm' a (by unfold PL.noT; rw [w])
    im := fun i d q => let ⟨v, h1, h2⟩ := e.im i d q; ⟨v, h1, h2.mono ft_same⟩
    ow := fun i l q => by
      obtain ⟨a, vs, h1, h2, h3, h4, h5⟩ := e.ow i l q
      refine ⟨a, vs, h1, h2, ?_, h4, h5.mono ft_same⟩
      cases y : ft H F a with
      | none => rfl
      | some o =>
        rcases ft_cases y with w | ⟨_, w, xs, rfl⟩
        · rw [h3] at w; cases w
        · rw [h4] at w; cases w; exact absurd rfl (h5.kp.2 xs)
    io := fun i l q => by
      obtain ⟨a, vs, h1, h2, h3, h4, h5⟩ := e.io i l q
      refine ⟨a, vs, h1, h2, ?_, h4, h5.mono ft_same⟩
      cases y : ft H F a with
      | none => rfl
      | some o =>
        rcases ft_cases y with w | ⟨_, w, xs, rfl⟩
        · rw [h3] at w; cases w
        · rw [h4] at w; cases w; exact absurd rfl (h5.kp.2 xs)
    tm := fun p q => (e.tm p q).mono ft_same
    nt := fun a ps q => (ft_cases q).elim (e.nt a ps) fun z => by obtain ⟨_, _, xs, y⟩ := z; cases y }
end
end PL
set_option Elab.async false
set_option linter.all false
set_option maxRecDepth 100000
namespace PL
open PySem PySem.Spec PyProof.Rows L2 LamX
variable [Tbls]
abbrev Mg := Str → Option Value
/-- an exception as it lies -/
def XIs (K : PySem.W.Frag) (mg : Mg) (P F H : Hp) (x : Exn) (cls : Value) (dx : Option Addr) : Prop :=
  mg x.cls = some cls ∧ ∃ (a : Addr) (fvs : List (Str × V)), dx = some a ∧ P a = none ∧ H a = some (.xd fvs) ∧ fvs.map (·.1) = x.fs.map (·.1) ∧ HasL K F (x.fs.map (·.2)) (fvs.map (·.2))
section
variable (K : PySem.W.Frag) (mg : Mg) (W : WX) (P B F0 : Hp) (σ : L2.St) (τ : List (D × V))
def PostE (r : Rs D) (Q : VK) : Prop := match r with
  | .ok d δ' => ∀ v H' F', EO K P B F0 H' F' δ' σ ((d, v) :: τ) → Q v H'
  | .err x δ' => ∀ cls dx H' F', EO K P B F0 H' F' δ' σ τ → XIs K mg P F' H' x cls dx → W cls dx σ H'
  | .bad => False
def PostL (r : Rs (List D)) (Q : List V → Hp → Prop) : Prop := match r with
  | .ok ds δ' => ∀ vs H' F', EO K P B F0 H' F' δ' σ τ → HasL K F' ds vs → Q vs H'
  | .err x δ' => ∀ cls dx H' F', EO K P B F0 H' F' δ' σ τ → XIs K mg P F' H' x cls dx → W cls dx σ H'
  | .bad => False
def PostB (r : Rs Bool) (Q : Bool → Hp → Prop) : Prop := match r with
  | .ok b δ' => ∀ H' F', EO K P B F0 H' F' δ' σ τ → Q b H'
  | .err x δ' => ∀ cls dx H' F', EO K P B F0 H' F' δ' σ τ → XIs K mg P F' H' x cls dx → W cls dx σ H'
  | .bad => False
end
def tE (K : PySem.W.Frag) (mg : Mg) (W : WX) (g : M D) : TE := fun σ H Q => ∃ P B F0 F δ τ, EO K P B F0 H F δ σ τ ∧ PostE K mg W P B F0 σ τ (g δ) Q
def tL (K : PySem.W.Frag) (mg : Mg) (W : WX) (g : M (List D)) : TA := fun σ H Q => ∃ P B F0 F δ τ, EO K P B F0 H F δ σ τ ∧ PostL K mg W P B F0 σ τ (g δ) Q
def tT (K : PySem.W.Frag) (mg : Mg) (W : WX) (g : M Bool) : TT := fun σ H Q => ∃ P B F0 F δ τ, EO K P B F0 H F δ σ τ ∧ PostB K mg W P B F0 σ τ (g δ) Q
abbrev DE (X : Cx) (W : WX) (e : Expr) (g : M D) : Prop := PE X e (tE X.K X.mg W g)
abbrev DA (X : Cx) (W : WX) (es : List Expr) (g : M (List D)) : Prop := PA X es (tL X.K X.mg W g)
abbrev DT (X : Cx) (W : WX) (e : Expr) (g : M Bool) : Prop := PT X e (tT X.K X.mg W g)
theorem PE.imp {X : Cx} {e : Expr} {t t' : TE} (h : PE X e t) (i : ∀ σ H Q, t' σ H Q → t σ H Q) : PE X e t' := ⟨fun pins s σ H Q I q => h.run pins s σ H Q I (i σ H Q q)⟩
theorem PA.imp {X : Cx} {es : List Expr} {t t' : TA} (h : PA X es t) (i : ∀ σ H Q, t' σ H Q → t σ H Q) : PA X es t' := ⟨fun pos pins s σ H Q I q => h.run pos pins s σ H Q I (i σ H Q q)⟩
theorem PT.imp {X : Cx} {e : Expr} {t t' : TT} (h : PT X e t) (i : ∀ σ H Q, t' σ H Q → t σ H Q) : PT X e t' := ⟨fun pins s σ H Q I q => h.run pins s σ H Q I (i σ H Q q)⟩
theorem PS.imp {X : Cx} {st : Stmt} {t t' : TS} (h : PS X st t) (i : ∀ D σ H, t' D σ H → t D σ H) : PS X st t' := ⟨fun pins s σ H D I q => h.run pins s σ H D I (i D σ H q)⟩
theorem PSs.imp {X : Cx} {st : List Stmt} {t t' : TS} (h : PSs X st t) (i : ∀ D σ H, t' D σ H → t D σ H) : PSs X st t' := ⟨fun pins s σ H D I q => h.run pins s σ H D I (i D σ H q)⟩
theorem PG.imp {X : Cx} {e : Expr} {t t' : TG} (h : PG X e t) (i : ∀ v σ H Q, t' v σ H Q → t v σ H Q) : PG X e t' := ⟨fun pins s σ H v u Q I r q => h.run pins s σ H v u Q I r (i v σ H Q q)⟩
section
variable {K : PySem.W.Frag} {mg : Mg} {W : WX} {P B F0 H F : Hp} {δ : En} {σ : L2.St} {τ : List (D × V)} {Q : VK}
theorem PostE.weak {x : D × V} {r : Rs D} (p : PostE K mg W P B F0 σ τ r Q) : PostE K mg W P B F0 σ (x :: τ) r Q := by
  cases r with
  | ok d δ' => exact fun v H' F' e => p v H' F' (e.sub fun y q => (List.mem_cons.mp q).elim (fun z => by rw [z]; exact List.mem_cons_self) fun z => List.mem_cons_of_mem _ (List.mem_cons_of_mem _ z))
  | err x' δ' => exact fun cls dx H' F' e z => p cls dx H' F' e.pop z
  | bad => exact p
theorem PostB.weak {x : D × V} {r : Rs Bool} {Q : Bool → Hp → Prop} (p : PostB K mg W P B F0 σ τ r Q) : PostB K mg W P B F0 σ (x :: τ) r Q := by
  cases r with
  | ok d δ' => exact fun H' F' e => p H' F' e.pop
  | err x' δ' => exact fun cls dx H' F' e z => p cls dx H' F' e.pop z
  | bad => exact p
theorem PostL.weak {x : D × V} {r : Rs (List D)} {Q : List V → Hp → Prop} (p : PostL K mg W P B F0 σ τ r Q) : PostL K mg W P B F0 σ (x :: τ) r Q := by
  cases r with
  | ok d δ' => exact fun vs H' F' e h => p vs H' F' e.pop h
  | err x' δ' => exact fun cls dx H' F' e z => p cls dx H' F' e.pop z
  | bad => exact p
/-- an expression, then the rest (an expression's, a list's, a test's) -/
theorem seqE {ga : M D} {k : D → M D} {R : VK} (e : EO K P B F0 H F δ σ τ) (p : PostE K mg W P B F0 σ τ (M.bind ga k δ) Q)
    (h : ∀ d v H' F' δ', EO K P B F0 H' F' δ' σ ((d, v) :: τ) → PostE K mg W P B F0 σ τ (k d δ') Q → R v H') : tE K mg W ga σ H R := by
  refine ⟨P, B, F0, F, δ, τ, e, ?_⟩
  unfold M.bind at p
  cases q : ga δ with
  | ok d δ' => rw [q] at p; exact fun v H' F' e' => h d v H' F' δ' e' p
  | err x δ' => rw [q] at p; exact p
  | bad => rw [q] at p; exact p
theorem seqEL {ga : M D} {k : D → M (List D)} {R : VK} {Q : List V → Hp → Prop} (e : EO K P B F0 H F δ σ τ) (p : PostL K mg W P B F0 σ τ (M.bind ga k δ) Q)
    (h : ∀ d v H' F' δ', EO K P B F0 H' F' δ' σ ((d, v) :: τ) → PostL K mg W P B F0 σ τ (k d δ') Q → R v H') : tE K mg W ga σ H R := by
  refine ⟨P, B, F0, F, δ, τ, e, ?_⟩
  unfold M.bind at p
  cases q : ga δ with
  | ok d δ' => rw [q] at p; exact fun v H' F' e' => h d v H' F' δ' e' p
  | err x δ' => rw [q] at p; exact p
  | bad => rw [q] at p; exact p
theorem seqEB {ga : M D} {k : D → M Bool} {R : VK} {Q : Bool → Hp → Prop} (e : EO K P B F0 H F δ σ τ) (p : PostB K mg W P B F0 σ τ (M.bind ga k δ) Q)
    (h : ∀ d v H' F' δ', EO K P B F0 H' F' δ' σ ((d, v) :: τ) → PostB K mg W P B F0 σ τ (k d δ') Q → R v H') : tE K mg W ga σ H R := by
  refine ⟨P, B, F0, F, δ, τ, e, ?_⟩
  unfold M.bind at p
  cases q : ga δ with
  | ok d δ' => rw [q] at p; exact fun v H' F' e' => h d v H' F' δ' e' p
  | err x δ' => rw [q] at p; exact p
  | bad => rw [q] at p; exact p
theorem seqB {ga : M Bool} {k : Bool → M D} {R : Bool → Hp → Prop} (e : EO K P B F0 H F δ σ τ) (p : PostE K mg W P B F0 σ τ (M.bind ga k δ) Q)
    (h : ∀ b H' F' δ', EO K P B F0 H' F' δ' σ τ → PostE K mg W P B F0 σ τ (k b δ') Q → R b H') : tT K mg W ga σ H R := by
  refine ⟨P, B, F0, F, δ, τ, e, ?_⟩
  unfold M.bind at p
  cases q : ga δ with
  | ok d δ' => rw [q] at p; exact fun H' F' e' => h d H' F' δ' e' p
  | err x δ' => rw [q] at p; exact p
  | bad => rw [q] at p; exact p
theorem seqBB {ga : M Bool} {k : Bool → M Bool} {R Q : Bool → Hp → Prop} (e : EO K P B F0 H F δ σ τ) (p : PostB K mg W P B F0 σ τ (M.bind ga k δ) Q)
    (h : ∀ b H' F' δ', EO K P B F0 H' F' δ' σ τ → PostB K mg W P B F0 σ τ (k b δ') Q → R b H') : tT K mg W ga σ H R := by
  refine ⟨P, B, F0, F, δ, τ, e, ?_⟩
  unfold M.bind at p
  cases q : ga δ with
  | ok d δ' => rw [q] at p; exact fun H' F' e' => h d H' F' δ' e' p
  | err x δ' => rw [q] at p; exact p
  | bad => rw [q] at p; exact p
theorem seqL {ga : M (List D)} {k : List D → M D} {R : List V → Hp → Prop} (e : EO K P B F0 H F δ σ τ) (p : PostE K mg W P B F0 σ τ (M.bind ga k δ) Q)
    (h : ∀ ds vs H' F' δ', EO K P B F0 H' F' δ' σ τ → HasL K F' ds vs → PostE K mg W P B F0 σ τ (k ds δ') Q → R vs H') : tL K mg W ga σ H R := by
  refine ⟨P, B, F0, F, δ, τ, e, ?_⟩
  unfold M.bind at p
  cases q : ga δ with
  | ok d δ' => rw [q] at p; exact fun vs H' F' e' hl => h d vs H' F' δ' e' hl p
  | err x δ' => rw [q] at p; exact p
  | bad => rw [q] at p; exact p
def eVar (i : Nat) : M D := fun δ => match δ[i]? with
  | some (.im d) => .ok d δ
  | some (.ow l) => .ok l.d (δ.set i (.im l.d))
  | _ => .bad
def eC (d : D) : M D := M.pure d
/-- an owned list is frozen -/
theorem EO.freeze {i : Nat} {l : MO} (e : EO K P B F0 H F δ σ τ) (h : δ[i]? = some (Sl.ow l)) : ∃ a F', σ[i]? = some (some (V.ref a)) ∧ EO K P B F0 H F' (δ.set i (.im l.d)) σ ((l.d, V.ref a) :: τ) := by
  obtain ⟨a, vs, h1, h2, h3, h4, h5⟩ := e.ow i l h
  have f : Same F (upd F a vs) := same_new h3
  have hl : Has K (upd F a vs) l.d (V.ref a) := (h5.mono f).has upd_same
  have hi := e.slot h
  have set_ne : ∀ {j : Nat} {s : Sl}, j ≠ i → (δ.set i (.im l.d))[j]? = some s → δ[j]? = some s := fun {j s} hj q => by
    rw [List.getElem?_set_ne (Ne.symm hj)] at q
    exact q
  have set_eq : ∀ {s : Sl}, (δ.set i (.im l.d))[i]? = some s → s = .im l.d := fun {s} q => by
    rw [List.getElem?_set_self (by rw [e.len]; exact hi)] at q
    exact (Option.some.inj q).symm
  have other : ∀ {j : Nat} {m : MO} {b : Addr}, (δ[j]? = some (Sl.ow m) ∨ δ[j]? = some (Sl.io m)) → j ≠ i → σ[j]? = some (some (V.ref b)) → b ≠ a := fun {j m b} q hj hb z => by
    subst z
    exact hj (e.ap j i b (q.elim (fun y => .inl ⟨m, y⟩) fun y => .inr ⟨m, y⟩) (.inl ⟨l, h⟩) hb h1)
  refine ⟨a, _, h1, { e with nt := e.nt.upd h5.ntbl, sf := fun b o q => ?_, s0 := e.s0.trans f, nw := fun b q1 q2 => ?_, len := by rw [List.length_set]; exact e.len, im := fun j d q => ?_, ow := fun j m q => ?_, io := fun j m q => ?_, ap := fun j k b q1 q2 q3 q4 => ?_, tm := fun p q => ?_ }⟩
  · by_cases z : b = a
    · subst z
      rw [upd_same] at q
      rw [h4]; exact q
    · rw [upd_ne z] at q
      exact e.sf _ _ q
  · by_cases z : b = a
    · rw [z]; exact h2
    · rw [upd_ne z] at q2
      exact e.nw b q1 q2
  · by_cases z : j = i
    · subst z
      cases set_eq q
      exact ⟨_, h1, hl⟩
    · obtain ⟨v, y1, y2⟩ := e.im j d (set_ne z q)
      exact ⟨v, y1, y2.mono f⟩
  · have z : j ≠ i := fun z => by
      subst z
      cases set_eq q
    obtain ⟨b, ws, y1, y2, y3, y4, y5⟩ := e.ow j m (set_ne z q)
    exact ⟨b, ws, y1, y2, by rw [upd_ne (other (.inl (set_ne z q)) z y1)]; exact y3, y4, y5.mono f⟩
  · have z : j ≠ i := fun z => by
      subst z
      cases set_eq q
    obtain ⟨b, ws, y1, y2, y3, y4, y5⟩ := e.io j m (set_ne z q)
    exact ⟨b, ws, y1, y2, by rw [upd_ne (other (.inr (set_ne z q)) z y1)]; exact y3, y4, y5.mono f⟩
  · have nz : ∀ {j : Nat}, ((∃ l', (δ.set i (.im l.d))[j]? = some (Sl.ow l')) ∨ ∃ l', (δ.set i (.im l.d))[j]? = some (Sl.io l')) → ((∃ l', δ[j]? = some (Sl.ow l')) ∨ ∃ l', δ[j]? = some (Sl.io l')) := fun {j} y => by
      have z : j ≠ i := fun z => by
        subst z
        rcases y with ⟨_, y⟩ | ⟨_, y⟩ <;> cases set_eq y
      rcases y with ⟨m, y⟩ | ⟨m, y⟩
      · exact .inl ⟨m, set_ne z y⟩
      · exact .inr ⟨m, set_ne z y⟩
    exact e.ap j k b (nz q1) (nz q2) q3 q4
  · rcases List.mem_cons.mp q with z | z
    · rw [z]; exact hl
    · exact (e.tm p z).mono f
end
section
variable {X : Cx} {W : WX}
theorem de_var {i : Nat} {x : Str} {pos : Pos} (h : PE X (.Name x pos) (tVar i)) : DE X W (.Name x pos) (eVar i) := by
  refine PE.imp h fun σ H Q ⟨P, B, F0, F, δ, τ, e, p⟩ => ?_
  unfold eVar at p
  split at p
  · rename_i d q
    obtain ⟨v, h1, h2⟩ := e.im i d q
    exact ⟨v, h1, p v H F (e.push h2)⟩
  · rename_i l q
    obtain ⟨a, F', h1, e'⟩ := e.freeze q
    exact ⟨_, h1, p _ H F' e'⟩
  · exact p.elim
theorem de_c {ex : Expr} {d : D} {v : V} (h : PE X ex (tC v)) (hv : ∀ F, Has X.K F d v) : DE X W ex (eC d) :=
  PE.imp h fun _ H _ ⟨_, _, _, F, _, _, e, p⟩ => p v H F (e.push (hv F))
theorem de_int {i : Int} {j : Nat} {pos : Pos} : DE X W (.Constant (.int i) j pos) (eC (.int i)) := de_c pe_int fun _ => .int i
theorem de_str {x : Str} {j : Nat} {pos : Pos} : DE X W (.Constant (.str x) j pos) (eC (.str x)) := de_c pe_str fun _ => .str x
theorem de_bl {b : Bool} {j : Nat} {pos : Pos} : DE X W (.Constant (.bool b) j pos) (eC (.bl b)) := de_c pe_bl fun _ => .bl b
def opt (o : Option D) : M D := fun δ => match o with
  | some d => .ok d δ
  | none => .bad
def OpS (K : PySem.W.Frag) (r : R2) (f : D → D → Option D) : Prop := ∀ {d1 d2 d3 : D} {x y : V} {P B F0 H F : Hp} {δ : En} {σ : L2.St} {τ : List (D × V)} {Q : VK}, f d1 d2 = some d3 → EO K P B F0 H F δ σ τ → Has K F d1 x → Has K F d2 y →
  (∀ v H' F', EO K P B F0 H' F' δ σ ((d3, v) :: τ) → Q v H') → r x y H Q
def eBin (f : D → D → Option D) (ga gb : M D) : M D := M.bind ga fun a => M.bind gb fun b => opt (f a b)
/-- r at the two values -/
theorem tOp_of {K : PySem.W.Frag} {mg : Mg} {r : R2} {f : D → D → Option D} (hf : OpS K r f) {ga gb : M D} {σ : L2.St} {H : Hp} {Q : VK} (h : tE K mg W (eBin f ga gb) σ H Q) : tOp r (tE K mg W ga) (tE K mg W gb) σ H Q := by
  obtain ⟨P, B, F0, F, δ, τ, e, p⟩ := h
  refine seqE e p fun d1 x H1 F1 δ1 e1 p1 => ?_
  refine seqE e1 p1.weak fun d2 y H2 F2 δ2 e2 p2 => ?_
  unfold opt at p2
  split at p2
  · rename_i d3 q
    exact hf q e2 e2.pop.top e2.top fun v H' F' e' => p2 v H' F' (e'.sub fun z hz => (List.mem_cons.mp hz).elim (fun w => by rw [w]; exact List.mem_cons_self) fun w => List.mem_cons_of_mem _ (List.mem_cons_of_mem _ w))
  · exact p2.elim
theorem de_op {op : Operator} {r : R2} {f : D → D → Option D} {a b : Expr} {pos : Pos} {ga gb : M D} (ho : OpR X (binaryOp op) r) (hf : OpS X.K r f) (ha : DE X W a ga) (hb : DE X W b gb) : DE X W (.BinOp a op b pos) (eBin f ga gb) :=
  PE.imp (pe_op ho ha hb) fun _ _ _ h => tOp_of hf h
theorem de_cmp {op : CmpOp} {r : R2} {f : D → D → Option D} {a b : Expr} {pos : Pos} {ga gb : M D} (ho : OpR X (compareOp op) r) (hf : OpS X.K r f) (ha : DE X W a ga) (hb : DE X W b gb) (hm : behindInMarks op b = false) : DE X W (.Compare a [op] [b] pos) (eBin f ga gb) :=
  PE.imp (pe_cmpR ho ha hb hm) fun _ _ _ h => tOp_of hf h
theorem de_ix {r : R2} {f : D → D → Option D} {a b : Expr} {pos : Pos} {ga gb : M D} (hr : IxR X r) (hf : OpS X.K r f) (ha : DE X W a ga) (hb : DE X W b gb) (hs : PlainIx b) : DE X W (.Subscript a b pos) (eBin f ga gb) :=
  PE.imp (pe_ix hr ha hb hs) fun _ _ _ h => tOp_of hf h
def iOp (f : Int → Int → D) : D → D → Option D
  | .int i, .int j => some (f i j)
  | _, _ => none
theorem ops_I0 {K : PySem.W.Frag} {g : Int → Int → V} {f : Int → Int → D} (h : ∀ F i j, Has K F (f i j) (g i j)) : OpS K (rI0 g) (iOp f) := by
  intro d1 d2 d3 x y P B F0 H F δ σ τ Q q e h1 h2 k
  unfold iOp at q
  split at q
  · rename_i i j
    cases h1; cases h2; cases q
    exact ⟨i, j, rfl, rfl, k _ H F (e.push (h F i j))⟩
  · cases q
def iOpC (c : Int → Int → Bool) (f : Int → Int → D) : D → D → Option D
  | .int i, .int j => if c i j = true then some (f i j) else none
  | _, _ => none
theorem ops_I {K : PySem.W.Frag} {C : Int → Int → Prop} {c : Int → Int → Bool} {g : Int → Int → V} {f : Int → Int → D} (hc : ∀ i j, c i j = true → C i j) (h : ∀ F i j, c i j = true → Has K F (f i j) (g i j)) : OpS K (rI C g) (iOpC c f) := by
  intro d1 d2 d3 x y P B F0 H F δ σ τ Q q e h1 h2 k
  unfold iOpC at q
  split at q
  · rename_i i j
    split at q
    · rename_i hcc
      cases h1; cases h2; cases q
      exact ⟨i, j, rfl, rfl, hc i j hcc, k _ H F (e.push (h F i j hcc))⟩
    · cases q
  · cases q
def dSub := iOp fun i j => .int (i - j)
def dLt := iOp fun i j => .bl (decide (i < j))
def dLe := iOp fun i j => .bl (decide (i ≤ j))
def dGt := iOp fun i j => .bl (decide (j < i))
def dGe := iOp fun i j => .bl (decide (j ≤ i))
theorem s_sub {K : PySem.W.Frag} : OpS K (rI0 fun i j => .int (i - j)) dSub := ops_I0 fun _ _ _ => .int _
theorem s_lt {K : PySem.W.Frag} : OpS K (rI0 fun i j => .bl (decide (i < j))) dLt := ops_I0 fun _ _ _ => .bl _
theorem s_gt {K : PySem.W.Frag} : OpS K (rI0 fun i j => .bl (decide (j < i))) dGt := ops_I0 fun _ _ _ => .bl _
theorem s_ge {K : PySem.W.Frag} : OpS K (rI0 fun i j => .bl (decide (j ≤ i))) dGe := ops_I0 fun _ _ _ => .bl _
end
end PL
set_option Elab.async false
set_option linter.all false
set_option maxRecDepth 100000
namespace PL
open PySem PySem.Spec PyProof.Rows L2 LamX
variable [Tbls]
section
variable {K : PySem.W.Frag} {mg : Mg} {W : WX} {P B F0 H F : Hp} {δ : En} {σ : L2.St} {τ : List (D × V)} {Q : VK}
theorem seqLL {ga : M (List D)} {k : List D → M (List D)} {R : List V → Hp → Prop} {Q : List V → Hp → Prop} (e : EO K P B F0 H F δ σ τ) (p : PostL K mg W P B F0 σ τ (M.bind ga k δ) Q)
    (h : ∀ ds vs H' F' δ', EO K P B F0 H' F' δ' σ τ → HasL K F' ds vs → PostL K mg W P B F0 σ τ (k ds δ') Q → R vs H') : tL K mg W ga σ H R := by
  refine ⟨P, B, F0, F, δ, τ, e, ?_⟩
  unfold M.bind at p
  cases q : ga δ with
  | ok d δ' => rw [q] at p; exact fun vs H' F' e' hl => h d vs H' F' δ' e' hl p
  | err x δ' => rw [q] at p; exact p
  | bad => rw [q] at p; exact p
theorem EO.keep2 {x : D × V} {d : D} {v : V} (e : EO K P B F0 H F δ σ ((d, v) :: x :: τ)) : EO K P B F0 H F δ σ ((d, v) :: τ) :=
  e.sub fun z hz => (List.mem_cons.mp hz).elim (fun w => by rw [w]; exact List.mem_cons_self) fun w => List.mem_cons_of_mem _ (List.mem_cons_of_mem _ w)
def aCons (ga : M D) (gs : M (List D)) : M (List D) := M.bind ga fun d => M.bind gs fun ds => M.pure (d :: ds)
def LIM : Nat := 1000000
theorem lim_ok {n : Nat} (h : n ≤ LIM) : n ≤ sizeLine := Nat.le_trans h (by decide)
theorem lim_lt {n : Nat} (h : n < LIM) : n < sizeLine := Nat.lt_of_lt_of_le h (by decide)
def mkT (ds : List D) : M D := fun δ => if ds.length ≤ LIM then .ok (.tup ds) δ else .bad
def mkL (ds : List D) : M D := fun δ => if ds.length ≤ LIM then .ok (.lst ds) δ else .bad
end
section
variable {X : Cx} {W : WX}
theorem da_nil : DA X W [] (M.pure []) := PA.imp pa_nil fun _ H _ ⟨_, _, _, F, _, _, e, p⟩ => p [] H F e .nil
theorem da_cons {a : Expr} {es : List Expr} {ga : M D} {gs : M (List D)} (ha : DE X W a ga) (hs : DA X W es gs) (hst : starEach (a :: es) X.env = (false, eval a X.env) :: starEach es X.env := by rfl) : DA X W (a :: es) (aCons ga gs) := by
  refine PA.imp (pa_cons ha hs hst) fun σ H Q ⟨P, B, F0, F, δ, τ, e, p⟩ => ?_
  refine seqEL e p fun d x H1 F1 δ1 e1 p1 => ?_
  refine seqLL e1 p1.weak fun ds vs H2 F2 δ2 e2 hl p2 => ?_
  exact p2 _ H2 F2 e2 (.cons e2.top hl)
theorem de_tup {es : List Expr} {k : Nat} {pos : Pos} {gs : M (List D)} (h : DA X W es gs) : DE X W (.Tuple es k pos) (M.bind gs mkT) := by
  refine PE.imp (pe_tup h) fun σ H Q ⟨P, B, F0, F, δ, τ, e, p⟩ => ?_
  refine seqL e p fun ds vs H1 F1 δ1 e1 hl p1 => ?_
  unfold mkT at p1
  split at p1
  · rename_i hz
    refine ⟨lim_ok (by rw [← hl.length]; exact hz), fun q hq => ?_⟩
    have e2 := e1.alloc (o := .tup vs) hq
    exact p1 _ _ _ (e2.push (.tup (SqT.of upd_same) (hl.mono (same_new (e1.fresh hq)))))
  · exact p1.elim
theorem de_lst {es : List Expr} {pos : Pos} {gs : M (List D)} (h : DA X W es gs) : DE X W (.List es pos) (M.bind gs mkL) := by
  refine PE.imp (pe_lst h) fun σ H Q ⟨P, B, F0, F, δ, τ, e, p⟩ => ?_
  refine seqL e p fun ds vs H1 F1 δ1 e1 hl p1 => ?_
  unfold mkL at p1
  split at p1
  · rename_i hz
    refine ⟨lim_ok (by rw [← hl.length]; exact hz), fun q hq => ?_⟩
    have e2 := e1.alloc (o := .lst vs) hq
    exact p1 _ _ _ (e2.push (.lst upd_same (hl.mono (same_new (e1.fresh hq)))))
  · exact p1.elim
end
inductive RR where
  | ok (d : D) | err (x : Exn) | bad
/-- what a def's promise says of the heap behind it -/
structure Beh (F H F' H' : Hp) : Prop where
  h : Same (noT H) H'
  t : TB H'
  f : Same F F'
  fh : Same F' H'
  nt : NT F'
  n : ∀ a, F a = none → F' a ≠ none → noT H a = none
theorem EO.beh {K : PySem.W.Frag} {P B F0 H F H' F' : Hp} {δ : En} {σ : L2.St} {τ : List (D × V)} (e : EO K P B F0 H F δ σ τ) (b : Beh F H F' H') : EO K P B F0 H' F' δ σ τ := e.grow b.h b.t b.f b.fh b.nt b.n
def PostF (K : PySem.W.Frag) (mg : Mg) (F H : Hp) (Q : VK) (E : XK) (r : RR) : Prop := match r with
  | .ok d => ∀ v H' F', Beh F H F' H' → Has K F' d v → Q v H'
  | .err x => ∀ cls dx H' F', Beh F H F' H' → XIs K mg (noT H) F' H' x cls dx → E cls dx H'
  | .bad => False
def spD (K : PySem.W.Frag) (mg : Mg) (n : Nat) (m : List D → RR) : Sp := fun vs H Q E => ∃ ds F, ds.length = n ∧ Same F H ∧ NT F ∧ TB H ∧ HasL K F ds vs ∧ PostF K mg F H Q E (m ds)
def callF (m : List D → RR) (ds : List D) : M D := fun δ => match m ds with
  | .ok d => .ok d δ
  | .err x => .err x δ
  | .bad => .bad
/-- the arguments of a def: as many as it takes -/
def callN (n : Nat) (m : List D → RR) (ds : List D) : M D := fun δ => if ds.length = n then callF m ds δ else .bad
section
variable {K : PySem.W.Frag} {mg : Mg} {W : WX} {P B F0 H F : Hp} {δ : En} {σ : L2.St} {τ : List (D × V)} {Q : VK}
theorem call_sp {n : Nat} {m : List D → RR} {ds : List D} {vs : List V} (e : EO K P B F0 H F δ σ τ) (hl : HasL K F ds vs) (p : PostE K mg W P B F0 σ τ (callN n m ds δ) Q) : spD K mg n m vs H Q (WE W σ) := by
  unfold callN at p
  split at p
  · rename_i hn
    refine ⟨ds, F, hn, e.sf, e.nt, e.tb, hl, ?_⟩
    unfold callF at p
    unfold PostF
    split at p
    · exact fun v H' F' b h5 => p v H' F' ((e.beh b).push h5)
    · exact fun cls dx H' F' b ⟨h5, a, fvs, h6, h7, h8⟩ => p cls dx H' F' (e.beh b) ⟨h5, a, fvs, h6, e.dm' a h7, h8⟩
    · exact p.elim
  · exact p.elim
theorem spD_len {n : Nat} {m : List D → RR} {vs : List V} {H : Hp} {Q : VK} {E : XK} (h : spD K mg n m vs H Q E) : vs.length = n := by
  obtain ⟨ds, F, hn, _, _, _, hl, _⟩ := h
  rw [← hl.length]
  exact hn
end
section
variable {X : Cx} {W : WX} {k : Nat} {f : Addr} {fd : FuncData} {ps : List Str} {x : Str} {p pos : Pos} {a : Expr} {es : List Expr}
/-- f(a, ..), a def that reads its arguments alone -/
theorem de_call {m : List D → RR} {gs : M (List D)} (n : Nat) (G : FnOk X.prog X.w X.K X.mg X.base (L2.CX X.prog X.w) k f fd ps (spD X.K X.mg n m)) (tk : Takes X W) (hr : Room k X.A) (hg : Gl X x) (hm : X.mg x = some (.ref f)) (hk : PySem.W.keepIn X.K (.ref f) = true) (hb : Binds X.K fd ps [])
    (ha : DA X W (a :: es) gs) (hdb : (x == ("__debug__" : Str)) = false := by decide) (he : starEach (a :: es) X.env = (false, eval a X.env) :: starEach es X.env := by rfl) (hpl : (backTo pos (starEach es X.env)).any (·.1) = false := by rfl) :
    DE X W (.Call (.Name x p) (a :: es) [] pos) (M.bind gs (callN n m)) := by
  refine PE.imp (pe_callS (E := WE W) G hr hg hm hk hb (passAt tk) ha hdb he hpl) fun σ H Q ⟨P, B, F0, F, δ, τ, e, p⟩ => ?_
  exact seqL e p fun ds vs H1 F1 δ1 e1 hl p1 => call_sp e1 hl p1
end
mutual
def D.py : D → Option PyData
  | .non => some .none
  | .bl b => some (.bool b)
  | .int i => some (.int i)
  | .str x => some (.str x)
  | .val _ => none
  | .scr _ => none
  | .dk _ => none
  | .dt _ => none
  | .key _ => none
  | .dz _ => none
  | .obj _ _ => none
  | .exc _ _ _ => none
  | .lam _ _ _ _ => none
  | .tup l => match pyAll l with
    | some ds => some (.tuple ds)
    | none => none
  | .lst l => match pyAll l with
    | some ds => some (.list ds)
    | none => none
def pyAll : List D → Option (List PyData)
  | [] => some []
  | d :: l => match d.py with
    | some x => match pyAll l with
      | some xs => some (x :: xs)
      | none => none
    | none => none
end
mutual
theorem Has.dp {K : PySem.W.Frag} {F : Hp} : ∀ {d : D} {v : V} {q : PyData}, Has K F d v → d.py = some q → Dp K F v q
  | _, _, _, .non, h => by cases h; exact .non
  | _, _, _, .bl b, h => by cases h; exact .bl b
  | _, _, _, .int i, h => by cases h; exact .int i
  | _, _, _, .str x, h => by cases h; exact .str x
  | _, _, _, .val v, h => by cases h
  | _, _, _, .scr _, h => by cases h
  | _, _, _, .dk _ _ _, h => by cases h
  | _, _, _, .dt _ _ _, h => by cases h
  | _, _, _, .key _, h => by cases h
  | _, _, _, .dz _ _ _, h => by cases h
  | _, _, _, .obj _ _ _, h => by cases h
  | _, _, _, .exc _ _ _, h => by cases h
  | _, _, _, .lam _ _, h => by cases h
  | _, _, _, .tup hs hl, h => by
    unfold D.py at h
    split at h
    · rename_i ds e
      cases h
      exact .tup hs (HasL.dp hl e)
    · cases h
  | _, _, _, .lst hs hl, h => by
    unfold D.py at h
    split at h
    · rename_i ds e
      cases h
      exact .lst (SqL.of hs) (HasL.dp hl e)
    · cases h
theorem HasL.dp {K : PySem.W.Frag} {F : Hp} : ∀ {ds : List D} {vs : List V} {qs : List PyData}, HasL K F ds vs → pyAll ds = some qs → DpAll K F vs qs
  | _, _, _, .nil, h => by cases h; exact .nil
  | _, _, _, .cons h1 h2, h => by
    unfold pyAll at h
    split at h
    · rename_i x e1
      split at h
      · rename_i xs e2
        cases h
        exact .cons (Has.dp h1 e1) (HasL.dp h2 e2)
      · cases h
    · cases h
end
def dEqB (a b : D) : Option Bool := match a.py, b.py with
  | some x, some y => if SeqAt.shaped x && SeqAt.shaped y then some (PyData.eqv x y) else none
  | _, _ => none
def dEq (a b : D) : Option D := match dEqB a b with
  | some c => some (.bl c)
  | none => none
def dNe (a b : D) : Option D := match dEqB a b with
  | some c => some (.bl (!c))
  | none => none
theorem dEqB_some {a b : D} {c : Bool} (h : dEqB a b = some c) : ∃ x y, a.py = some x ∧ b.py = some y ∧ SeqAt.shaped x = true ∧ SeqAt.shaped y = true ∧ c = PyData.eqv x y := by
  unfold dEqB at h
  split at h
  · rename_i x y h1 h2
    split at h
    · rename_i h3
      cases h
      simp only [Bool.and_eq_true] at h3
      exact ⟨x, y, h1, h2, h3.1, h3.2, rfl⟩
    · cases h
  · cases h
theorem s_eq {K : PySem.W.Frag} : OpS K (rEqD K) dEq := by
  intro d1 d2 d3 x y P B F0 H F δ σ τ Q q e h1 h2 k
  unfold dEq at q
  split at q
  · rename_i c hc
    cases q
    obtain ⟨u, w, e1, e2, s1, s2, rfl⟩ := dEqB_some hc
    exact ⟨u, w, (h1.mono e.sf).dp e1, (h2.mono e.sf).dp e2, s1, s2, k _ H F (e.push (.bl _))⟩
  · cases q
theorem s_ne {K : PySem.W.Frag} : OpS K (rNeD K) dNe := by
  intro d1 d2 d3 x y P B F0 H F δ σ τ Q q e h1 h2 k
  unfold dNe at q
  split at q
  · rename_i c hc
    cases q
    obtain ⟨u, w, e1, e2, s1, s2, rfl⟩ := dEqB_some hc
    exact ⟨u, w, (h1.mono e.sf).dp e1, (h2.mono e.sf).dp e2, s1, s2, k _ H F (e.push (.bl _))⟩
  · cases q
def asB (g : M D) : M Bool := M.bind g fun d δ => match d with
  | .bl b => .ok b δ
  | _ => .bad
def bAnd (g h : M Bool) : M Bool := M.bind g fun b => if b = true then h else M.pure false
def bOr (g h : M Bool) : M Bool := M.bind g fun b => if b = true then M.pure true else h
def bNot (g : M Bool) : M Bool := M.bind g fun b => M.pure (!b)
def eIf (c : M Bool) (g h : M D) : M D := M.bind c fun b => if b = true then g else h
/-- a op b op' c -/
def eChain (f f' : D → D → Option D) (ga gb gc : M D) : M D := M.bind ga fun a => M.bind gb fun b => M.bind (opt (f a b)) fun z => match z with
  | .bl true => M.bind gc fun c => opt (f' b c)
  | .bl false => M.pure (.bl false)
  | _ => M.bad
section
variable {X : Cx} {W : WX} {a b c : Expr} {pos : Pos} {ga gb gc : M D} {g h : M Bool} {rest : List Expr}
theorem dt_val (ha : DE X W a ga) (he : ∀ whole, isTrue a X.env whole = (do let v ← whole; standAt a.pos; holding [v] (truthy v)) := by intro _; rfl) : DT X W a (asB ga) := by
  refine PT.imp (pt_val ha he) fun σ H Q ⟨P, B, F0, F, δ, τ, e, p⟩ => ?_
  refine seqEB e p fun d v H1 F1 δ1 e1 p1 => ?_
  split at p1
  · rename_i b
    cases e1.top
    exact ⟨b, rfl, p1 H1 F1 e1.pop⟩
  · exact p1.elim
theorem dt_cmp {op : CmpOp} {r : R2} {f : D → D → Option D} (ho : OpR X (compareOp op) r) (hf : OpS X.K r f) (ha : DE X W a ga) (hb : DE X W b gb) (hm : behindInMarks op b = false) : DT X W (.Compare a [op] [b] pos) (asB (eBin f ga gb)) := by
  refine PT.imp (pt_cmpR ho ha hb hm) fun σ H Q ⟨P, B, F0, F, δ, τ, e, p⟩ => ?_
  show tOp r _ _ σ H _
  refine tOp_of hf ?_
  refine seqEB e p fun d v H1 F1 δ1 e1 p1 => ?_
  split at p1
  · rename_i b
    cases e1.top
    exact ⟨b, rfl, p1 H1 F1 e1.pop⟩
  · exact p1.elim
structure DW (X : Cx) (W : WX) (e : Expr) (g : M Bool) : Prop where
  pw : PW X e (tT X.K X.mg W g)
theorem dt_and1 (ha : DT X W a g) : DW X W (.BoolOp .And [a] pos) g := ⟨pw_and1 ha⟩
theorem dt_or1 (ha : DT X W a g) : DW X W (.BoolOp .Or [a] pos) g := ⟨pw_or1 ha⟩
theorem dt_and (ha : DT X W a g) (hb : DW X W (.BoolOp .And (b :: rest) pos) h) : DW X W (.BoolOp .And (a :: b :: rest) pos) (bAnd g h) := by
  refine ⟨⟨fun wh pins s σ H Q I ⟨P, B, F0, F, δ, τ, e, p⟩ => (pw_and ha hb.pw).run wh pins s σ H Q I ?_⟩⟩
  refine seqBB e p fun c H1 F1 δ1 e1 p1 => ?_
  cases c with
  | true => exact ⟨P, B, F0, F1, δ1, τ, e1, p1⟩
  | false => exact p1 H1 F1 e1
theorem dt_or (ha : DT X W a g) (hb : DW X W (.BoolOp .Or (b :: rest) pos) h) : DW X W (.BoolOp .Or (a :: b :: rest) pos) (bOr g h) := by
  refine ⟨⟨fun wh pins s σ H Q I ⟨P, B, F0, F, δ, τ, e, p⟩ => (pw_or ha hb.pw).run wh pins s σ H Q I ?_⟩⟩
  refine seqBB e p fun c H1 F1 δ1 e1 p1 => ?_
  cases c with
  | true => exact p1 H1 F1 e1
  | false => exact ⟨P, B, F0, F1, δ1, τ, e1, p1⟩
theorem dt_w {e : Expr} (h : DW X W e g) : DT X W e g := h.pw.pt
theorem dt_not (ha : DT X W a g) : DT X W (.UnaryOp .Not a pos) (bNot g) := by
  refine PT.imp (pt_not ha) fun σ H Q ⟨P, B, F0, F, δ, τ, e, p⟩ => ?_
  exact seqBB e p fun c H1 F1 δ1 e1 p1 => p1 H1 F1 e1
theorem de_if {cpos : Pos} (hc : DT X W c g) (ha : DE X W a ga) (hb : DE X W b gb) : DE X W (.IfExp c a b cpos) (eIf g ga gb) := by
  refine PE.imp (pe_ifExp hc ha hb) fun σ H Q ⟨P, B, F0, F, δ, τ, e, p⟩ => ?_
  refine seqB e p fun c H1 F1 δ1 e1 p1 => ?_
  cases c with
  | true => exact ⟨P, B, F0, F1, δ1, τ, e1, p1⟩
  | false => exact ⟨P, B, F0, F1, δ1, τ, e1, p1⟩
/-- and, or as values, all parts bools -/
def vAnd (g h : M D) : M D := M.bind g fun d => match d with
  | .bl true => h
  | .bl false => M.pure (.bl false)
  | _ => M.bad
def vOr (g h : M D) : M D := M.bind g fun d => match d with
  | .bl true => M.pure (.bl true)
  | .bl false => h
  | _ => M.bad
def vNot (g : M D) : M D := M.bind g fun d => match d with
  | .bl b => M.pure (.bl (!b))
  | _ => M.bad
def dIsN : D → Option D
  | .non => some (.bl true)
  | .val _ => none
  | _ => some (.bl false)
theorem de_and (ha : DE X W a ga) (hb : DE X W (.BoolOp .And (b :: rest) pos) gb) : DE X W (.BoolOp .And (a :: b :: rest) pos) (vAnd ga gb) := by
  refine PE.imp (pe_and ha hb) fun σ H Q ⟨P, B, F0, F, δ, τ, e, p⟩ => ?_
  refine seqE e p fun d v H1 F1 δ1 e1 p1 => ?_
  split at p1
  · cases e1.top
    exact ⟨true, rfl, P, B, F0, F1, δ1, τ, e1.pop, p1⟩
  · cases e1.top
    exact ⟨false, rfl, p1 _ H1 F1 e1⟩
  · exact p1.elim
theorem de_one {op : PySem.BoolOp} (h : DE X W a ga) : DE X W (.BoolOp op [a] pos) ga := pe_one h
theorem de_not (ha : DE X W a ga) : DE X W (.UnaryOp .Not a pos) (vNot ga) := by
  refine PE.imp (pe_not ha) fun σ H Q ⟨P, B, F0, F, δ, τ, e, p⟩ => ?_
  refine seqE e p fun d v H1 F1 δ1 e1 p1 => ?_
  split at p1
  · cases e1.top
    exact ⟨_, rfl, p1 _ H1 F1 (e1.pop.push (.bl _))⟩
  · exact p1.elim
theorem de_isN {j : Nat} {p1 p2 : Pos} (ha : DE X W a ga) : DE X W (.Compare a [.Is] [.Constant .none j p1] p2) (M.bind ga fun d => opt (dIsN d)) := by
  refine PE.imp (pe_cmp (pc_isN ha) rfl) fun σ H Q ⟨P, B, F0, F, δ, τ, e, p⟩ => ?_
  refine seqE e p fun d v H1 F1 δ1 e1 p1 => ?_
  have hd := e1.top
  unfold opt at p1
  split at p1
  · rename_i d3 q
    have : d3 = .bl (decide (v = V.non)) := by
      cases hd <;> cases q <;> rfl
    rw [this] at p1
    exact p1 _ H1 F1 (e1.pop.push (.bl _))
  · exact p1.elim
end
end PL
set_option Elab.async false
set_option linter.all false
set_option maxRecDepth 100000
namespace PL
open PySem PySem.Spec PyProof.Rows L2 LamX
variable [Tbls]
inductive Fl where
  | nx | ret (d : D) | brk | cnt
abbrev S := M Fl
def PostS (K : PySem.W.Frag) (mg : Mg) (W : WX) (P B F0 : Hp) (τ : List (D × V)) (r : Rs Fl) (Dn : Ends) : Prop := match r with
  | .ok .nx δ' => ∀ σ' H' F', EO K P B F0 H' F' δ' σ' τ → Dn.nx σ' H'
  | .ok (.ret d) δ' => ∀ v σ' H' F', EO K P B F0 H' F' δ' σ' ((d, v) :: τ) → Dn.rt v H'
  | .ok .brk δ' => ∀ σ' H' F', EO K P B F0 H' F' δ' σ' τ → Dn.bk σ' H'
  | .ok .cnt δ' => ∀ σ' H' F', EO K P B F0 H' F' δ' σ' τ → Dn.ct σ' H'
  | .err x δ' => ∀ cls dx σ' H' F', EO K P B F0 H' F' δ' σ' τ → XIs K mg P F' H' x cls dx → W cls dx σ' H'
  | .bad => False
def tS (K : PySem.W.Frag) (mg : Mg) (W : WX) (g : S) : TS := fun Dn σ H => ∃ P B F0 F δ τ, EO K P B F0 H F δ σ τ ∧ PostS K mg W P B F0 τ (g δ) Dn
abbrev DS (X : Cx) (W : WX) (st : Stmt) (g : S) : Prop := PS X st (tS X.K X.mg W g)
abbrev DSs (X : Cx) (W : WX) (st : List Stmt) (g : S) : Prop := PSs X st (tS X.K X.mg W g)
section
variable {K : PySem.W.Frag} {mg : Mg} {W : WX} {P B F0 H F : Hp} {δ : En} {σ : L2.St} {τ : List (D × V)} {Dn : Ends}
theorem seqES {ga : M D} {k : D → S} {R : VK} (e : EO K P B F0 H F δ σ τ) (p : PostS K mg W P B F0 τ (M.bind ga k δ) Dn)
    (h : ∀ d v H' F' δ', EO K P B F0 H' F' δ' σ ((d, v) :: τ) → PostS K mg W P B F0 τ (k d δ') Dn → R v H') : tE K mg W ga σ H R := by
  refine ⟨P, B, F0, F, δ, τ, e, ?_⟩
  unfold M.bind at p
  cases q : ga δ with
  | ok d δ' => rw [q] at p; exact fun v H' F' e' => h d v H' F' δ' e' p
  | err x δ' => rw [q] at p; exact fun cls dx H' F' e' z => p cls dx σ H' F' e' z
  | bad => rw [q] at p; exact p
theorem seqBS {ga : M Bool} {k : Bool → S} {R : Bool → Hp → Prop} (e : EO K P B F0 H F δ σ τ) (p : PostS K mg W P B F0 τ (M.bind ga k δ) Dn)
    (h : ∀ b H' F' δ', EO K P B F0 H' F' δ' σ τ → PostS K mg W P B F0 τ (k b δ') Dn → R b H') : tT K mg W ga σ H R := by
  refine ⟨P, B, F0, F, δ, τ, e, ?_⟩
  unfold M.bind at p
  cases q : ga δ with
  | ok d δ' => rw [q] at p; exact fun H' F' e' => h d H' F' δ' e' p
  | err x δ' => rw [q] at p; exact fun cls dx H' F' e' z => p cls dx σ H' F' e' z
  | bad => rw [q] at p; exact p
theorem seqLS {ga : M (List D)} {k : List D → S} {R : List V → Hp → Prop} (e : EO K P B F0 H F δ σ τ) (p : PostS K mg W P B F0 τ (M.bind ga k δ) Dn)
    (h : ∀ ds vs H' F' δ', EO K P B F0 H' F' δ' σ τ → HasL K F' ds vs → PostS K mg W P B F0 τ (k ds δ') Dn → R vs H') : tL K mg W ga σ H R := by
  refine ⟨P, B, F0, F, δ, τ, e, ?_⟩
  unfold M.bind at p
  cases q : ga δ with
  | ok d δ' => rw [q] at p; exact fun vs H' F' e' hl => h d vs H' F' δ' e' hl p
  | err x δ' => rw [q] at p; exact fun cls dx H' F' e' z => p cls dx σ H' F' e' z
  | bad => rw [q] at p; exact p
/-- a name is stored -/
theorem EO.storeSl {i : Nat} {s : Sl} {v : V} (e : EO K P B F0 H F δ σ τ) (hi : i < σ.length) (him : ∀ d, s = .im d → Has K F d v)
    (how : ∀ l, s = .ow l → ∃ a vs, v = V.ref a ∧ P a = none ∧ F a = none ∧ H a = some vs ∧ MOk K F l vs ∧ ∀ (j : Nat), ((∃ l', δ[j]? = some (Sl.ow l')) ∨ ∃ l', δ[j]? = some (Sl.io l')) → σ[j]? ≠ some (some (V.ref a)))
    (hio : ∀ l, s ≠ .io l) : EO K P B F0 H F (δ.set i s) (σ.set i (some v)) τ := by
  have hiδ : i < δ.length := by rw [e.len]; exact hi
  have ne : ∀ {j : Nat} {t : Sl}, j ≠ i → (δ.set i s)[j]? = some t → δ[j]? = some t := fun {j t} hj q => by
    rw [List.getElem?_set_ne (Ne.symm hj)] at q
    exact q
  have eq : ∀ {t : Sl}, (δ.set i s)[i]? = some t → t = s := fun {t} q => by
    rw [List.getElem?_set_self hiδ] at q
    exact (Option.some.inj q).symm
  have sne : ∀ {j : Nat}, j ≠ i → (σ.set i (some v))[j]? = σ[j]? := fun {j} hj => List.getElem?_set_ne (Ne.symm hj)
  have seq : (σ.set i (some v))[i]? = some (some v) := List.getElem?_set_self hi
  have own : ∀ {j : Nat}, ((∃ l', (δ.set i s)[j]? = some (Sl.ow l')) ∨ ∃ l', (δ.set i s)[j]? = some (Sl.io l')) → (j ≠ i ∧ ((∃ l', δ[j]? = some (Sl.ow l')) ∨ ∃ l', δ[j]? = some (Sl.io l'))) ∨ (j = i ∧ ∃ l, s = .ow l) := fun {j} q => by
    by_cases hj : j = i
    · subst hj
      rcases q with ⟨l, q⟩ | ⟨l, q⟩
      · exact .inr ⟨rfl, l, (eq q).symm⟩
      · exact absurd (eq q).symm (hio l)
    · rcases q with ⟨l, q⟩ | ⟨l, q⟩
      · exact .inl ⟨hj, .inl ⟨l, ne hj q⟩⟩
      · exact .inl ⟨hj, .inr ⟨l, ne hj q⟩⟩
  refine { e with len := by rw [List.length_set, List.length_set]; exact e.len, im := fun j d q => ?_, ow := fun j l q => ?_, io := fun j l q => ?_, ap := fun j k a q1 q2 q3 q4 => ?_ }
  · by_cases hj : j = i
    · subst hj
      exact ⟨v, seq, him d (eq q).symm⟩
    · rw [sne hj]
      exact e.im j d (ne hj q)
  · by_cases hj : j = i
    · subst hj
      obtain ⟨a, vs, h1, h2, h3, h4, h5, _⟩ := how l (eq q).symm
      exact ⟨a, vs, by rw [seq, h1], h2, h3, h4, h5⟩
    · rw [sne hj]
      exact e.ow j l (ne hj q)
  · by_cases hj : j = i
    · subst hj
      exact absurd (eq q).symm (hio l)
    · rw [sne hj]
      exact e.io j l (ne hj q)
  · rcases own q1 with ⟨n1, o1⟩ | ⟨rfl, l1, s1⟩ <;> rcases own q2 with ⟨n2, o2⟩ | ⟨h2, l2, s2⟩
    · rw [sne n1] at q3
      rw [sne n2] at q4
      exact e.ap j k a o1 o2 q3 q4
    · subst h2
      rw [sne n1] at q3
      rw [seq] at q4
      obtain ⟨a', vs, h1, _, _, _, _, h6⟩ := how l2 s2
      cases q4
      cases h1
      exact absurd q3 (h6 j o1)
    · rw [sne n2] at q4
      rw [seq] at q3
      obtain ⟨a', vs, h1, _, _, _, _, h6⟩ := how l1 s1
      cases q3
      cases h1
      exact absurd q4 (h6 k o2)
    · exact h2.symm
theorem EO.store {i : Nat} {d : D} {v : V} (e : EO K P B F0 H F δ σ ((d, v) :: τ)) (hi : i < σ.length) : EO K P B F0 H F (δ.set i (.im d)) (σ.set i (some v)) τ :=
  e.pop.storeSl hi (fun d' h => by cases h; exact e.top) (fun l h => nomatch h) (fun l h => nomatch h)
theorem EO.rebase (e : EO K P B F0 H F δ σ τ) : EO K P B F H F δ σ τ := { e with s0 := Same.refl _, nw := fun a q1 q2 => absurd q1 q2 }
theorem EO.unbase {H' F' : Hp} {δ' : En} {σ' : L2.St} {τ' : List (D × V)} (e : EO K P B F0 H F δ σ τ) (e' : EO K P B F H' F' δ' σ' τ') : EO K P B F0 H' F' δ' σ' τ' :=
  { e' with s0 := e.s0.trans e'.s0, nw := fun a q1 q2 => (Classical.em (F a = none)).elim (fun q => e'.nw a q q2) fun q => e.nw a q1 q }
theorem PostS.rebase {r : Rs Fl} (e : EO K P B F0 H F δ σ τ) (p : PostS K mg W P B F0 τ r Dn) : PostS K mg W P B F τ r Dn := by
  unfold PostS at p ⊢
  split
  · exact fun σ' H' F' e' => p σ' H' F' (e.unbase e')
  · exact fun v σ' H' F' e' => p v σ' H' F' (e.unbase e')
  · exact fun σ' H' F' e' => p σ' H' F' (e.unbase e')
  · exact fun σ' H' F' e' => p σ' H' F' (e.unbase e')
  · exact fun cls dx σ' H' F' e' => p cls dx σ' H' F' (e.unbase e')
  · exact p
end
def sNx : S := M.pure .nx
def sSeq (g h : S) : S := M.bind g fun fl => match fl with
  | .nx => h
  | .ret d => M.pure (.ret d)
  | .brk => M.pure .brk
  | .cnt => M.pure .cnt
def sIf (c : M Bool) (g h : S) : S := M.bind c fun b => if b = true then g else h
def sRet (ga : M D) : S := M.bind ga fun d => M.pure (.ret d)
def sDrop (ga : M D) : S := M.bind ga fun _ => M.pure .nx
section
variable {X : Cx} {W : WX} {st : Stmt} {rest : List Stmt} {g h : S} {e : Expr} {ga : M D} {pos : Pos}
theorem dss_nil : DSs X W [] sNx := PSs.imp pss_nil fun _ σ H ⟨_, _, _, F, _, _, e, p⟩ => p σ H F e
theorem dss_cons (h1 : DS X W st g) (h2 : DSs X W rest h) : DSs X W (st :: rest) (sSeq g h) := by
  refine PSs.imp (pss_cons h1 h2) fun Dn σ H ⟨P, B, F0, F, δ, τ, e, p⟩ => ?_
  refine ⟨P, B, F0, F, δ, τ, e, ?_⟩
  unfold sSeq M.bind at p
  cases q : g δ with
  | ok fl δ' =>
    rw [q] at p
    cases fl with
    | nx => exact fun σ' H' F' e' => ⟨P, B, F0, F', δ', τ, e', p⟩
    | ret d => exact p
    | brk => exact p
    | cnt => exact p
  | err x δ' => rw [q] at p; exact p
  | bad => rw [q] at p; exact p
theorem ds_break : DS X W (.Break pos) (M.pure .brk) := PS.imp ps_break fun _ σ H ⟨_, _, _, F, _, _, e, p⟩ => p σ H F e
theorem ds_expr (he : DE X W e ga) (hs : swapsWith e none pos.line X.env = pure false := by rfl) : DS X W (.Expr e pos) (sDrop ga) :=
  PS.imp (ps_expr he hs) fun Dn σ H ⟨P, B, F0, F, δ, τ, e, p⟩ => seqES e p fun d v H1 F1 δ1 e1 p1 => p1 σ H1 F1 e1.pop
theorem ds_ret (he : DE X W e ga) : DS X W (.Return (some e) pos) (sRet ga) :=
  PS.imp (ps_ret he) fun Dn σ H ⟨P, B, F0, F, δ, τ, e, p⟩ => seqES e p fun d v H1 F1 δ1 e1 p1 => p1 v σ H1 F1 e1
theorem ds_if {c : Expr} {a b : List Stmt} {gc : M Bool} (hc : DT X W c gc) (ha : DSs X W a g) (hb : DSs X W b h) : DS X W (.If c a b pos) (sIf gc g h) := by
  refine PS.imp (ps_if hc ha hb) fun Dn σ H ⟨P, B, F0, F, δ, τ, e, p⟩ => ?_
  refine seqBS e p fun b H1 F1 δ1 e1 p1 => ?_
  cases b with
  | true => exact ⟨P, B, F0, F1, δ1, τ, e1, p1⟩
  | false => exact ⟨P, B, F0, F1, δ1, τ, e1, p1⟩
end
abbrev Bd := D → En → Option En
def tGt (K : PySem.W.Frag) (vl : List Nat) (h : Bd) : TG := fun v σ H Q => ∃ P B F0 F δ τ d, EO K P B F0 H F δ σ ((d, v) :: τ) ∧ match h d δ with
  | some δ' => ∀ σ', wipe σ' vl = wipe σ vl → EO K P B F0 H F δ' σ' τ → Q σ' H
  | none => False
abbrev DG (X : Cx) (vl : List Nat) (tg : Expr) (h : Bd) : Prop := PG X tg (tGt X.K vl h)
def tGts (K : PySem.W.Frag) (vl : List Nat) (h : List D → En → Option En) : TGs := fun vs σ H Q => ∃ P B F0 F δ τ ds, EO K P B F0 H F δ σ τ ∧ HasL K F ds vs ∧ match h ds δ with
  | some δ' => ∀ σ', wipe σ' vl = wipe σ vl → EO K P B F0 H F δ' σ' τ → Q σ' H
  | none => False
abbrev DGs (X : Cx) (vl : List Nat) (tgs : List Expr) (h : List D → En → Option En) : Prop := PGs X tgs (tGts X.K vl h)
theorem wipe_set {i : Nat} {x : Option V} : ∀ {vl : List Nat} {σ : L2.St}, i ∈ vl → wipe (σ.set i x) vl = wipe σ vl
  | [], _, h => nomatch h
  | v :: vl, σ, h => by
    unfold wipe
    by_cases hm : i ∈ vl
    · rw [wipe_set hm]
    · have hv : i = v := (List.mem_cons.mp h).elim id fun z => absurd z hm
      subst hv
      have key : ∀ (vl : List Nat) (σ : L2.St), i ∉ vl → wipe (σ.set i x) vl = (wipe σ vl).set i x := by
        intro vl
        induction vl with
        | nil => intro σ _; rfl
        | cons w vl ih =>
          intro σ hn
          simp only [List.mem_cons, not_or] at hn
          unfold wipe
          rw [ih σ hn.2, List.set_comm _ _ (fun z => hn.1 (by omega))]
      rw [key vl σ hm, List.set_set]
def bName (i : Nat) : Bd := fun d δ => if i < δ.length then some (δ.set i (.im d)) else none
def bNil : List D → En → Option En := fun ds δ => match ds with
  | [] => some δ
  | _ => none
def bCons (h : Bd) (hs : List D → En → Option En) : List D → En → Option En := fun ds δ => match ds with
  | d :: r => match h d δ with
    | some δ' => hs r δ'
    | none => none
  | [] => none
def bTup (n : Nat) (hs : List D → En → Option En) : Bd := fun d δ => match d with
  | .tup ds => if ds.length = n then hs ds δ else none
  | _ => none
section
variable {X : Cx} {W : WX} {pos : Pos}
theorem PGs.imp {es : List Expr} {t t' : TGs} (h : PGs X es t) (i : ∀ v σ H Q, t' v σ H Q → t v σ H Q) : PGs X es t' := ⟨fun pins s σ H v u Q I r q => h.run pins s σ H v u Q I r (i v σ H Q q)⟩
theorem dg_name {i : Nat} {x : Str} {vl : List Nat} (hv : i ∈ vl) (hN : X.N.Nodup) (hi : X.N[i]? = some x) (hx : Loc X.env.scope x) (hf : X.fn x = true ∨ X.env.scope.names.lookup x = some .local := by first | exact .inl rfl | exact .inr rfl | assumption) : DG X vl (.Name x pos) (bName i) := by
  refine PG.imp (pg_name hN hi hx hf) fun v σ H Q ⟨P, B, F0, F, δ, τ, d, e, p⟩ => ?_
  unfold bName at p
  split at p
  · rename_i δ' q
    split at q
    · rename_i hi
      cases q
      exact p _ (wipe_set hv) (e.store (by rw [← e.len]; exact hi))
    · cases q
  · exact p.elim
theorem dgs_nil {vl : List Nat} : DGs X vl [] bNil := by
  refine PGs.imp pgs_nil fun vs σ H Q ⟨P, B, F0, F, δ, τ, ds, e, hl, p⟩ => ?_
  unfold bNil at p
  split at p
  · rename_i δ' q
    split at q
    · cases q
      cases hl
      exact ⟨rfl, p _ rfl e⟩
    · cases q
  · exact p.elim
def pushL (τ : List (D × V)) (ds : List D) (vs : List V) : List (D × V) := ds.zip vs ++ τ
theorem HasL.zip {K : PySem.W.Frag} {F : Hp} : ∀ {ds : List D} {vs : List V}, HasL K F ds vs → ∀ p ∈ ds.zip vs, Has K F p.1 p.2
  | _, _, .nil, p, q => nomatch q
  | _, _, .cons h l, p, q => (List.mem_cons.mp q).elim (fun z => by rw [z]; exact h) (HasL.zip l p)
theorem EO.pushL {K : PySem.W.Frag} {P B F0 H F : Hp} {δ : En} {σ : L2.St} {τ : List (D × V)} {ds : List D} {vs : List V} (e : EO K P B F0 H F δ σ τ) (h : HasL K F ds vs) : EO K P B F0 H F δ σ (ds.zip vs ++ τ) :=
  { e with tm := fun p q => (List.mem_append.mp q).elim (h.zip p) (e.tm p) }
theorem EO.topL {K : PySem.W.Frag} {P B F0 H F : Hp} {δ : En} {σ : L2.St} {τ : List (D × V)} : ∀ {ds : List D} {vs : List V}, ds.length = vs.length → EO K P B F0 H F δ σ (ds.zip vs ++ τ) → HasL K F ds vs
  | [], [], _, _ => .nil
  | d :: ds, v :: vs, hl, e => .cons (e.tm (d, v) List.mem_cons_self) (EO.topL (by simpa using hl) (e.sub fun p q => List.mem_cons_of_mem _ q))
  | [], _ :: _, h, _ => by simp at h
  | _ :: _, [], h, _ => by simp at h
theorem dgs_cons {vl : List Nat} {a : Expr} {es : List Expr} {h : Bd} {hs : List D → En → Option En} (h1 : DG X vl a h) (h2 : DGs X vl es hs)
    (hst : (assignEach (a :: es) X.env).map (·.2) = assign a X.env :: (assignEach es X.env).map (·.2) := by rfl) : DGs X vl (a :: es) (bCons h hs) := by
  refine PGs.imp (pgs_cons h1 h2 hst) fun vs σ H Q ⟨P, B, F0, F, δ, τ, ds, e, hl, p⟩ => ?_
  unfold bCons at p
  cases hl with
  | nil => exact p.elim
  | @cons d v ds vs hd hr =>
    have len := hr.length
    refine ⟨v, vs, rfl, P, B, F0, F, δ, ds.zip vs ++ τ, d, (e.pushL hr).push hd, ?_⟩
    dsimp only at p
    cases q : h d δ with
    | none => rw [q] at p; exact p
    | some δ' =>
      rw [q] at p
      dsimp only at p ⊢
      refine fun σ' w' e' => ⟨P, B, F0, F, δ', τ, ds, e'.sub fun z hz => List.mem_append_right _ hz, e'.topL len, ?_⟩
      split
      · rename_i q2
        rw [q2] at p
        exact fun σ2 w2 e2 => p σ2 (w2.trans w') e2
      · rename_i q2
        rw [q2] at p
        exact p
theorem dg_tup {vl : List Nat} {es : List Expr} {k n : Nat} {hs : List D → En → Option En} (hc : X.calm = true) (h : DGs X vl es hs) (hn : (assignEach es X.env).length = n := by rfl) (hst : (assignEach es X.env).findIdx? (·.1) = none := by rfl) : DG X vl (.Tuple es k pos) (bTup n hs) := by
  refine PG.imp (pg_tup hc h hn hst) fun v σ H Q ⟨P, B, F0, F, δ, τ, d, e, p⟩ => ?_
  unfold bTup at p
  split at p
  · rename_i δ' q
    split at q
    · rename_i ds
      split at q
      · rename_i hlen
        cases e.top with
        | @tup a vs _ hs' hl =>
          refine ⟨a, vs, rfl, Same.seqT e.sf hs', by rw [← hl.length]; exact hlen, P, B, F0, F, δ, τ, ds, e.pop, hl, ?_⟩
          rw [q]
          exact p
      · cases q
    · cases q
  · exact p.elim
/-- target = e -/
def sAsg (ga : M D) (h : Bd) : S := M.bind ga fun d δ => match h d δ with
  | some δ' => .ok .nx δ'
  | none => .bad
theorem ds_asg {vl : List Nat} {tg a : Expr} {ga : M D} {h : Bd} (ha : DE X W a ga) (hg : DG X vl tg h) (hs : swapsWithSole [tg] a pos.line X.env = pure false := by rfl) (hw : swappedStores [tg] a X.env = pure none := by rfl)
    (h1 : (assignEach [tg] X.env).map (·.2) = [assign tg X.env] := by rfl) : DS X W (.Assign [tg] a pos) (sAsg ga h) := by
  refine PS.imp (ps_asg ha hg hs hw h1) fun Dn σ H ⟨P, B, F0, F, δ, τ, e, p⟩ => ?_
  refine seqES e p fun d v H1 F1 δ1 e1 p1 => ?_
  refine ⟨P, B, F0, F1, δ1, τ, d, e1, ?_⟩
  cases q : h d δ1 with
  | some δ' => rw [q] at p1; exact fun σ' _ e' => p1 σ' H1 F1 e'
  | none => rw [q] at p1; exact p1
/-- name = e -/
theorem ds_set {i : Nat} {x : Str} {a : Expr} {ga : M D} {pos' : Pos} (hN : X.N.Nodup) (hi : X.N[i]? = some x) (hx : Loc X.env.scope x) (ha : DE X W a ga) (hs : swapsWith a (some (.Name x pos')) pos.line X.env = pure false := by rfl) (hf : X.fn x = true ∨ X.env.scope.names.lookup x = some .local := by first | exact .inl rfl | exact .inr rfl | assumption) :
    DS X W (.Assign [.Name x pos'] a pos) (sAsg ga (bName i)) := by
  refine PS.imp (ps_set hN hi hx ha hs hf) fun Dn σ H ⟨P, B, F0, F, δ, τ, e, p⟩ => ?_
  refine seqES e p fun d v H1 F1 δ1 e1 p1 => ?_
  unfold bName at p1
  show Dn.nx _ _
  split at p1
  · rename_i δ' q
    split at q
    · rename_i hi
      cases q
      exact p1 _ H1 F1 (e1.store (by rw [← e1.len]; exact hi))
    · cases q
  · exact p1.elim
end
theorem EO.behs {K : PySem.W.Frag} {F0 H H' F' : Hp} {δ : En} {σ : L2.St} {τ : List (D × V)} (e : EO K (noT H) (noT H) F0 H' F' δ σ τ) : Beh F0 H F' H' := ⟨e.sb, e.tb, e.s0, e.sf, e.nt, e.nw⟩
def runF (n N : Nat) (g : S) : List D → RR := fun ds => match g (ds.map Sl.im ++ List.replicate (N - n) Sl.no) with
  | .ok .nx _ => .ok .non
  | .ok (.ret d) _ => .ok d
  | .err x _ => .err x
  | _ => .bad
theorem EO.start {K : PySem.W.Frag} {H F : Hp} {ds : List D} {vs : List V} {n m : Nat} (hl : HasL K F ds vs) (sf : Same F H) (nt : NT F) (tb : TB H) (hn : ds.length = n) {N : List Str} (hN : N.length = m) : EO K (noT H) (noT H) F H F (ds.map Sl.im ++ List.replicate (m - n) Sl.no) (start N vs) [] := by
  have len := hl.length
  have get : ∀ {i : Nat} {s : Sl}, (ds.map Sl.im ++ List.replicate (m - n) Sl.no)[i]? = some s → (∃ d, ds[i]? = some d ∧ s = .im d) ∨ s = .no := fun {i s} q => by
    by_cases hi : i < ds.length
    · rw [List.getElem?_append_left (by simpa using hi), List.getElem?_map] at q
      cases z : ds[i]? with
      | none => rw [z] at q; cases q
      | some d => rw [z] at q; cases q; exact .inl ⟨d, rfl, rfl⟩
    · rw [List.getElem?_append_right (by simpa using hi), List.getElem?_replicate] at q
      split at q
      · cases q; exact .inr rfl
      · cases q
  refine ⟨fun a q => q, fun a q => q, noT_same H, sf, Same.refl _, fun a q1 q2 => absurd q1 q2, ?_, fun i d q => ?_, fun i l q => ?_, fun i l q => ?_, fun i j a q1 _ _ _ => ?_, (fun p q => nomatch q), nt, NB.noT H, tb⟩
  · unfold L2.start
    rw [List.length_append, List.length_append, List.length_map, List.length_map, List.length_replicate, List.length_replicate, ← len, hN, hn]
  · rcases get q with ⟨d', e, z⟩ | z
    · cases z
      obtain ⟨v, h1, h2⟩ := hl.get e
      refine ⟨v, ?_, h2⟩
      unfold L2.start
      have hi : i < vs.length := (List.getElem?_eq_some_iff.mp h1).1
      rw [List.getElem?_append_left (by simpa using hi), List.getElem?_map, h1]
      rfl
    · cases z
  · rcases get q with ⟨d', e, z⟩ | z <;> cases z
  · rcases get q with ⟨d', e, z⟩ | z <;> cases z
  · rcases q1 with ⟨l, q⟩ | ⟨l, q⟩ <;> rcases get q with ⟨d', e, z⟩ | z <;> cases z
section
variable {P : Program} {w : World} {K : PySem.W.Frag} {mg : Str → Option Value} {base : Heap}
abbrev WofE (E : XK) : WX := fun cls d _ H => E cls d H
theorem fn_ok {x qual : Str} {st : Stmt} {f : Addr} {fd : FuncData} {N ps : List Str} {k n m : Nat} {g : S} (F : Fun K x qual st f fd) (Sc : FnScope N ps (defScope st)) (hn : ps.length = n) (hm : N.length = m)
    (hbody : ∀ (cdv : Value) (A : Around) (outer : List Env) (s : Shared) (H : Hp) (E : XK), Room k (A.deeper (envOfC qual (defScope st) s.heap.objs.size f cdv)) →
      Takes (cxOf (L2.CX P w) P w K mg base N qual (defScope st) f cdv A outer s H E) (WofE E) → DSs (cxOf (L2.CX P w) P w K mg base N qual (defScope st) f cdv A outer s H E) (WofE E) (defBody st) g) :
    FnOk P w K mg base (L2.CX P w) (k + 1) f fd ps (spD K mg n (runF n m g)) := by
  refine F.okX Sc (fun vs H Q E h => by rw [hn]; exact spD_len h) fun cdv A outer s H vs Q E hr ⟨ds, F1, hlen, sf, nt, tb, hl, p⟩ => ?_
  refine ⟨_, hbody cdv A outer s H E hr (takes_of rfl rfl rfl rfl), noT H, noT H, F1, F1, _, [], EO.start hl sf nt tb hlen hm, ?_⟩
  unfold runF at p
  cases q : g (ds.map Sl.im ++ List.replicate (m - n) Sl.no) with
  | bad => rw [q] at p; exact p
  | err x δ' =>
    rw [q] at p
    exact fun cls dx σ' H' F' e z => p cls dx H' F' e.behs z
  | ok fl δ' =>
    rw [q] at p
    cases fl with
    | nx => exact fun σ' H' F' e => p .non H' F' e.behs .non
    | ret d => exact fun v σ' H' F' e => p v H' F' e.behs e.top
    | brk => exact p.elim
    | cnt => exact p.elim
end
end PL
set_option Elab.async false
set_option linter.all false
set_option maxRecDepth 100000
namespace PL
open PySem PySem.Spec PyProof.Rows L2 LamX
variable [Tbls]
def sp1 (C : Addr) (f : Str) : Sp := fun vs H Q _ => ∃ (a : Addr) (v : V), vs = [.ref a, v] ∧ H a = some (exo a C none) ∧ ∀ dx, H dx = none → dx ≠ a → Q .non (upd (upd H dx (exd dx [(f, v)])) a (exo a C (some dx)))
structure XCls (P : Program) (w : World) (K : PySem.W.Frag) (mg : Mg) (base : Heap) (nm f : Str) (C : Addr) : Prop where
  gC : mg nm = some (.ref C)
  T : OexC K C
  ini : ∃ (fI : Addr) (fd : FuncData), PySem.W.findIn K (.ref C) "__init__" = some (some (.ref fI)) ∧ PySem.W.typeIn K (.ref fI) = some (.type "function") ∧ FnOk P w K mg base CX0 1 fI fd ["self", f] (sp1 C f) ∧ Binds K fd ["self", f] []
def sRaise1 (nm f : Str) (gs : M (List D)) : S := M.bind gs fun ds δ => match ds with
  | [d] => .err ⟨nm, [(f, d)]⟩ δ
  | _ => .bad
section
variable {X : Cx} {W : WX}
theorem upd_exo {H1 : Hp} {a dx C : Addr} {f : Str} {v : V} (ha : H1 a = none) (hd : dx ≠ a) : upd (del (upd (upd (upd H1 a (exo a C none)) dx (exd dx [(f, v)])) a (exo a C (some dx))) a) dx (.xd [(f, v)]) = upd H1 dx (.xd [(f, v)]) := by
  funext b
  by_cases h1 : b = dx
  · subst h1; rw [upd_same, upd_same]
  · rw [upd_ne h1, upd_ne h1]
    by_cases h2 : b = a
    · subst h2; rw [del_same, ha]
    · rw [del_ne h2, upd_ne h2, upd_ne h1, upd_ne h2]
theorem ds_raise1 {nm f : Str} {C : Addr} {a : Expr} {es : List Expr} {gs : M (List D)} {p pos pos2 : Pos} (G : XCls X.prog X.w X.K X.mg X.base nm f C) (hc : X.calm = true) (tk : Takes X W) (hr : Room 2 X.A) (ha : DA X W (a :: es) gs) (hg : Gl X nm := by rfl)
    (hdb : (nm == ("__debug__" : Str)) = false := by decide) (he : starEach (a :: es) X.env = (false, eval a X.env) :: starEach es X.env := by rfl) (hpl : (backTo pos (starEach es X.env)).any (·.1) = false := by rfl) :
    DS X W (.Raise (some (.Call (.Name nm p) (a :: es) [] pos)) none pos2) (sRaise1 nm f gs) := by
  obtain ⟨fI, fd, h1, h2, h3, h4⟩ := G.ini
  refine PS.imp (ps_raise hc tk (pmk_oex G.T h1 h2 h3 hr h4 .nil pass0 hg G.gC ha hdb he hpl)) fun Dn σ H ⟨P, B, F0, F, δ, τ, e, p⟩ => ?_
  refine seqLS e p fun ds vs H1 F1 δ1 e1 hl p1 => ?_
  split at p1
  · rename_i d
    cases hl with
    | @cons _ v _ vs hd hn =>
      cases hn
      refine ⟨by simp, fun a ha => ⟨a, v, rfl, upd_same, fun dx hdx hda => ⟨rfl, dx, [(f, v)], upd_same, ?_, ?_, ?_⟩⟩⟩
      · rw [upd_ne hda, upd_same]
      · rw [upd_ne hda] at hdx; exact hdx
      · rw [upd_ne hda] at hdx
        rw [upd_exo ha hda]
        exact p1 _ _ σ _ F1 (e1.allocU hdx) ⟨G.gC, dx, _, rfl, e1.dm dx hdx, upd_same, rfl, .cons hd .nil⟩
  · exact p1.elim
end
structure Yields (K : PySem.W.Frag) (F : Hp) (ds : List D) (J : It) : Prop where
  go : ∀ i H, Same F H → i < ds.length → J.go i H
  stop : ∀ i H, Same F H → ds.length ≤ i → J.stop i H
  yld : ∀ i H x H' d, Same F H → ds[i]? = some d → J.yld i H x H' → (H' = H ∧ Has K (ft H F) d x) ∨ ∃ T xs es, H T = none ∧ x = V.ref T ∧ H' = upd H T (.tup xs) ∧ d = .tup es ∧ HasL K (ft H F) es xs
def tI (K : PySem.W.Frag) (mg : Mg) (W : WX) (g : M (List D)) : TI := fun σ H R => ∃ P B F0 F δ τ, EO K P B F0 H F δ σ τ ∧ match g δ with
  | .ok ds δ' => ∀ J H' F', EO K P B F0 H' F' δ' σ τ → Yields K F' ds J → R J H'
  | .err x δ' => ∀ cls dx H' F', EO K P B F0 H' F' δ' σ τ → XIs K mg P F' H' x cls dx → W cls dx σ H'
  | .bad => False
abbrev DI (X : Cx) (W : WX) (tg iter : Expr) (g : M (List D)) : Prop := PI X tg iter (tI X.K X.mg W g)
theorem PI.imp {X : Cx} {tg e : Expr} {t t' : TI} (h : PI X tg e t) (i : ∀ σ H R, t' σ H R → t σ H R) : PI X tg e t' := ⟨fun pins s σ H R I q => h.run pins s σ H R I (i σ H R q)⟩
theorem PI.or {X : Cx} {tg e : Expr} {t t' : TI} (h : PI X tg e t) (h' : PI X tg e t') : PI X tg e (fun σ H R => t σ H R ∨ t' σ H R) := ⟨fun pins s σ H R I q => q.elim (h.run pins s σ H R I) (h'.run pins s σ H R I)⟩
theorem yields_tup {K : PySem.W.Frag} {F : Hp} {a : Addr} {vs : List V} {ds : List D} (hs : SqT K F a vs) (hl : HasL K F ds vs) : Yields K F ds (Itt K a) := by
  have len := hl.length
  refine ⟨fun i H sf hi => ⟨vs, vs[i]'(by omega), Same.seqT sf hs, List.getElem?_eq_getElem _⟩, fun i H sf hi => ⟨vs, Same.seqT sf hs, by omega⟩, fun i H x H' d sf hd y => ?_⟩
  obtain ⟨rfl, y⟩ := y
  obtain ⟨v, h1, h2⟩ := hl.get hd
  have := y vs (Same.seqT sf hs)
  rw [h1] at this
  cases this
  exact .inl ⟨rfl, h2.mono ft_same⟩
def intsFrom (lo : Int) : Nat → List D
  | 0 => []
  | n + 1 => .int lo :: intsFrom (lo + 1) n
theorem intsFrom_length : ∀ (n : Nat) (lo : Int), (intsFrom lo n).length = n
  | 0, _ => rfl
  | n + 1, lo => congrArg (· + 1) (intsFrom_length n (lo + 1))
theorem intsFrom_get : ∀ {n i : Nat} {lo : Int} {d : D}, (intsFrom lo n)[i]? = some d → d = .int (lo + i)
  | 0, _, _, _, h => by simp [intsFrom] at h
  | n + 1, 0, lo, d, h => by simp [intsFrom] at h; subst h; simp
  | n + 1, i + 1, lo, d, h => by
    have h' : (intsFrom (lo + 1) n)[i]? = some d := by simpa [intsFrom] using h
    rw [intsFrom_get h']
    congr 1
    omega
theorem yields_range {K : PySem.W.Frag} {F : Hp} {lo : Int} {n : Nat} : Yields K F (intsFrom lo n) (Itr lo n) := by
  refine ⟨fun i H _ hi => by rw [intsFrom_length] at hi; exact hi, fun i H _ hi => by rw [intsFrom_length] at hi; exact hi, fun i H x H' d _ hd y => ?_⟩
  obtain ⟨rfl, rfl⟩ := y
  rw [intsFrom_get hd]
  exact .inl ⟨rfl, .int _⟩
/-- a list's items, a tuple's -/
def items (ga : M D) : M (List D) := M.bind ga fun d δ => match d with
  | .lst l => .ok l δ
  | .tup l => .ok l δ
  | _ => .bad
section
variable {X : Cx} {W : WX} {tg : Expr}
theorem di_seq {a : Expr} {ga : M D} (ha : DE X W a ga) : DI X W tg a (items ga) := by
  refine PI.imp (PI.or (pi_list ha) (pi_tup ha)) fun σ H R ⟨P, B, F0, F, δ, τ, e, p⟩ => ?_
  unfold items M.bind at p
  cases q : ga δ with
  | bad => rw [q] at p; exact p.elim
  | err x δ' => rw [q] at p; exact .inl ⟨P, B, F0, F, δ, τ, e, by rw [q]; exact p⟩
  | ok d δ' =>
    rw [q] at p
    dsimp only at p
    split at p
    · rename_i ds0 δ0 q0
      split at q0
      · rename_i l
        cases q0
        refine .inl ⟨P, B, F0, F, δ, τ, e, ?_⟩
        rw [q]
        intro v H' F' e'
        cases e'.top with
        | @lst a vs _ hs hl =>
          have hs := SqL.of (K := X.K) hs
          refine ⟨a, rfl, ⟨vs, e'.sf.seq hs⟩, p _ H' F' e'.pop ?_⟩
          have len := hl.length
          refine ⟨fun i H sf hi => ⟨vs, vs[i]'(by omega), sf.seq hs, List.getElem?_eq_getElem _⟩, fun i H sf hi => ⟨vs, sf.seq hs, by omega⟩, fun i H x H' d sf hd y => ?_⟩
          obtain ⟨rfl, y⟩ := y
          obtain ⟨v, h1, h2⟩ := hl.get hd
          have := y vs (sf.seq hs)
          rw [h1] at this
          cases this
          exact .inl ⟨rfl, h2.mono ft_same⟩
      · rename_i l
        cases q0
        refine .inr ⟨P, B, F0, F, δ, τ, e, ?_⟩
        rw [q]
        intro v H' F' e'
        cases e'.top with
        | @tup a vs _ hs hl => exact ⟨a, rfl, ⟨vs, Same.seqT e'.sf hs⟩, p _ H' F' e'.pop (yields_tup hs hl)⟩
      · cases q0
    · rename_i x δ0 q0
      split at q0 <;> cases q0
    · exact p.elim
def optL (o : Option (List D)) : M (List D) := fun δ => match o with
  | some l => .ok l δ
  | none => .bad
def rng1 : List D → Option (List D)
  | [.int j] => if -(2 ^ 62) ≤ j ∧ j < 2 ^ 62 then some (intsFrom 0 j.toNat) else none
  | _ => none
theorem rng1_some {ds l : List D} (h : rng1 ds = some l) : ∃ j, ds = [.int j] ∧ -(2 ^ 62) ≤ j ∧ j < 2 ^ 62 ∧ l = intsFrom 0 j.toNat := by
  unfold rng1 at h
  split at h
  · rename_i j
    split at h
    · rename_i hj
      cases h
      exact ⟨j, rfl, hj.1, hj.2, rfl⟩
    · cases h
  · cases h
def iRange1 (gs : M (List D)) : M (List D) := M.bind gs fun ds => optL (rng1 ds)
theorem seqLI {K : PySem.W.Frag} {mg : Mg} {P B F0 H F : Hp} {δ : En} {σ : L2.St} {τ : List (D × V)} {ga : M (List D)} {k : List D → M (List D)} {R : It → Hp → Prop} {R' : List V → Hp → Prop} (e : EO K P B F0 H F δ σ τ)
    (p : match M.bind ga k δ with
      | .ok ds δ' => ∀ J H' F', EO K P B F0 H' F' δ' σ τ → Yields K F' ds J → R J H'
      | .err x δ' => ∀ cls dx H' F', EO K P B F0 H' F' δ' σ τ → XIs K mg P F' H' x cls dx → W cls dx σ H'
      | .bad => False)
    (h : ∀ ds vs H' F' δ', EO K P B F0 H' F' δ' σ τ → HasL K F' ds vs → (match k ds δ' with
      | .ok ds δ' => ∀ J H' F', EO K P B F0 H' F' δ' σ τ → Yields K F' ds J → R J H'
      | .err x δ' => ∀ cls dx H' F', EO K P B F0 H' F' δ' σ τ → XIs K mg P F' H' x cls dx → W cls dx σ H'
      | .bad => False) → R' vs H') : tL K mg W ga σ H R' := by
  refine ⟨P, B, F0, F, δ, τ, e, ?_⟩
  unfold M.bind at p
  cases q : ga δ with
  | ok d δ' => rw [q] at p; exact fun vs H' F' e' hl => h d vs H' F' δ' e' hl p
  | err x δ' => rw [q] at p; exact p
  | bad => rw [q] at p; exact p
theorem di_range1 {a : Expr} {gs : M (List D)} {p pos : Pos} (hg : Gl X "range") (hm : X.mg "range" = none) (ha : DA X W [a] gs) (hs : starEach [a] X.env = [(false, eval a X.env)] := by rfl) : DI X W tg (.Call (.Name "range" p) [a] [] pos) (iRange1 gs) := by
  refine PI.imp (pi_range1 hg hm ha hs) fun σ H R ⟨P, B, F0, F, δ, τ, e, p⟩ => ?_
  refine seqLI e p fun ds vs H1 F1 δ1 e1 hl p1 => ?_
  cases q : rng1 ds with
  | none => rw [q] at p1; exact p1.elim
  | some l =>
    rw [q] at p1
    obtain ⟨j, rfl, h1, h2, rfl⟩ := rng1_some q
    cases hl with
    | cons h3 h4 =>
      cases h3; cases h4
      exact ⟨j, rfl, h1, h2, p1 _ H1 F1 e1 yields_range⟩
end
end PL
set_option Elab.async false
set_option linter.all false
set_option maxRecDepth 100000
namespace PL
open PySem PySem.Spec PyProof.Rows L2 LamX
variable [Tbls]
def loopS (bd : Bd) (body : S) : List D → S
  | [], δ => .ok .nx δ
  | d :: ds, δ => match bd d δ with
    | none => .bad
    | some δ1 => match body δ1 with
      | .ok .nx δ2 => loopS bd body ds δ2
      | .ok .cnt δ2 => loopS bd body ds δ2
      | .ok .brk δ2 => .ok .nx δ2
      | .ok (.ret r) δ2 => .ok (.ret r) δ2
      | .err x δ2 => .err x δ2
      | .bad => .bad
def sFor (gi : M (List D)) (bd : Bd) (body : S) : S := M.bind gi fun ds => loopS bd body ds
section
variable {K : PySem.W.Frag} {P B F0 H F : Hp} {δ : En} {σ : L2.St} {τ : List (D × V)}
/-- the item of a turn -/
theorem EO.item {F1 H' : Hp} {ds : List D} {J : It} {i : Nat} {x : V} {d : D} (y : Yields K F1 ds J) (e : EO K P B F1 H F δ σ τ) (hd : ds[i]? = some d) (q : J.yld i H x H') : ∃ F', EO K P B F1 H' F' δ σ ((d, x) :: τ) := by
  rcases y.yld i H x H' d (e.s0.trans e.sf) hd q with ⟨rfl, h⟩ | ⟨T, xs, es, h1, rfl, rfl, rfl, h⟩
  · exact ⟨_, e.close.push (h.mono (ft_mono e.s0 e.sf))⟩
  · exact ⟨_, (e.close.alloc h1).push (.tup (SqT.of upd_same) ((h.mono (ft_mono e.s0 e.sf)).mono (same_new (e.close.fresh h1))))⟩
end
section
variable {X : Cx} {W : WX} {tg iter : Expr} {body : List Stmt} {gi : M (List D)} {bd : Bd} {gb : S} {pos : Pos} {vl : List Nat}
theorem drop_cons {ds : List D} {i : Nat} {d : D} (h : ds[i]? = some d) : ds.drop i = d :: ds.drop (i + 1) := by
  obtain ⟨hi, e⟩ := List.getElem?_eq_some_iff.mp h
  rw [List.drop_eq_getElem_cons hi, e]
theorem ds_for (hp : PassesOwn (model X.prog X.w) X.A X.env X.xe) (hc : X.calm = true) (hi : DI X W tg iter gi) (hg : DG X vl tg bd) (hb : DSs X W body gb) (hs : ∀ x, foldedSetIterable iter X.env x = pure x := by intro _; rfl) :
    DS X W (.For tg iter body [] pos) (sFor gi bd gb) := by
  refine PS.imp (ps_for hp hc hi hg hb hs) fun Dn σ H ⟨P, B, F0, F, δ, τ, e, p⟩ => ?_
  refine ⟨P, B, F0, F, δ, τ, e, ?_⟩
  unfold sFor M.bind at p
  cases q : gi δ with
  | bad => rw [q] at p; exact p
  | err x δ' => rw [q] at p; exact fun cls dx H' F' e' z => p cls dx σ H' F' e' z
  | ok ds δ1 =>
    rw [q] at p
    intro J H1 F1 e1 y
    have p1 : PostS X.K X.mg W P B F1 τ (loopS bd gb (ds.drop 0) δ1) Dn := PostS.rebase e1 p
    have e1' := e1.rebase
    clear e p q e1
    refine ⟨fun i m σ H => m = ds.length - i ∧ ∃ F δ, EO X.K P B F1 H F δ σ τ ∧ PostS X.K X.mg W P B F1 τ (loopS bd gb (ds.drop i) δ) Dn, ⟨_, rfl, F1, δ1, e1', p1⟩, ?_⟩
    rintro i m σ2 H2 ⟨rfl, F2, δ2, e2, p2⟩
    have sf : Same F1 H2 := e2.s0.trans e2.sf
    by_cases hlt : i < ds.length
    · refine .inr ⟨y.go i H2 sf hlt, fun σ H => ∃ F δ, EO X.K P B F1 H F δ σ τ ∧ PostS X.K X.mg W P B F1 τ (loopS bd gb (ds.drop (i + 1)) δ) Dn, fun σ' H' h => ⟨ds.length - (i + 1), by omega, rfl, h⟩, fun x H' hy => ?_⟩
      have hd : ds[i]? = some ds[i] := List.getElem?_eq_getElem hlt
      obtain ⟨F3, e3⟩ := EO.item y e2 hd hy
      refine ⟨P, B, F1, F3, δ2, τ, ds[i], e3, ?_⟩
      rw [drop_cons hd] at p2
      unfold loopS at p2
      cases q : bd ds[i] δ2 with
      | none => rw [q] at p2; exact p2
      | some δ3 =>
        rw [q] at p2
        dsimp only at p2 ⊢
        intro σ4 _ e4
        refine ⟨P, B, F1, F3, δ3, τ, e4, ?_⟩
        cases q2 : gb δ3 with
        | bad => rw [q2] at p2; exact p2
        | err x δ5 => rw [q2] at p2; exact p2
        | ok fl δ5 =>
          rw [q2] at p2
          cases fl with
          | nx => exact fun σ' H' F' e' => ⟨F', δ5, e', p2⟩
          | cnt => exact fun σ' H' F' e' => ⟨F', δ5, e', p2⟩
          | brk => exact p2
          | ret r => exact p2
    · refine .inl ⟨y.stop i H2 sf (by omega), ?_⟩
      rw [List.drop_eq_nil_of_le (by omega)] at p2
      exact p2 σ2 H2 F2 e2
end
def wipeD (δ : En) : List Nat → En
  | [] => δ
  | v :: vs => (wipeD δ vs).set v .no
def loopC (bd : Bd) (gt : M Bool) (ge : M D) (vl : List Nat) : List D → List D → M (List D)
  | [], acc, δ => .ok acc δ
  | d :: ds, acc, δ => match bd d δ with
    | none => .bad
    | some δ1 => match gt δ1 with
      | .ok false δ2 => loopC bd gt ge vl ds acc (wipeD δ2 vl)
      | .ok true δ2 => match ge δ2 with
        | .ok r δ3 => if acc.length < LIM then loopC bd gt ge vl ds (acc ++ [r]) (wipeD δ3 vl) else .bad
        | _ => .bad
      | _ => .bad
def mComp (gi : M (List D)) (bd : Bd) (gt : M Bool) (ge : M D) (vl : List Nat) : M (List D) := M.bind gi fun ds δ => loopC bd gt ge vl ds [] (wipeD δ vl)
def eComp (gi : M (List D)) (bd : Bd) (gt : M Bool) (ge : M D) (vl : List Nat) : M D := M.bind (mComp gi bd gt ge vl) fun l => M.pure (.lst l)
section
variable {K : PySem.W.Frag} {P B F0 H F : Hp} {δ : En} {σ : L2.St} {τ : List (D × V)}
theorem wipeD_length (δ : En) : ∀ vs : List Nat, (wipeD δ vs).length = δ.length
  | [] => rfl
  | v :: vs => by unfold wipeD; rw [List.length_set, wipeD_length δ vs]
theorem wipeD_some {δ : En} {i : Nat} {s : Sl} : ∀ {vs : List Nat}, (wipeD δ vs)[i]? = some s → s ≠ .no → δ[i]? = some s ∧ i ∉ vs
  | [], h, _ => ⟨h, by simp⟩
  | v :: vs, h, hs => by
    unfold wipeD at h
    by_cases hi : v = i
    · subst hi
      by_cases hv : v < (wipeD δ vs).length
      · rw [List.getElem?_set_self hv] at h
        exact absurd (Option.some.inj h).symm hs
      · rw [List.getElem?_eq_none (by simpa using hv)] at h; cases h
    · rw [List.getElem?_set_ne hi] at h
      obtain ⟨h1, h2⟩ := wipeD_some h hs
      exact ⟨h1, by simp only [List.mem_cons, not_or]; exact ⟨fun e => hi e.symm, h2⟩⟩
theorem wipe_keep {σ : L2.St} {i : Nat} {x : V} : ∀ {vs : List Nat}, i ∉ vs → σ[i]? = some (some x) → (wipe σ vs)[i]? = some (some x)
  | [], _, h => h
  | v :: vs, hn, h => by
    simp only [List.mem_cons, not_or] at hn
    unfold wipe
    rw [List.getElem?_set_ne (fun z => hn.1 z.symm)]
    exact wipe_keep hn.2 h
theorem EO.wipe (e : EO K P B F0 H F δ σ τ) (vl : List Nat) : EO K P B F0 H F (wipeD δ vl) (wipe σ vl) τ := by
  refine { e with len := by rw [wipeD_length, wipe_length]; exact e.len, im := fun i d q => ?_, ow := fun i l q => ?_, io := fun i l q => ?_, ap := fun i j a q1 q2 q3 q4 => ?_ }
  · obtain ⟨h1, h2⟩ := wipeD_some q (fun z => nomatch z)
    obtain ⟨v, h3, h4⟩ := e.im i d h1
    exact ⟨v, wipe_keep h2 h3, h4⟩
  · obtain ⟨h1, h2⟩ := wipeD_some q (fun z => nomatch z)
    obtain ⟨a, vs, h3, h4⟩ := e.ow i l h1
    exact ⟨a, vs, wipe_keep h2 h3, h4⟩
  · obtain ⟨h1, h2⟩ := wipeD_some q (fun z => nomatch z)
    obtain ⟨a, vs, h3, h4⟩ := e.io i l h1
    exact ⟨a, vs, wipe_keep h2 h3, h4⟩
  · have un : ∀ {i : Nat}, ((∃ l, (wipeD δ vl)[i]? = some (Sl.ow l)) ∨ ∃ l, (wipeD δ vl)[i]? = some (Sl.io l)) → (∃ l, δ[i]? = some (Sl.ow l)) ∨ ∃ l, δ[i]? = some (Sl.io l) := fun {i} h => by
      rcases h with ⟨l, h⟩ | ⟨l, h⟩
      · exact .inl ⟨l, (wipeD_some h (fun z => nomatch z)).1⟩
      · exact .inr ⟨l, (wipeD_some h (fun z => nomatch z)).1⟩
    exact e.ap i j a (un q1) (un q2) (wipe_some q3).1 (wipe_some q4).1
theorem EO.unwipe {vl : List Nat} (e : EO K P B F0 H F δ (L2.wipe σ vl) τ) : EO K P B F0 H F δ σ τ := by
  refine { e with len := by rw [← wipe_length σ vl]; exact e.len, im := fun i d q => ?_, ow := fun i l q => ?_, io := fun i l q => ?_, ap := fun i j a q1 q2 q3 q4 => ?_ }
  · obtain ⟨v, h3, h4⟩ := e.im i d q
    exact ⟨v, (wipe_some h3).1, h4⟩
  · obtain ⟨a, vs, h3, h4⟩ := e.ow i l q
    exact ⟨a, vs, (wipe_some h3).1, h4⟩
  · obtain ⟨a, vs, h3, h4⟩ := e.io i l q
    exact ⟨a, vs, (wipe_some h3).1, h4⟩
  · have own : ∀ {i : Nat}, ((∃ l, δ[i]? = some (Sl.ow l)) ∨ ∃ l, δ[i]? = some (Sl.io l)) → ∃ b, (L2.wipe σ vl)[i]? = some (some (V.ref b)) ∧ σ[i]? = some (some (V.ref b)) := fun {i} h => by
      rcases h with ⟨l, h⟩ | ⟨l, h⟩
      · obtain ⟨b, _, h3, _⟩ := e.ow i l h
        exact ⟨b, h3, (wipe_some h3).1⟩
      · obtain ⟨b, _, h3, _⟩ := e.io i l h
        exact ⟨b, h3, (wipe_some h3).1⟩
    obtain ⟨b, h1, h2⟩ := own q1
    obtain ⟨c, h3, h4⟩ := own q2
    rw [q3] at h2
    rw [q4] at h4
    cases h2; cases h4
    exact e.ap i j a q1 q2 h1 h3
theorem noT_upd {H : Hp} {L a : Addr} {o : HO} (ho : Kp o) (q : noT (upd H L o) a = none) : a ≠ L ∧ noT H a = none := by
  have z : a ≠ L := fun z => by
    subst z
    rw [noT_some.mpr ⟨upd_same, ho⟩] at q; cases q
  refine ⟨z, ?_⟩
  cases y : noT H a with
  | none => rfl
  | some u =>
    obtain ⟨y1, y2⟩ := noT_some.mp y
    rw [noT_some.mpr ⟨by rw [upd_ne z]; exact y1, y2⟩] at q; cases q
/-- a list that is being filled stands aside -/
theorem EO.aside {L : Addr} {o : HO} (e : EO K P B F0 H F δ σ τ) (h : H L = none) (ho : Kp o := by exact ⟨(fun _ z => nomatch z), (fun _ z => nomatch z)⟩) : EO K (upd P L o) (upd B L o) F0 (upd H L o) F δ σ τ := by
  have e' := e.allocU (o := o) h
  have pL : P L = none := e.dm L h
  have fL : F L = none := e.fresh h
  refine { e' with dm' := fun a q => ?_, bp := fun a q => ?_, sb := ?_, nw := fun a q1 q2 => ?_, ow := fun i l q => ?_, io := fun i l q => ?_, bt := e.bt.upd ho }
  · obtain ⟨z, z2⟩ := noT_upd ho q
    rw [upd_ne z]; exact e.dm' a z2
  · by_cases z : a = L
    · subst z; rw [upd_same] at q; cases q
    · rw [upd_ne z] at q ⊢; exact e.bp a q
  · exact same_upd2 e.sb
  · by_cases z : a = L
    · subst z; exact absurd fL q2
    · rw [upd_ne z]; exact e.nw a q1 q2
  · obtain ⟨a, vs, h1, h2, h3, h4, h5⟩ := e.ow i l q
    have z : a ≠ L := ne_of_none h4 h
    exact ⟨a, vs, h1, by rw [upd_ne z]; exact h2, h3, by rw [upd_ne z]; exact h4, h5⟩
  · obtain ⟨a, vs, h1, h2, h3, h4, h5⟩ := e.io i l q
    have z : a ≠ L := ne_of_none h4 h
    exact ⟨a, vs, h1, ⟨by rw [upd_ne z]; exact h2.1, by rw [upd_ne z]; exact h2.2⟩, h3, by rw [upd_ne z]; exact h4, h5⟩
/-- tables stay where a list changes -/
theorem tb_upd {H : Hp} {L : Addr} {o o' : HO} (t : TB H) (hL : H L = some o) (h1 : ∀ ps, o ≠ .tbl ps) (h2 : ∀ q, o ≠ CodeO L q) : TB (upd H L o') := fun p hp => by
  obtain ⟨ps, a1, a2, a3⟩ := t p hp
  refine ⟨ps, ?_, a2, fun pos cv hc => ?_⟩
  · have z : p.1 ≠ L := fun z => by rw [z, hL] at a1; exact h1 ps (Option.some.inj a1)
    rw [upd_ne z]; exact a1
  · obtain ⟨c, b1, b2⟩ := a3 pos cv hc
    refine ⟨c, b1, ?_⟩
    have z : c ≠ L := fun z => by subst z; rw [hL] at b2; exact h2 _ (Option.some.inj b2)
    rw [upd_ne z]; exact b2
/-- one more item in it -/
theorem EO.fill {L : Addr} {xs : List V} {o' o₁ : HO} (e : EO K (upd P L o₁) (upd B L (.lst xs)) F0 H F δ σ τ) (f : F L = none) (ho : Kp o' := by exact ⟨(fun _ z => nomatch z), (fun _ z => nomatch z)⟩) : EO K (upd P L o₁) (upd B L o') F0 (upd H L o') F δ σ τ := by
  have hL : H L = some (.lst xs) := e.sb _ _ upd_same
  refine { e with dm' := fun a q => ?_, bp := fun a q => ?_, sb := fun b x q => ?_, sf := fun b x q => ?_, ow := fun i l q => ?_, io := fun i l q => ?_, bt := ?_, tb := tb_upd e.tb hL (fun _ z => nomatch z) (fun _ z => nomatch z) }
  · exact e.dm' a (noT_upd ho q).2
  · by_cases z : a = L
    · subst z; rw [upd_same] at q; cases q
    · have := e.bp a q
      rw [upd_ne z] at this ⊢; exact this
  · by_cases z : b = L
    · subst z; rw [upd_same] at q ⊢; exact q
    · rw [upd_ne z] at q ⊢
      exact e.sb b x (by rw [upd_ne z]; exact q)
  · by_cases z : b = L
    · subst z; rw [f] at q; cases q
    · rw [upd_ne z]; exact e.sf b x q
  · obtain ⟨a, vs, h1, h2, h3, h4, h5⟩ := e.ow i l q
    have z : a ≠ L := fun z => by subst z; rw [upd_same] at h2; cases h2
    exact ⟨a, vs, h1, h2, h3, by rw [upd_ne z]; exact h4, h5⟩
  · obtain ⟨a, vs, h1, h2, h3, h4, h5⟩ := e.io i l q
    have z : a ≠ L := fun z => by subst z; have h6 := h2.1; rw [upd_same] at h6; cases h6
    exact ⟨a, vs, h1, ⟨by have h6 := h2.1; rw [upd_ne z] at h6 ⊢; exact h6, h2.2⟩, h3, by rw [upd_ne z]; exact h4, h5⟩
  · intro a u z
    by_cases y : a = L
    · subst y; rw [upd_same] at z; cases z; exact ho
    · have := e.bt a u
      rw [upd_ne y] at z this; exact this z
/-- back from it: it is nobody's -/
theorem EO.unaside {L : Addr} {o o₁ : HO} (e : EO K (upd P L o₁) (upd B L o) F0 H F δ σ τ) (pL : P L = none) (bL : B L = none) (hbp : ∀ a, P a = none → B a = none) : EO K P B F0 H F δ σ τ := by
  refine { e with dm' := fun a q => ?_, bp := hbp, sb := fun b x q => ?_, nw := fun a q1 q2 => ?_, ow := fun i l q => ?_, io := fun i l q => ?_, bt := fun a ps q => ?_ }
  · have := e.dm' a q
    by_cases z : a = L
    · subst z; exact pL
    · rw [upd_ne z] at this; exact this
  · have z : b ≠ L := fun z => by subst z; rw [bL] at q; cases q
    exact e.sb b x (by rw [upd_ne z]; exact q)
  · have := e.nw a q1 q2
    by_cases z : a = L
    · subst z; exact pL
    · rw [upd_ne z] at this; exact this
  · obtain ⟨a, vs, h1, h2, h3⟩ := e.ow i l q
    have z : a ≠ L := fun z => by subst z; rw [upd_same] at h2; cases h2
    rw [upd_ne z] at h2
    exact ⟨a, vs, h1, h2, h3⟩
  · obtain ⟨a, vs, h1, h2, h3⟩ := e.io i l q
    have z : a ≠ L := fun z => by subst z; have h6 := h2.1; rw [upd_same] at h6; cases h6
    rw [upd_ne z, upd_ne z] at h2
    exact ⟨a, vs, h1, h2, h3⟩
  · have z : a ≠ L := fun z => by subst z; rw [bL] at q; cases q
    have := e.bt a ps
    rw [upd_ne z] at this; exact this q
/-- a standing object of nobody is frozen -/
theorem EO.adopt {L : Addr} {o : HO} (e : EO K P B F0 H F δ σ τ) (hL : H L = some o) (pL : P L = none) (fL : F L = none)
    (hn : ∀ (i : Nat) (a : Addr), ((∃ l, δ[i]? = some (Sl.ow l)) ∨ ∃ l, δ[i]? = some (Sl.io l)) → σ[i]? = some (some (V.ref a)) → a ≠ L) (ho : ∀ ps, o ≠ .tbl ps := by exact fun _ z => nomatch z) : EO K P B F0 H (upd F L o) δ σ τ := by
  have f : Same F (upd F L o) := same_new fL
  refine { e with sf := fun b x q => ?_, s0 := e.s0.trans f, nw := fun a q1 q2 => ?_, im := fun i d q => ?_, ow := fun i l q => ?_, io := fun i l q => ?_, tm := fun p q => (e.tm p q).mono f, nt := e.nt.upd ho }
  · by_cases z : b = L
    · subst z; rw [upd_same] at q; rw [hL]; exact q
    · rw [upd_ne z] at q; exact e.sf b x q
  · by_cases z : a = L
    · subst z; exact pL
    · rw [upd_ne z] at q2; exact e.nw a q1 q2
  · obtain ⟨v, h1, h2⟩ := e.im i d q
    exact ⟨v, h1, h2.mono f⟩
  · obtain ⟨a, vs, h1, h2, h3, h4, h5⟩ := e.ow i l q
    exact ⟨a, vs, h1, h2, by rw [upd_ne (hn i a (.inl ⟨l, q⟩) h1)]; exact h3, h4, h5.mono f⟩
  · obtain ⟨a, vs, h1, h2, h3, h4, h5⟩ := e.io i l q
    exact ⟨a, vs, h1, h2, by rw [upd_ne (hn i a (.inr ⟨l, q⟩) h1)]; exact h3, h4, h5.mono f⟩
end
/-- the reading of a comprehension: R of the list and of what it holds -/
theorem comp_read {K : PySem.W.Frag} {mg : Mg} {W W0 : WX} {P B F0 H F : Hp} {δ : En} {σ : L2.St} {τ : List (D × V)} {gi : M (List D)} {bd : Bd} {gt : M Bool} {ge : M D} {vl : List Nat} {Q : VK} (e : EO K P B F0 H F δ σ τ)
    (hbad : gi δ = .bad → False) (herr : ∀ x δ', gi δ = .err x δ' → ∀ cls dx H' F', EO K P B F0 H' F' δ' σ τ → XIs K mg P F' H' x cls dx → W cls dx σ H')
    (hok : ∀ ds δ', gi δ = .ok ds δ' → match loopC bd gt ge vl ds [] (wipeD δ' vl) with
      | .ok acc δ2 => ∀ L accV H' F', P L = none → H' L = some (.lst accV) → F' L = none → (∀ (i : Nat) (a : Addr), ((∃ l, δ2[i]? = some (Sl.ow l)) ∨ ∃ l, δ2[i]? = some (Sl.io l)) → σ[i]? = some (some (V.ref a)) → a ≠ L) → EO K P B F0 H' F' δ2 σ τ → HasL K F' acc accV → Q (.ref L) H'
      | .err _ _ => False
      | .bad => False) :
    tLc (tI K mg W gi) (tGt K vl bd) (tT K mg (fun _ _ _ _ => False) gt) (tE K mg (fun _ _ _ _ => False) ge) vl σ H Q := by
  refine ⟨P, B, F0, F, δ, τ, e, ?_⟩
  cases q : gi δ with
  | bad => exact (hbad q).elim
  | err x δ' => exact herr x δ' q
  | ok ds δ1 =>
    intro J H1 F1 e1 y L hL
    have h := hok ds δ1 q
    clear hbad herr hok q e
    have pL : P L = none := e1.dm L hL
    have bL : B L = none := e1.bp L pL
    have f1L : F1 L = none := e1.fresh hL
    have e2 : EO K (upd P L (.lst [])) (upd B L (.lst [])) F1 (upd H1 L (.lst [])) F1 (wipeD δ1 vl) (wipe σ vl) (([] : List D).zip ([] : List V) ++ τ) := (e1.rebase.aside hL).wipe vl
    refine ⟨fun i m H => m = ds.length - i ∧ ∃ F δ acc accV, EO K (upd P L (.lst [])) (upd B L (.lst accV)) F1 H F δ (wipe σ vl) (acc.zip accV ++ τ) ∧ acc.length = accV.length ∧ match loopC bd gt ge vl (ds.drop i) acc δ with
      | .ok acc δ2 => ∀ L accV H' F', P L = none → H' L = some (.lst accV) → F' L = none → (∀ (i : Nat) (a : Addr), ((∃ l, δ2[i]? = some (Sl.ow l)) ∨ ∃ l, δ2[i]? = some (Sl.io l)) → σ[i]? = some (some (V.ref a)) → a ≠ L) → EO K P B F0 H' F' δ2 σ τ → HasL K F' acc accV → Q (.ref L) H'
      | .err _ _ => False
      | .bad => False, ⟨_, rfl, F1, _, [], [], e2, rfl, h⟩, ?_⟩
    clear h e2
    rintro i m H2 ⟨rfl, F2, δ2, acc, accV, e2, len, h⟩
    have sf : Same F1 H2 := e2.s0.trans e2.sf
    have hDL : H2 L = some (.lst accV) := e2.sb _ _ upd_same
    have fL : ∀ {H F : Hp} {δ : En} {σ : L2.St} {τ : List (D × V)} {o : HO}, EO K (upd P L (.lst [])) (upd B L o) F1 H F δ σ τ → F L = none := fun {H F δ σ τ o} e => by
      cases z : F L with
      | none => rfl
      | some u =>
        have := e.nw L f1L (by rw [z]; exact fun y => nomatch y)
        rw [upd_same] at this
        cases this
    by_cases hlt : i < ds.length
    · refine .inr ⟨y.go i H2 sf hlt, fun H => ∃ F δ acc accV, EO K (upd P L (.lst [])) (upd B L (.lst accV)) F1 H F δ (wipe σ vl) (acc.zip accV ++ τ) ∧ acc.length = accV.length ∧ match loopC bd gt ge vl (ds.drop (i + 1)) acc δ with
        | .ok acc δ2 => ∀ L accV H' F', P L = none → H' L = some (.lst accV) → F' L = none → (∀ (i : Nat) (a : Addr), ((∃ l, δ2[i]? = some (Sl.ow l)) ∨ ∃ l, δ2[i]? = some (Sl.io l)) → σ[i]? = some (some (V.ref a)) → a ≠ L) → EO K P B F0 H' F' δ2 σ τ → HasL K F' acc accV → Q (.ref L) H'
        | .err _ _ => False
        | .bad => False, fun H' h => ⟨ds.length - (i + 1), by omega, rfl, h⟩, fun x H' hy => ?_⟩
      have hd : ds[i]? = some ds[i] := List.getElem?_eq_getElem hlt
      obtain ⟨F3, e3⟩ := EO.item y e2 hd hy
      refine ⟨_, _, F1, F3, δ2, acc.zip accV ++ τ, ds[i], e3, ?_⟩
      rw [drop_cons hd] at h
      unfold loopC at h
      cases q : bd ds[i] δ2 with
      | none => rw [q] at h; exact h
      | some δ3 =>
        rw [q] at h
        dsimp only at h ⊢
        intro σ4 hw e4
        have hww : wipe (wipe σ vl) vl = wipe σ vl := by
          have key : ∀ (vs us : List Nat) (σ : L2.St), (∀ v ∈ us, v ∈ vs) → wipe (wipe σ vs) us = wipe σ vs := by
            intro vs us
            induction us with
            | nil => intro σ _; rfl
            | cons u us ih =>
              intro σ hs
              show (wipe (wipe σ vs) us).set u none = wipe σ vs
              rw [ih σ fun v hv => hs v (List.mem_cons_of_mem _ hv)]
              refine List.ext_getElem? fun j => ?_
              by_cases hj : u = j
              · subst hj
                by_cases hz : u < (wipe σ vs).length
                · rw [List.getElem?_set_self hz]
                  cases z : (wipe σ vs)[u]? with
                  | none => rw [List.getElem?_eq_none_iff] at z; omega
                  | some o =>
                    cases o with
                    | none => rfl
                    | some w => exact absurd (hs u List.mem_cons_self) (wipe_some z).2
                · rw [List.getElem?_eq_none (by rw [List.length_set]; omega), List.getElem?_eq_none (by omega)]
              · rw [List.getElem?_set_ne hj]
          exact key vl vl σ fun _ h => h
        have hw' : wipe σ4 vl = wipe σ vl := hw.trans hww
        refine ⟨hw', _, _, F1, F3, δ3, _, e4, ?_⟩
        cases q2 : gt δ3 with
        | bad => rw [q2] at h; exact h
        | err x δ5 => rw [q2] at h; exact h.elim
        | ok b δ5 =>
          rw [q2] at h
          cases b with
          | false =>
            intro H5 F5 e5
            show if false = true then _ else _
            rw [if_neg Bool.false_ne_true]
            refine ⟨F5, _, acc, accV, ?_, len, h⟩
            have := e5.wipe vl
            rw [hw'] at this
            exact this
          | true =>
            intro H5 F5 e5
            show if true = true then _ else _
            rw [if_pos rfl]
            refine ⟨_, _, F1, F5, δ5, _, e5, ?_⟩
            dsimp only at h
            cases q3 : ge δ5 with
            | bad => rw [q3] at h; exact h
            | err x δ6 => rw [q3] at h; exact h.elim
            | ok r δ6 =>
              rw [q3] at h
              dsimp only at h
              intro v H6 F6 e6
              by_cases hlim : acc.length < LIM
              · rw [if_pos hlim] at h
                refine ⟨accV, e6.sb _ _ upd_same, lim_lt (by rw [← len]; exact hlim), F6, _, acc ++ [r], accV ++ [v], ?_, by rw [List.length_append, List.length_append, len]; rfl, h⟩
                have e7 := (e6.fill (o' := .lst (accV ++ [v])) (fL e6)).wipe vl
                rw [hw'] at e7
                refine e7.sub fun p hp => ?_
                rw [List.zip_append len] at hp
                simp only [List.zip_cons_cons, List.zip_nil_right, List.mem_append, List.mem_cons, List.not_mem_nil, or_false] at hp ⊢
                rcases hp with (hp | hp) | hp
                · exact .inr (.inl hp)
                · exact .inl hp
                · exact .inr (.inr hp)
              · rw [if_neg hlim] at h
                exact h.elim
    · refine .inl ⟨y.stop i H2 sf (by omega), ?_⟩
      rw [List.drop_eq_nil_of_le (by omega)] at h
      have e3 := (e2.unaside pL bL e1.bp).unwipe
      have e4 := e1.unbase (e3.sub (τ' := τ) fun p q => List.mem_append_right _ q)
      refine h L accV H2 F2 pL hDL (fL e2) (fun j a ho hs => ?_) e4 (e2.topL len)
      rcases ho with ⟨l, ho⟩ | ⟨l, ho⟩
      · obtain ⟨b, vs, h1, h2, _⟩ := e2.ow j l ho
        have := (wipe_some h1).1
        rw [hs] at this
        cases this
        intro z
        subst z
        rw [upd_same] at h2
        cases h2
      · obtain ⟨b, vs, h1, h2, _⟩ := e2.io j l ho
        have := (wipe_some h1).1
        rw [hs] at this
        cases this
        intro z
        subst z
        have h6 := h2.1
        rw [upd_same] at h6
        cases h6
section
variable {X : Cx} {W : WX} {tg iter elt : Expr} {ifs : List Expr} {scope : Scope} {own : List (Str × Nat)} {gi : M (List D)} {bd : Bd} {gt : M Bool} {ge : M D} {pos : Pos}
abbrev W0 : WX := fun _ _ _ _ => False
abbrev DTs (X : Cx) (W : WX) (ifs : List Expr) (g : M Bool) : Prop := PTs X ifs (tT X.K X.mg W g)
theorem dts_nil {X : Cx} {W : WX} : DTs X W [] (M.pure true) := ⟨fun pins s σ H Q I ⟨_, _, _, F, _, _, e, p⟩ => pts_nil.run pins s σ H Q I (p H F e)⟩
theorem dts_one {X : Cx} {W : WX} {c : Expr} {g : M Bool} (h : DT X W c g) : DTs X W [c] g := pts_one h
theorem de_comp (hc : X.calm = true) (hN : X.N.Nodup) (hi : DI X W tg iter gi) (ok : BlkOk X.N X.env.scope scope own)
    (hg : ∀ (s : Shared) (H : Hp) (C : Addr) (cl : List (Str × Addr)) (fp : List Addr), DG (X.blk s H scope (compEnvC scope cl C X.env) fp) (own.map (·.2)) tg bd) (ht : ∀ (s : Shared) (H : Hp) (C : Addr) (cl : List (Str × Addr)) (fp : List Addr), DTs (X.blk s H scope (compEnvC scope cl C X.env) fp) W0 ifs gt)
    (he : ∀ (s : Shared) (H : Hp) (C : Addr) (cl : List (Str × Addr)) (fp : List Addr), DE (X.blk s H scope (compEnvC scope cl C X.env) fp) W0 elt ge) (hs : ∀ x, foldedSetIterable iter X.env x = pure x := by intro _; rfl) :
    DE X W (.ListComp elt [⟨tg, iter, ifs, 0⟩] scope pos) (eComp gi bd gt ge (own.map (·.2))) := by
  refine PE.imp (pe_lc (g := tGt X.K (own.map (·.2)) bd) (tt := tT X.K X.mg W0 gt) (te := tE X.K X.mg W0 ge) hc hN hi ok hg ht he hs) fun σ H Q ⟨P, B, F0, F, δ, τ, e, p⟩ => ?_
  unfold eComp mComp M.bind at p
  refine comp_read (W0 := W0) e (fun q => ?_) (fun x δ' q => ?_) fun ds δ' q => ?_
  · rw [q] at p; exact p
  · rw [q] at p; exact p
  · rw [q] at p
    dsimp only at p
    cases q2 : loopC bd gt ge (own.map (·.2)) ds [] (wipeD δ' (own.map (·.2))) with
    | bad => rw [q2] at p; exact p
    | err x δ2 =>
      -- never
      exfalso
      have key : ∀ (ds acc : List D) (δ : En) (x : Exn) (δ2 : En), loopC bd gt ge (own.map (·.2)) ds acc δ ≠ .err x δ2 := by
        intro ds
        induction ds with
        | nil => intro acc δ x δ2 z; cases z
        | cons d ds ih =>
          intro acc δ x δ2 z
          unfold loopC at z
          split at z
          · cases z
          · split at z
            · exact ih _ _ _ _ z
            · split at z
              · split at z
                · exact ih _ _ _ _ z
                · cases z
              · cases z
            · cases z
      exact key _ _ _ _ _ q2
    | ok acc δ2 =>
      rw [q2] at p
      exact fun L accV H' F' pL hL fL hn e' hl => p _ H' _ ((e'.adopt hL pL fL hn).push (.lst upd_same (hl.mono (same_new fL))))
end
end PL
set_option Elab.async false
set_option linter.all false
set_option maxRecDepth 100000
namespace PL
open PySem PySem.Spec PyProof.Rows L2 LamX
variable [Tbls]
def CallS (K : PySem.W.Frag) (r : List V → Hp → VK → Prop) (f : List D → Option D) : Prop := ∀ {ds : List D} {d : D} {vs : List V} {P B F0 H F : Hp} {δ : En} {σ : L2.St} {τ : List (D × V)} {Q : VK}, f ds = some d → EO K P B F0 H F δ σ τ → HasL K F ds vs →
  (∀ v H' F', EO K P B F0 H' F' δ σ ((d, v) :: τ) → Q v H') → r vs H Q
def eCall (f : List D → Option D) (gs : M (List D)) : M D := M.bind gs fun ds => opt (f ds)
section
variable {X : Cx} {W : WX} {x : Str} {p pos : Pos} {a : Expr} {es : List Expr} {id T : String} {r : List V → Hp → VK → Prop} {f : List D → Option D} {gs : M (List D)}
theorem tCB_of {K : PySem.W.Frag} {mg : Mg} (hf : CallS K r f) {σ : L2.St} {H : Hp} {Q : VK} (h : tE K mg W (eCall f gs) σ H Q) : tCB r (tL K mg W gs) σ H Q := by
  obtain ⟨P, B, F0, F, δ, τ, e, p⟩ := h
  refine seqL e p fun ds vs H1 F1 δ1 e1 hl p1 => ?_
  unfold opt at p1
  split at p1
  · rename_i d q
    exact hf q e1 hl fun v H' F' e' => p1 v H' F' e'
  · exact p1.elim
theorem de_callB (hc : CallR X (.builtin id) r) (hf : CallS X.K r f) (hg : Gl X x) (hm : X.mg x = none) (hv : bootBuiltins x = some (.builtin id)) (ha : DA X W (a :: es) gs) (hn : x ≠ "__name__" := by decide) (hdb : (x == ("__debug__" : Str)) = false := by decide)
    (he : starEach (a :: es) X.env = (false, eval a X.env) :: starEach es X.env := by rfl) (hpl : (backTo pos (starEach es X.env)).any (·.1) = false := by rfl) : DE X W (.Call (.Name x p) (a :: es) [] pos) (eCall f gs) :=
  PE.imp (pe_callB hc hg hm hv ha hn hdb he hpl) fun _ _ _ h => tCB_of hf h
theorem de_callTy (hc : CallR X (.type T) r) (hf : CallS X.K r f) (hg : Gl X x) (hm : X.mg x = none) (hv : bootBuiltins x = some (.type T)) (ha : DA X W (a :: es) gs) (hn : x ≠ "__name__" := by decide) (hdb : (x == ("__debug__" : Str)) = false := by decide)
    (he : starEach (a :: es) X.env = (false, eval a X.env) :: starEach es X.env := by rfl) (hpl : (backTo pos (starEach es X.env)).any (·.1) = false := by rfl) : DE X W (.Call (.Name x p) (a :: es) [] pos) (eCall f gs) :=
  PE.imp (pe_callTy hc hg hm hv ha hn hdb he hpl) fun _ _ _ h => tCB_of hf h
end
def fLen : List D → Option D
  | [.lst l] => some (.int l.length)
  | [.tup l] => some (.int l.length)
  | [.str x] => if x.length ≤ LIM then some (.int x.length) else none
  | _ => none
def rLen (K : PySem.W.Frag) : List V → Hp → VK → Prop := fun xs H Q => ∃ x n, xs = [x] ∧ LenV K x H n ∧ Q (.int n) H
theorem s_len {K : PySem.W.Frag} : CallS K (rLen K) fLen := by
  intro ds d vs P B F0 H F δ σ τ Q q e hl k
  unfold fLen at q
  split at q
  · cases q
    cases hl with
    | cons h1 h2 =>
      cases h2
      cases h1 with
      | lst hs hl2 => exact ⟨_, _, rfl, .inl ⟨_, SqL.of (e.sf _ _ hs), rfl⟩, by rw [← hl2.length]; exact k _ H F (e.push (.int _))⟩
  · cases q
    cases hl with
    | cons h1 h2 =>
      cases h2
      cases h1 with
      | tup hs hl2 => exact ⟨_, _, rfl, .inr ⟨_, Same.seqT e.sf hs, rfl⟩, by rw [← hl2.length]; exact k _ H F (e.push (.int _))⟩
  · split at q
    · rename_i hz
      cases q
      cases hl with
      | cons h1 h2 =>
        cases h2
        cases h1
        exact ⟨_, _, rfl, ⟨lim_ok hz, rfl⟩, k _ H F (e.push (.int _))⟩
    · cases q
  · cases q
def fInt : List D → Option D
  | [.int i] => some (.int i)
  | [.bl b] => some (.int (if b then 1 else 0))
  | _ => none
def rInt : List V → Hp → VK → Prop := fun xs H Q => (∃ i, xs = [.int i] ∧ Q (.int i) H) ∨ ∃ k, xs = [.bl k] ∧ Q (.int (if k then 1 else 0)) H
theorem s_int {K : PySem.W.Frag} : CallS K rInt fInt := by
  intro ds d vs P B F0 H F δ σ τ Q q e hl k
  unfold fInt at q
  split at q
  · cases q
    cases hl with
    | cons h1 h2 => cases h2; cases h1; exact .inl ⟨_, rfl, k _ H F (e.push (.int _))⟩
  · cases q
    cases hl with
    | cons h1 h2 => cases h2; cases h1; exact .inr ⟨_, rfl, k _ H F (e.push (.int _))⟩
  · cases q
def blAll : List D → Option (List Bool)
  | [] => some []
  | .bl b :: l => match blAll l with
    | some bs => some (b :: bs)
    | none => none
  | _ :: _ => none
theorem HasL.bls {K : PySem.W.Frag} {F : Hp} : ∀ {ds : List D} {vs : List V} {bs : List Bool}, HasL K F ds vs → blAll ds = some bs → vs = bs.map V.bl
  | _, _, _, .nil, h => by cases h; rfl
  | _, _, _, .cons h1 h2, h => by
    unfold blAll at h
    split at h
    · rename_i q
      cases q
    · rename_i b l q
      cases q
      split at h
      · rename_i bs e
        cases h
        cases h1
        rw [HasL.bls h2 e]
        rfl
      · cases h
    · cases h
def fAll : List D → Option D
  | [.lst l] => match blAll l with
    | some bs => some (.bl (bs.all id))
    | none => none
  | _ => none
theorem s_all {K : PySem.W.Frag} : CallS K (rAll K) fAll := by
  intro ds d vs P B F0 H F δ σ τ Q q e hl k
  unfold fAll at q
  split at q
  · split at q
    · rename_i bs hb
      cases q
      cases hl with
      | cons h1 h2 =>
        cases h2
        cases h1 with
        | @lst a vs _ hs hl2 => exact ⟨a, bs, rfl, by rw [← hl2.bls hb]; exact SqL.of (e.sf _ _ hs), k _ H F (e.push (.bl _))⟩
    · cases q
  · cases q
def tyN : D → Option String
  | .non => some "NoneType"
  | .bl _ => some "bool"
  | .int _ => some "int"
  | .str _ => some "str"
  | .tup _ => some "tuple"
  | .lst _ => some "list"
  | .val _ => none
  | .scr _ => some "list"
  | .dk _ => some "dict"
  | .dt _ => some "dict"
  | .key _ => none
  | .dz _ => none
  | .obj _ _ => none
  | .exc _ _ _ => none
  | .lam _ _ _ _ => none
theorem Has.tyx {K : PySem.W.Frag} {H F : Hp} {d : D} {v : V} {t : String} (h : Has K F d v) (sf : Same F H) (e : tyN d = some t) : TyX K H v (.type t) := by
  cases h with
  | non => cases e; exact .base .non
  | bl b => cases e; exact .base (.bl b)
  | int i => cases e; exact .base (.int i)
  | str x => cases e; exact .base (.str x)
  | val v => cases e
  | obj _ _ _ => cases e
  | exc _ _ _ => cases e
  | lam _ _ => cases e
  | tup hs hl =>
    cases e
    rcases hs with (hs | ⟨o, hs⟩) | ⟨o, its, n, hk, hc, _⟩
    · exact .base (.tup (sf _ _ hs))
    · exact .fTuple (sf _ _ hs)
    · exact .kTuple hk hc
  | lst hs hl =>
    cases e
    exact .base (.lst (sf _ _ hs))
  | dk hs _ _ =>
    cases e
    exact .base (.dK (sf _ _ hs))
  | key _ => cases e
  | dz _ _ _ => cases e
  | dt hs _ _ =>
    cases e
    exact .base (.dT (sf _ _ hs))
  | scr hs =>
    cases e
    rcases hs with (hs | ⟨o, hs⟩) | ⟨o, its, n, hk, hc, _⟩
    · exact .base (.lst (sf _ _ hs))
    · exact .base (.frz (sf _ _ hs))
    · exact .kList hk hc
def fIsi : List D → Option D
  | [d, .val (.ty t)] => match tyN d with
    | some n => match kitB n t with
      | some b => some (.bl b)
      | none => none
    | none => none
  | _ => none
theorem s_isi {K : PySem.W.Frag} : CallS K (rIsi K) fIsi := by
  intro ds d vs P B F0 H F δ σ τ Q q e hl k
  unfold fIsi at q
  split at q
  · rename_i d0 t
    split at q
    · rename_i n hn
      split at q
      · rename_i b hb
        cases q
        cases hl with
        | cons h1 h2 =>
          cases h2 with
          | cons h3 h4 =>
            cases h4
            cases h3
            exact ⟨_, _, _, _, b, rfl, .ty t, h1.tyx e.sf hn, kit_ty hb, k _ H F (e.push (.bl _))⟩
      · cases q
    · cases q
  · cases q
section
variable {X : Cx} {W : WX} {p pos : Pos} {a b : Expr} {es : List Expr} {gs : M (List D)} {ga gb : M D}
theorem de_len (hg : Gl X "len") (hm : X.mg "len" = none) (ha : DA X W (a :: es) gs) (he : starEach (a :: es) X.env = (false, eval a X.env) :: starEach es X.env := by rfl) (hpl : (backTo pos (starEach es X.env)).any (·.1) = false := by rfl) : DE X W (.Call (.Name "len" p) (a :: es) [] pos) (eCall fLen gs) :=
  de_callB call_len s_len hg hm PySem.boot_len ha (by decide) (by decide) he hpl
theorem de_intC (hg : Gl X "int") (hm : X.mg "int" = none) (ha : DA X W (a :: es) gs) (he : starEach (a :: es) X.env = (false, eval a X.env) :: starEach es X.env := by rfl) (hpl : (backTo pos (starEach es X.env)).any (·.1) = false := by rfl) : DE X W (.Call (.Name "int" p) (a :: es) [] pos) (eCall fInt gs) :=
  de_callTy call_int1 s_int hg hm (by decide +kernel) ha (by decide) (by decide) he hpl
theorem de_all (hc : X.calm = true) (hg : Gl X "all") (hm : X.mg "all" = none) (ha : DA X W (a :: es) gs) (he : starEach (a :: es) X.env = (false, eval a X.env) :: starEach es X.env := by rfl) (hpl : (backTo pos (starEach es X.env)).any (·.1) = false := by rfl) : DE X W (.Call (.Name "all" p) (a :: es) [] pos) (eCall fAll gs) :=
  de_callB (cr_all hc) s_all hg hm (by decide +kernel) ha (by decide) (by decide) he hpl
theorem de_isi (hg : Gl X "isinstance") (hm : X.mg "isinstance" = none) (ha : DA X W (a :: es) gs) (he : starEach (a :: es) X.env = (false, eval a X.env) :: starEach es X.env := by rfl) (hpl : (backTo pos (starEach es X.env)).any (·.1) = false := by rfl) : DE X W (.Call (.Name "isinstance" p) (a :: es) [] pos) (eCall fIsi gs) :=
  de_callB call_isi s_isi hg hm (by decide +kernel) ha (by decide) (by decide) he hpl
/-- a built-in type's name -/
theorem de_ty {x : Str} {t : String} {pos : Pos} (hg : Gl X x) (hm : X.mg x = none) (hv : bootBuiltins x = some (.type t)) (hn : x ≠ "__name__" := by decide) (hd : (x == ("__debug__" : Str)) = false := by decide) : DE X W (.Name x pos) (eC (.val (.ty t))) :=
  de_c (pe_bltn hg hm hv (v := .ty t) rfl hn hd) fun _ => .val _
def dMod := iOpC (fun _ j => decide (0 < j)) fun i j => .int (i % j)
theorem s_mod {K : PySem.W.Frag} : OpS K (rI (fun _ j => 0 < j) fun i j => .int (i % j)) dMod := ops_I (fun i j h => of_decide_eq_true h) fun _ _ _ _ => .int _
def dNeg (ga : M D) : M D := M.bind ga fun d => opt (match d with
  | .int i => some (.int (-i))
  | _ => none)
theorem de_neg (ha : DE X W a ga) : DE X W (.UnaryOp .USub a pos) (dNeg ga) := by
  refine PE.imp (pe_un un_neg ha) fun σ H Q ⟨P, B, F0, F, δ, τ, e, p⟩ => ?_
  refine seqE e p fun d v H1 F1 δ1 e1 p1 => ?_
  unfold opt at p1
  split at p1
  · rename_i d2 q
    split at q
    · cases q
      cases e1.top
      exact ⟨_, rfl, p1 _ H1 F1 (e1.pop.push (.int _))⟩
    · cases q
  · exact p1.elim
def dCat : D → D → Option D
  | .int i, .int j => some (.int (i + j))
  | .str x, .str y => if x.length + y.length ≤ LIM then some (.str (x ++ y)) else none
  | .lst l, .lst m => if l.length + m.length ≤ LIM then some (.lst (l ++ m)) else none
  | .tup l, .tup m => if l.length + m.length ≤ LIM ∧ l ≠ [] ∧ m ≠ [] then some (.tup (l ++ m)) else none
  | _, _ => none
end
def dIx : D → D → Option D
  | .lst l, .int i => atI l i
  | .tup l, .int i => atI l i
  | .str x, .int i => if x.length ≤ LIM then (atI x.cps.toList i).map fun c => .str ⟨#[c]⟩ else none
  | _, _ => none
theorem HasL.atI {K : PySem.W.Frag} {F : Hp} {ds : List D} {vs : List V} {i : Int} {d : D} (h : HasL K F ds vs) (e : L2.atI ds i = some d) : ∃ v, L2.atI vs i = some v ∧ Has K F d v := by
  unfold L2.atI at e ⊢
  rw [← h.length]
  cases q : ixN ds.length i with
  | none => rw [q] at e; cases e
  | some j =>
    rw [q] at e
    obtain ⟨v, h1, h2⟩ := h.get (i := j) (by simpa using e)
    exact ⟨v, by simpa using h1, h2⟩
theorem s_ix {K : PySem.W.Frag} : OpS K (rIx K) dIx := by
  intro d1 d2 d3 x y P B F0 H F δ σ τ Q q e h1 h2 k
  unfold dIx at q
  split at q
  · cases h2
    cases h1 with
    | lst hs hl =>
      obtain ⟨v, a1, a2⟩ := hl.atI q
      exact .inl ⟨_, _, _, v, rfl, rfl, SqL.of (e.sf _ _ hs), a1, k v H F (e.push a2)⟩
  · cases h2
    cases h1 with
    | tup hs hl =>
      obtain ⟨v, a1, a2⟩ := hl.atI q
      exact .inr (.inl ⟨_, _, _, v, rfl, rfl, Same.seqT e.sf hs, a1, k v H F (e.push a2)⟩)
  · cases h2
    cases h1
    split at q
    · rename_i hz
      rw [Option.map_eq_some_iff] at q
      obtain ⟨c, a1, rfl⟩ := q
      exact .inr (.inr ⟨_, _, c, rfl, rfl, lim_ok hz, a1, k _ H F (e.push (.str _))⟩)
    · cases q
  · cases q
section
variable {X : Cx} {W : WX} {a b : Expr} {pos : Pos} {ga gb : M D}
theorem de_item (ha : DE X W a ga) (hb : DE X W b gb) (hs : PlainIx b := by exact fun _ _ => rfl) : DE X W (.Subscript a b pos) (eBin dIx ga gb) := de_ix ix_seq s_ix ha hb hs
end
def pyD (d : D) : PyData := d.py.getD .none
end PL
set_option Elab.async false
set_option linter.all false
set_option maxRecDepth 100000
namespace PL
open PySem PySem.Spec PyProof.Rows L2 LamX
variable [Tbls]
theorem room64 {k : Nat} {A : Around} (r : Room k A) : A.units + 64 < cLine := by have := r.un; omega
/-- a def that stands under its name -/
structure FnG (P : Program) (w : World) (K : PySem.W.Frag) (mg : Mg) (base : Heap) (nm : Str) (lev n : Nat) (ps : List Str) (m : List D → RR) : Prop where
  ex : ∃ (f : Addr) (fd : FuncData), FnOk P w K mg base (L2.CX P w) lev f fd ps (spD K mg n m) ∧ mg nm = some (.ref f) ∧ PySem.W.keepIn K (.ref f) = true ∧ Binds K fd ps []
section
variable {X : Cx} {W : WX} {lev k : Nat} {ps : List Str} {x : Str} {p pos : Pos} {a : Expr} {es : List Expr}
theorem de_callG {m : List D → RR} {gs : M (List D)} {n : Nat} (G : FnG X.prog X.w X.K X.mg X.base x lev n ps m) (tk : Takes X W) (hr : Room k X.A) (hlk : lev ≤ k) (hg : Gl X x)
    (ha : DA X W (a :: es) gs) (hdb : (x == ("__debug__" : Str)) = false := by decide) (he : starEach (a :: es) X.env = (false, eval a X.env) :: starEach es X.env := by rfl) (hpl : (backTo pos (starEach es X.env)).any (·.1) = false := by rfl) :
    DE X W (.Call (.Name x p) (a :: es) [] pos) (M.bind gs (callN n m)) := by
  obtain ⟨f, fd, h1, h2, h3, h4⟩ := G.ex
  exact de_call n h1 tk (hr.mono hlk) hg h2 h3 h4 ha hdb he hpl
theorem ds_raiseG {nm f : Str} {gs : M (List D)} {pos2 : Pos} (G : ∃ C, XCls X.prog X.w X.K X.mg X.base nm f C) (hc : X.calm = true) (tk : Takes X W) (hr : Room k X.A) (hk : 2 ≤ k) (ha : DA X W (a :: es) gs) (hg : Gl X nm := by rfl)
    (hdb : (nm == ("__debug__" : Str)) = false := by decide) (he : starEach (a :: es) X.env = (false, eval a X.env) :: starEach es X.env := by rfl) (hpl : (backTo pos (starEach es X.env)).any (·.1) = false := by rfl) :
    DS X W (.Raise (some (.Call (.Name nm p) (a :: es) [] pos)) none pos2) (sRaise1 nm f gs) := by
  obtain ⟨C, G⟩ := G
  exact ds_raise1 G hc tk (hr.mono hk) ha hg hdb he hpl
end
end PL
set_option Elab.async false
set_option linter.all false
set_option maxRecDepth 100000
namespace PL
open PySem PySem.Spec PyProof.Rows L2 LamX
variable [Tbls]
def eTab (t : List (Str × D)) (gb : M D) : M D := M.bind gb fun d => opt (match d with
  | .str x => t.lookup x
  | _ => none)
def sOwn (i : Nat) (gs : M (List D)) : S := M.bind gs fun ds δ => if ds.length ≤ LIM ∧ i < δ.length then .ok .nx (δ.set i (.ow (.lst ds))) else .bad
section
variable {X : Cx} {W : WX} {i : Nat} {x : Str} {es : List Expr} {gs : M (List D)} {pos pos' pl : Pos}
theorem EO.storeOw {K : PySem.W.Frag} {P B F0 H F : Hp} {δ : En} {σ : L2.St} {τ : List (D × V)} {L : Addr} {ds : List D} {vs : List V} (e : EO K P B F0 H F δ σ τ) (hi : i < σ.length) (hP : P L = none) (hF : F L = none) (hH : H L = some (HO.lst vs)) (hl : HasL K F ds vs)
    (hn : ∀ (j : Nat), ((∃ l', δ[j]? = some (Sl.ow l')) ∨ ∃ l', δ[j]? = some (Sl.io l')) → σ[j]? ≠ some (some (V.ref L))) : EO K P B F0 H F (δ.set i (.ow (.lst ds))) (σ.set i (some (V.ref L))) τ :=
  e.storeSl hi (fun d h => nomatch h) (fun l h => by cases h; exact ⟨L, _, rfl, hP, hF, hH, hl, hn⟩) (fun l h => nomatch h)
theorem EO.noown {K : PySem.W.Frag} {P B F0 H F : Hp} {δ : En} {σ : L2.St} {τ : List (D × V)} {L : Addr} (e : EO K P B F0 H F δ σ τ) (hL : H L = none) (j : Nat) (h : (∃ l', δ[j]? = some (Sl.ow l')) ∨ ∃ l', δ[j]? = some (Sl.io l')) : σ[j]? ≠ some (some (V.ref L)) := fun z => by
  rcases h with ⟨l, h⟩ | ⟨l, h⟩
  · obtain ⟨a, vs, h1, _, _, h4, _⟩ := e.ow j l h
    rw [z] at h1; cases h1
    rw [hL] at h4; cases h4
  · obtain ⟨a, vs, h1, _, _, h4, _⟩ := e.io j l h
    rw [z] at h1; cases h1
    rw [hL] at h4; cases h4
theorem ds_own (hN : X.N.Nodup) (hi : X.N[i]? = some x) (hx : Loc X.env.scope x) (hs : DA X W es gs) (hsw : swapsWith (.List es pl) (some (.Name x pos')) pos.line X.env = pure false := by rfl) (hf : X.fn x = true ∨ X.env.scope.names.lookup x = some .local := by first | exact .inl rfl | exact .inr rfl | assumption) :
    DS X W (.Assign [.Name x pos'] (.List es pl) pos) (sOwn i gs) := by
  refine PS.imp (ps_set hN hi hx (pe_lst hs) hsw hf) fun Dn σ H ⟨P, B, F0, F, δ, τ, e, p⟩ => ?_
  refine seqLS e p fun ds vs H1 F1 δ1 e1 hl p1 => ?_
  have hp : ∀ {r : Prop}, (ds.length ≤ LIM ∧ i < δ1.length → PostS X.K X.mg W P B F0 τ (.ok .nx (δ1.set i (.ow (.lst ds)))) Dn → r) → r := fun {r} k => by
    by_cases hc : ds.length ≤ LIM ∧ i < δ1.length
    · rw [if_pos hc] at p1; exact k hc p1
    · rw [if_neg hc] at p1; exact p1.elim
  refine hp fun hc p2 => ?_
  refine ⟨lim_ok (by rw [← hl.length]; exact hc.1), fun L hL => ?_⟩
  have e2 := e1.allocU (o := .lst vs) hL
  exact p2 _ _ F1 (e2.storeOw (by rw [← e1.len]; exact hc.2) (e1.dm L hL) (e1.fresh hL) upd_same hl fun j h => e1.noown hL j h)
def sComp (i : Nat) (gi : M (List D)) (bd : Bd) (gt : M Bool) (ge : M D) (vl : List Nat) : S := M.bind (mComp gi bd gt ge vl) fun l δ => if i < δ.length then .ok .nx (δ.set i (.ow (.lst l))) else .bad
theorem loopC_err {bd : Bd} {gt : M Bool} {ge : M D} {vl : List Nat} : ∀ (ds acc : List D) (δ : En) (x : Exn) (δ2 : En), loopC bd gt ge vl ds acc δ ≠ .err x δ2 := by
  intro ds
  induction ds with
  | nil => intro acc δ x δ2 z; cases z
  | cons d ds ih =>
    intro acc δ x δ2 z
    unfold loopC at z
    split at z
    · cases z
    · split at z
      · exact ih _ _ _ _ z
      · split at z
        · split at z
          · exact ih _ _ _ _ z
          · cases z
        · cases z
      · cases z
theorem ds_comp {y : Str} {py : Pos} {elt tg iter : Expr} {ifs : List Expr} {scope : Scope} {own : List (Str × Nat)} {gi : M (List D)} {bd : Bd} {gt : M Bool} {ge : M D} {spos : Pos}
    (hy : X.N[i]? = some y) (hyl : X.env.scope.names.lookup y = some .local) (hsw : swapsWith (.ListComp elt [⟨tg, iter, ifs, 0⟩] scope pos) (some (.Name y py)) spos.line X.env = pure true)
    (hc : X.calm = true) (hN : X.N.Nodup) (hi : DI X W tg iter gi) (ok : BlkOk X.N X.env.scope scope own)
    (hg : ∀ (s : Shared) (H : Hp) (C : Addr) (cl : List (Str × Addr)) (fp : List Addr), DG (X.blk s H scope (compEnvC scope cl C X.env) fp) (own.map (·.2)) tg bd) (ht : ∀ (s : Shared) (H : Hp) (C : Addr) (cl : List (Str × Addr)) (fp : List Addr), DTs (X.blk s H scope (compEnvC scope cl C X.env) fp) W0 ifs gt)
    (he : ∀ (s : Shared) (H : Hp) (C : Addr) (cl : List (Str × Addr)) (fp : List Addr), DE (X.blk s H scope (compEnvC scope cl C X.env) fp) W0 elt ge) (hs : ∀ x, foldedSetIterable iter X.env x = pure x := by intro _; rfl) :
    DS X W (.Assign [.Name y py] (.ListComp elt [⟨tg, iter, ifs, 0⟩] scope pos) spos) (sComp i gi bd gt ge (own.map (·.2))) := by
  refine PS.imp (ps_setLc (g := tGt X.K (own.map (·.2)) bd) (tt := tT X.K X.mg W0 gt) (te := tE X.K X.mg W0 ge) hc hN hy hyl hsw hi ok hg ht he hs) fun Dn σ H ⟨P, B, F0, F, δ, τ, e, p⟩ => ?_
  unfold sComp mComp M.bind at p
  refine comp_read (W0 := W0) e (fun q => ?_) (fun x δ' q => ?_) fun ds δ' q => ?_
  · rw [q] at p; exact p
  · rw [q] at p; exact fun cls dx H' F' e' z => p cls dx σ H' F' e' z
  · rw [q] at p
    dsimp only at p
    cases q2 : loopC bd gt ge (own.map (·.2)) ds [] (wipeD δ' (own.map (·.2))) with
    | bad => rw [q2] at p; exact p
    | err x δ2 => exact absurd q2 (loopC_err _ _ _ _ _)
    | ok acc δ2 =>
      rw [q2] at p
      dsimp only at p
      intro L accV H' F' pL hL fL hn e' hl
      by_cases hc : i < δ2.length
      · rw [if_pos hc] at p
        exact p _ _ F' (e'.storeOw (by rw [← e'.len]; exact hc) pL fL hL hl fun j h z => hn j L h z rfl)
      · rw [if_neg hc] at p; exact p.elim
end
end PL
set_option Elab.async false
set_option linter.all false
set_option maxRecDepth 100000
namespace PL
open PySem PySem.Spec PyProof.Rows L2 LamX
end PL
set_option Elab.async false
set_option linter.all false
set_option maxRecDepth 100000
namespace PL
open PySem PySem.Spec PyProof.Rows L2 LamX
variable [Tbls]
section
variable {K : PySem.W.Frag} {P B F0 H F H' F' : Hp} {δ : En} {σ : L2.St} {τ : List (D × V)} {a : Addr} {h' : HO} {o o' : MO} {i : Nat}
def ownD (δ : En) (i : Nat) : Option MO := match δ[i]? with
  | some (.ow o) => some o
  | some (.io o) => some o
  | _ => none
def putD (δ : En) (i : Nat) (o : MO) : En := match δ[i]? with
  | some (.ow _) => δ.set i (.ow o)
  | some (.io _) => δ.set i (.io o)
  | _ => δ
theorem own_at (e : EO K P B F0 H F δ σ τ) (ho : ownD δ i = some o) : ∃ a h, σ[i]? = some (some (V.ref a)) ∧ F a = none ∧ B a = none ∧ H a = some h ∧ MOk K F o h := by
  unfold ownD at ho
  split at ho
  · rename_i q
    cases ho
    obtain ⟨a, h, h1, h2, h3, h4, h5⟩ := e.ow i _ q
    exact ⟨a, h, h1, h3, e.bp a h2, h4, h5⟩
  · rename_i q
    cases ho
    obtain ⟨a, h, h1, h2, h3, h4, h5⟩ := e.io i _ q
    exact ⟨a, h, h1, h3, h2.1, h4, h5⟩
  · cases ho
/-- the object of slot i is another one now, all else stands -/
theorem EO.mutate (e : EO K P B F0 H F δ σ τ) (ho : ownD δ i = some o) (hs : σ[i]? = some (some (V.ref a))) (hk : ∀ b u, b ≠ a → noT H b = some u → H' b = some u) (ht : TB H') (hf : Same F F') (hfh : Same F' H') (hnt : NT F') (hn : ∀ b, F b = none → F' b ≠ none → noT H b = none) (ha : H' a = some h') (hm : MOk K F' o' h') :
    EO K P B F0 H' F' (putD δ i o') σ τ := by
  obtain ⟨a', h, h1, h2, h3, h4, h5⟩ := own_at e ho
  rw [hs] at h1
  cases h1
  have fa : F' a = none := by
    cases z : F' a with
    | none => rfl
    | some u =>
      have := hn a h2 (by rw [z]; exact fun y => nomatch y)
      rw [noT_some.mpr ⟨h4, h5.kp⟩] at this; cases this
  have hi := (List.getElem?_eq_some_iff.mp hs).1
  have hiδ : i < δ.length := by rw [e.len]; exact hi
  have isown : (∃ l, δ[i]? = some (Sl.ow l)) ∨ ∃ l, δ[i]? = some (Sl.io l) := by
    unfold ownD at ho
    split at ho
    · rename_i q; exact .inl ⟨_, q⟩
    · rename_i q; exact .inr ⟨_, q⟩
    · cases ho
  have put_ne : ∀ {j : Nat}, j ≠ i → (putD δ i o')[j]? = δ[j]? := fun {j} hj => by
    unfold putD
    split
    · exact List.getElem?_set_ne (Ne.symm hj)
    · exact List.getElem?_set_ne (Ne.symm hj)
    · rfl
  have put_eq : (∃ l, δ[i]? = some (Sl.ow l) ∧ (putD δ i o')[i]? = some (Sl.ow o')) ∨ ∃ l, δ[i]? = some (Sl.io l) ∧ (putD δ i o')[i]? = some (Sl.io o') := by
    rcases isown with ⟨l, q⟩ | ⟨l, q⟩
    · refine .inl ⟨l, q, ?_⟩
      unfold putD
      rw [q]
      exact List.getElem?_set_self hiδ
    · refine .inr ⟨l, q, ?_⟩
      unfold putD
      rw [q]
      exact List.getElem?_set_self hiδ
  have other : ∀ {j : Nat} {m : MO} {b : Addr}, (δ[j]? = some (Sl.ow m) ∨ δ[j]? = some (Sl.io m)) → j ≠ i → σ[j]? = some (some (V.ref b)) → b ≠ a := fun {j m b} q hj hb z => by
    subst z
    exact hj (e.ap j i b (q.elim (fun y => .inl ⟨m, y⟩) fun y => .inr ⟨m, y⟩) isown hb hs)
  refine { dm' := fun b q => ?_, bp := e.bp, sb := fun b u q => ?_, sf := hfh, s0 := e.s0.trans hf, nw := fun b q1 q2 => ?_, len := ?_, im := fun j d q => ?_, ow := fun j m q => ?_, io := fun j m q => ?_, ap := fun j k b q1 q2 q3 q4 => ?_, tm := fun p q => (e.tm p q).mono hf, nt := hnt, bt := e.bt, tb := ht }
  · by_cases z : b = a
    · subst z; rw [noT_some.mpr ⟨ha, hm.kp⟩] at q; cases q
    · cases z2 : noT H b with
      | none => exact e.dm' b z2
      | some u => rw [noT_some.mpr ⟨hk b u z z2, (noT_some.mp z2).2⟩] at q; cases q
  · have z : b ≠ a := fun z => by subst z; rw [h3] at q; cases q
    exact hk b u z (noT_some.mpr ⟨e.sb b u q, e.bt b u q⟩)
  · by_cases q : F b = none
    · exact e.dm' b (hn b q q2)
    · exact e.nw b q1 q
  · rw [← e.len]
    unfold putD
    split <;> simp
  · by_cases hj : j = i
    · subst hj
      rcases put_eq with ⟨l, _, q2⟩ | ⟨l, _, q2⟩ <;> rw [q2] at q <;> cases q
    · rw [put_ne hj] at q
      obtain ⟨v, y1, y2⟩ := e.im j d q
      exact ⟨v, y1, y2.mono hf⟩
  · by_cases hj : j = i
    · subst hj
      rcases put_eq with ⟨l, q1, q2⟩ | ⟨l, _, q2⟩
      · rw [q2] at q
        cases q
        obtain ⟨b, ws, y1, y2, _⟩ := e.ow j l q1
        rw [hs] at y1
        cases y1
        exact ⟨a, h', hs, y2, fa, ha, hm⟩
      · rw [q2] at q; cases q
    · rw [put_ne hj] at q
      obtain ⟨b, ws, y1, y2, y3, y4, y5⟩ := e.ow j m q
      have nb := other (.inl q) hj y1
      have y6 := noT_some.mpr ⟨y4, y5.kp⟩
      refine ⟨b, ws, y1, y2, ?_, hk b ws nb y6, y5.mono hf⟩
      cases z : F' b with
      | none => rfl
      | some u =>
        have := hn b y3 (by rw [z]; exact fun y => nomatch y)
        rw [y6] at this; cases this
  · by_cases hj : j = i
    · subst hj
      rcases put_eq with ⟨l, _, q2⟩ | ⟨l, q1, q2⟩
      · rw [q2] at q; cases q
      · rw [q2] at q
        cases q
        obtain ⟨b, ws, y1, y2, _⟩ := e.io j l q1
        rw [hs] at y1
        cases y1
        exact ⟨a, h', hs, y2, fa, ha, hm⟩
    · rw [put_ne hj] at q
      obtain ⟨b, ws, y1, y2, y3, y4, y5⟩ := e.io j m q
      have nb := other (.inr q) hj y1
      have y6 := noT_some.mpr ⟨y4, y5.kp⟩
      refine ⟨b, ws, y1, y2, ?_, hk b ws nb y6, y5.mono hf⟩
      cases z : F' b with
      | none => rfl
      | some u =>
        have := hn b y3 (by rw [z]; exact fun y => nomatch y)
        rw [y6] at this; cases this
  · have un : ∀ {j : Nat}, ((∃ l, (putD δ i o')[j]? = some (Sl.ow l)) ∨ ∃ l, (putD δ i o')[j]? = some (Sl.io l)) → (∃ l, δ[j]? = some (Sl.ow l)) ∨ ∃ l, δ[j]? = some (Sl.io l) := fun {j} y => by
      by_cases hj : j = i
      · subst hj; exact isown
      · rw [put_ne hj] at y; exact y
    exact e.ap j k b (un q1) (un q2) q3 q4
/-- .. by a store alone -/
theorem EO.update (e : EO K P B F0 H F δ σ τ) (ho : ownD δ i = some o) (hs : σ[i]? = some (some (V.ref a))) (hm : MOk K F o' h') : EO K P B F0 (upd H a h') F (putD δ i o') σ τ := by
  obtain ⟨a', h, h1, h2, h3, h4, h5⟩ := own_at e ho
  rw [hs] at h1
  cases h1
  refine e.mutate ho hs (fun b u hb q => by rw [upd_ne hb]; exact (noT_some.mp q).1) (tb_upd e.tb h4 h5.ntbl h5.ncode) (Same.refl _) (fun b u q => ?_) e.nt (fun b q1 q2 => absurd q1 q2) upd_same hm
  have z : b ≠ a := fun z => by subst z; rw [h2] at q; cases q
  rw [upd_ne z]
  exact e.sf b u q
end
/-- a change of what slot i owns by the values of the arguments -/
def sMut (i : Nat) (f : MO → List D → Option MO) (ok0 : MO → Bool) (gs : M (List D)) : S := fun δ => match ownD δ i with
  | some o => if ok0 o then M.bind gs (fun ds δ1 => match ownD δ1 i with
    | some o1 => match f o1 ds with
      | some o2 => .ok .nx (putD δ1 i o2)
      | none => .bad
    | none => .bad) δ else .bad
  | none => .bad
def isL : MO → Bool
  | .lst _ => true
  | _ => false
def fApp : MO → List D → Option MO
  | .lst l, [d] => if l.length < LIM then some (.lst (l ++ [d])) else none
  | _, _ => none
def fPop : MO → List D → Option MO
  | .lst (_ :: l), [.int 0] => some (.lst l)
  | _, _ => none
section
variable {X : Cx} {W : WX} {i : Nat} {x : Str} {a b : Expr} {ga gb : M D} {p1 p2 p3 p4 pos : Pos} {gs : M (List D)} {es : List Expr}
theorem mut_read {K : PySem.W.Frag} {mg : Mg} {f : MO → List D → Option MO} {r : V → List V → Hp → VK → Prop} {Dn : Ends} {σ : L2.St} {H : Hp}
    (hf : ∀ {o o2 : MO} {h : HO} {ds : List D} {vs : List V} {F H : Hp} {aa : Addr} {Q : VK}, f o ds = some o2 → MOk K F o h → HasL K F ds vs → Same F H → H aa = some h → (∀ v h', MOk K F o2 h' → Q v (upd H aa h')) → r (V.ref aa) vs H Q)
    (h : tS K mg W (sMut i f isL gs) Dn σ H) : tBM K "list" r (tVar i) (tL K mg W gs) σ H fun _ H1 => Dn.nx σ H1 := by
  obtain ⟨P, B, F0, F, δ, τ, e, p⟩ := h
  unfold sMut at p
  split at p
  · rename_i o ho
    split at p
    · rename_i hl
      obtain ⟨aa, h, h1, h2, h3, h4, h5⟩ := own_at e ho
      refine ⟨_, h1, ?_, seqLS e p fun ds vs H1 F1 δ1 e1 hl1 p1 => ?_⟩
      · cases o with
        | lst l => cases h <;> first | exact .inl ⟨rfl, _, SqL.of h4⟩ | exact h5.elim
        | dk l => cases hl
        | dt l => cases hl
        | obj _ _ => cases hl
      · split at p1
        · rename_i o1 ho1
          split at p1
          · rename_i o2 hf2
            obtain ⟨ab, hb, k1, k2, k3, k4, k5⟩ := own_at e1 ho1
            rw [h1] at k1
            cases k1
            exact hf hf2 k5 hl1 e1.sf k4 fun v h' hm => p1 σ _ F1 (e1.update ho1 h1 hm)
          · exact p1.elim
        · exact p1.elim
    · exact p.elim
  · exact p.elim
theorem ds_app (hv : PE X (.Name x p1) (tVar i)) (ha : DA X W (a :: es) gs)
    (hbase : attributeBase (.Name x p1) "append" X.env (eval (.Name x p1) X.env) = eval (.Name x p1) X.env := by rfl)
    (hfew : ((backTo p3 (starEach (a :: es) X.env)).all (fun x => !x.1) && (backToKw p3 (keywordEach [] X.env)).all (fun x => x.1.isSome)
      && decide ((a :: es).length + ([] : List Keyword).length + (if ([] : List Keyword).isEmpty then 0 else 1) < 30)) = true := by rfl)
    (hline : (p2.endLine == p3.line) = true := by rfl) (hst : starEach (a :: es) X.env = (false, eval a X.env) :: starEach es X.env := by rfl) (hplain : (backTo p3 (starEach es X.env)).any (·.1) = false := by rfl)
    (hs : swapsWith (.Call (.Attribute (.Name x p1) "append" p2) (a :: es) [] p3) none p4.line X.env = pure false := by rfl) :
    DS X W (.Expr (.Call (.Attribute (.Name x p1) "append" p2) (a :: es) [] p3) p4) (sMut i fApp isL gs) :=
  PS.imp (ps_expr (pe_bm PySem.F.plainAttrs_list PySem.F.slot_list_append PySem.F.type_list_append (r := rAppend) mt_append hv ha hbase hfew hline hst hplain) hs) fun Dn σ H h => mut_read (f := fApp) (fun {o o2 h ds vs F H aa Q} q m hl sf hH k => by
    unfold fApp at q
    split at q
    · rename_i l d
      split at q
      · rename_i hlim
        cases q
        cases h with
        | lst ws =>
          cases hl with
          | cons g1 g2 =>
            cases g2
            have m' : HasL X.K F l ws := m
            exact ⟨aa, ws, _, rfl, rfl, hH, lim_lt (by rw [← m'.length]; exact hlim), k _ (.lst _) (m'.append (.cons g1 .nil))⟩
        | _ => exact m.elim
      · cases q
    · cases q) h
theorem ds_pop (hv : PE X (.Name x p1) (tVar i)) (ha : DA X W (a :: es) gs)
    (hbase : attributeBase (.Name x p1) "pop" X.env (eval (.Name x p1) X.env) = eval (.Name x p1) X.env := by rfl)
    (hfew : ((backTo p3 (starEach (a :: es) X.env)).all (fun x => !x.1) && (backToKw p3 (keywordEach [] X.env)).all (fun x => x.1.isSome)
      && decide ((a :: es).length + ([] : List Keyword).length + (if ([] : List Keyword).isEmpty then 0 else 1) < 30)) = true := by rfl)
    (hline : (p2.endLine == p3.line) = true := by rfl) (hst : starEach (a :: es) X.env = (false, eval a X.env) :: starEach es X.env := by rfl) (hplain : (backTo p3 (starEach es X.env)).any (·.1) = false := by rfl)
    (hs : swapsWith (.Call (.Attribute (.Name x p1) "pop" p2) (a :: es) [] p3) none p4.line X.env = pure false := by rfl) :
    DS X W (.Expr (.Call (.Attribute (.Name x p1) "pop" p2) (a :: es) [] p3) p4) (sMut i fPop isL gs) :=
  PS.imp (ps_expr (pe_bm PySem.F.plainAttrs_list PySem.F.slot_list_pop PySem.F.type_list_pop (r := rPopAt) mt_popAt hv ha hbase hfew hline hst hplain) hs) fun Dn σ H h => mut_read (f := fPop) (fun {o o2 h ds vs F H aa Q} q m hl sf hH k => by
    unfold fPop at q
    split at q
    · rename_i d l
      cases q
      cases h with
      | lst ws =>
        cases hl with
        | cons g1 g2 =>
          cases g2
          cases g1
          have m' : HasL X.K F (d :: l) ws := m
          cases m' with
          | @cons _ v _ ws m1 m2 => exact ⟨aa, v :: ws, 0, 0, v, rfl, rfl, hH, by decide, by decide, by unfold seqIndex?; simp, rfl, k _ (.lst ws) m2⟩
      | _ => exact m.elim
    · cases q) h
/-- x[j] = e -/
def fSetI (l : List D) (j : D) (d : D) : Option (List D) := match j with
  | .int k => (ixN l.length k).map fun n => l.set n d
  | _ => none
def sSetI (i : Nat) (ga gb : M D) : S := M.bind ga fun d δ => match ownD δ i with
  | some _ => M.bind gb (fun j δ1 => match ownD δ1 i with
    | some (.lst l) => match fSetI l j d with
      | some l' => .ok .nx (putD δ1 i (.lst l'))
      | none => .bad
    | _ => .bad) δ
  | none => .bad
theorem ds_setI {e : Expr} {gx : M D} (hv : PE X (.Name x p1) (tVar i)) (hj : DE X W b gb) (he : DE X W e gx)
    (hsub : ∀ v, assign (.Subscript (.Name x p1) b p2) X.env v = (do
      let ov ← holding [v] (eval (.Name x p1) X.env)
      let iv ← holding [v, ov] (eval b X.env)
      standAt p2
      holding [v, ov, iv] (setItem ov iv v)
      release [v, ov, iv] []) := by intro _; rfl)
    (hs : swapsWithSole [.Subscript (.Name x p1) b p2] e pos.line X.env = pure false := by rfl) (hw : swappedStores [.Subscript (.Name x p1) b p2] e X.env = pure none := by rfl)
    (h1 : (assignEach [.Subscript (.Name x p1) b p2] X.env).map (·.2) = [assign (.Subscript (.Name x p1) b p2) X.env] := by rfl) :
    DS X W (.Assign [.Subscript (.Name x p1) b p2] e pos) (sSetI i gx gb) := by
  refine PS.imp (ps_asg he (pg_sub hv hj set_list hsub) hs hw h1) fun Dn σ H ⟨P, B, F0, F, δ, τ, e, p⟩ => ?_
  refine seqES e p fun d v H1 F1 δ1 e1 p1 => ?_
  split at p1
  · rename_i o ho
    obtain ⟨aa, h, a1, a2, a3, a4, a5⟩ := own_at e1 ho
    refine ⟨_, a1, ?_⟩
    refine seqES e1 (τ := (d, v) :: τ) (Dn := Dn) (k := fun j δ1 => match ownD δ1 i with
      | some (.lst l) => match fSetI l j d with
        | some l' => .ok .nx (putD δ1 i (.lst l'))
        | none => .bad
      | _ => .bad) ?_ fun dj vj H2 F2 δ2 e2 p2 => ?_
    · unfold PostS at p1 ⊢
      split
      · rename_i q; rw [q] at p1; exact fun σ' H' F' e' => p1 σ' H' F' e'.pop
      · rename_i q; rw [q] at p1; exact fun w σ' H' F' e' => p1 w σ' H' F' (e'.sub fun z hz => by
          rcases List.mem_cons.mp hz with h | h
          · rw [h]; exact List.mem_cons_self
          · exact List.mem_cons_of_mem _ (List.mem_cons_of_mem _ h))
      · rename_i q; rw [q] at p1; exact fun σ' H' F' e' => p1 σ' H' F' e'.pop
      · rename_i q; rw [q] at p1; exact fun σ' H' F' e' => p1 σ' H' F' e'.pop
      · rename_i q; rw [q] at p1; exact fun cls dx σ' H' F' e' z => p1 cls dx σ' H' F' e'.pop z
      · rename_i q; rw [q] at p1; exact p1
    · split at p2
      · rename_i l ho2
        split at p2
        · rename_i l' q
          unfold fSetI at q
          split at q
          · rename_i k
            rw [Option.map_eq_some_iff] at q
            obtain ⟨n, q1, rfl⟩ := q
            obtain ⟨ab, hb, k1, k2, k3, k4, k5⟩ := own_at e2 ho2
            rw [a1] at k1
            cases k1
            cases e2.top
            cases hb with
            | lst ws =>
              have m' : HasL X.K F2 l ws := k5
              exact ⟨aa, ws, k, n, rfl, rfl, k4, by rw [← m'.length]; exact q1, p2 σ _ F2 ((e2.update (o' := .lst (l.set n d)) ho2 a1 (h' := .lst (ws.set n v)) (m'.set n e2.pop.top)).pop)⟩
            | _ => exact k5.elim
          · cases q
        · exact p2.elim
      · exact p2.elim
  · exact p1.elim
/-- x op e, x an owner or not -/
def nowD (δ : En) (i : Nat) : Option D := match δ[i]? with
  | some (.im d) => some d
  | some (.ow o) => some o.d
  | some (.io o) => some o.d
  | _ => none
theorem now_at {K : PySem.W.Frag} {P B F0 H F : Hp} {δ : En} {σ : L2.St} {τ : List (D × V)} {d : D} (e : EO K P B F0 H F δ σ τ) (h : nowD δ i = some d) : ∃ v G, σ[i]? = some (some v) ∧ Same F G ∧ Same G H ∧ Has K G d v := by
  unfold nowD at h
  split at h
  · rename_i q
    cases h
    obtain ⟨v, h1, h2⟩ := e.im i _ q
    exact ⟨v, F, h1, Same.refl _, e.sf, h2⟩
  · rename_i o q
    cases h
    obtain ⟨a, h, h1, h2, h3, h4, h5⟩ := e.ow i _ q
    refine ⟨_, upd F a h, h1, same_new h3, fun b u q => ?_, (h5.mono (same_new h3)).has upd_same⟩
    by_cases z : b = a
    · subst z; rw [upd_same] at q; rw [h4]; exact q
    · rw [upd_ne z] at q; exact e.sf b u q
  · rename_i o q
    cases h
    obtain ⟨a, h, h1, h2, h3, h4, h5⟩ := e.io i _ q
    refine ⟨_, upd F a h, h1, same_new h3, fun b u q => ?_, (h5.mono (same_new h3)).has upd_same⟩
    by_cases z : b = a
    · subst z; rw [upd_same] at q; rw [h4]; exact q
    · rw [upd_ne z] at q; exact e.sf b u q
  · cases h
/-- an operator whose answer is flat: it may look at anything -/
def OpF (K : PySem.W.Frag) (r : R2) (f : D → D → Option D) : Prop := ∀ {d1 d2 d3 : D} {x y : V} {G H : Hp} {Q : VK}, f d1 d2 = some d3 → Same G H → Has K G d1 x → Has K G d2 y → (∀ v, (∀ F, Has K F d3 v) → Q v H) → r x y H Q
theorem f_eq {K : PySem.W.Frag} : OpF K (rEqD K) dEq := by
  intro d1 d2 d3 x y G H Q q sf h1 h2 k
  unfold dEq at q
  split at q
  · rename_i c hc
    cases q
    obtain ⟨u, w, e1, e2, s1, s2, rfl⟩ := dEqB_some hc
    exact ⟨u, w, (h1.mono sf).dp e1, (h2.mono sf).dp e2, s1, s2, k _ fun _ => .bl _⟩
  · cases q
def eBinN (f : D → D → Option D) (i : Nat) (gb : M D) : M D := fun δ => match nowD δ i with
  | some _ => M.bind gb (fun b δ1 => match nowD δ1 i with
    | some a => opt (f a b) δ1
    | none => .bad) δ
  | none => .bad
theorem tOpN_of {K : PySem.W.Frag} {mg : Mg} {r : R2} {f : D → D → Option D} (hf : OpF K r f) {σ : L2.St} {H : Hp} {Q : VK} (h : tE K mg W (eBinN f i gb) σ H Q) : tOp r (tVar i) (tE K mg W gb) σ H Q := by
  obtain ⟨P, B, F0, F, δ, τ, e, p⟩ := h
  unfold eBinN at p
  split at p
  · rename_i d0 h0
    obtain ⟨v, G, h1, _⟩ := now_at e h0
    refine ⟨v, h1, seqE e p fun d2 y H2 F2 δ2 e2 p2 => ?_⟩
    split at p2
    · rename_i a ha
      unfold opt at p2
      split at p2
      · rename_i d3 q
        obtain ⟨v', G', k1, k2, k3, k4⟩ := now_at e2 ha
        rw [h1] at k1
        cases k1
        exact hf q k3 k4 (e2.top.mono k2) fun w hw => p2 w H2 F2 (e2.pop.push (hw F2))
      · exact p2.elim
    · exact p2.elim
  · exact p.elim
theorem dt_cmpN {op : CmpOp} {r : R2} {f : D → D → Option D} {px : Pos} (ho : OpR X (compareOp op) r) (hf : OpF X.K r f) (hv : PE X (.Name x px) (tVar i)) (hb : DE X W b gb) (hm : behindInMarks op b = false) : DT X W (.Compare (.Name x px) [op] [b] pos) (asB (eBinN f i gb)) := by
  refine PT.imp (pt_cmpR ho hv hb hm) fun σ H Q ⟨P, B, F0, F, δ, τ, e, p⟩ => ?_
  show tOp r _ _ σ H _
  refine tOpN_of (W := W) hf ?_
  refine seqEB e p fun d v H1 F1 δ1 e1 p1 => ?_
  split at p1
  · rename_i b
    cases e1.top
    exact ⟨b, rfl, p1 H1 F1 e1.pop⟩
  · exact p1.elim
/-- x[e], x an owner or not: the item -/
def eItemN (i : Nat) (gb : M D) : M D := fun δ => match nowD δ i with
  | some _ => M.bind gb (fun b δ1 => match nowD δ1 i with
    | some a => opt (dIx a b) δ1
    | none => .bad) δ
  | none => .bad
/-- .. its items are in F even where it is not -/
theorem item_at {K : PySem.W.Frag} {P B F0 H F : Hp} {δ : En} {σ : L2.St} {τ : List (D × V)} {d d2 d3 : D} {y : V} {Q : VK} (e : EO K P B F0 H F δ σ τ) (h : nowD δ i = some d) (q : dIx d d2 = some d3) (hy : Has K F d2 y) :
    ∃ v, σ[i]? = some (some v) ∧ ((∀ w H' F', EO K P B F0 H' F' δ σ ((d3, w) :: τ) → Q w H') → rIx K v y H Q) := by
  unfold nowD at h
  split at h
  · rename_i q0
    cases h
    obtain ⟨v, h1, h2⟩ := e.im i _ q0
    exact ⟨v, h1, fun k => s_ix q e h2 hy k⟩
  all_goals first
    | (cases h; done)
    | (rename_i o q0
       cases h
       have ho : ownD δ i = some o := by unfold ownD; rw [q0]
       obtain ⟨a, h, h1, h2, h3, h4, h5⟩ := own_at e ho
       refine ⟨_, h1, fun k => ?_⟩
       cases o with
       | lst l =>
         cases h with
         | lst ws =>
           have m' : HasL K F l ws := h5
           have q : dIx (.lst l) d2 = some d3 := q
           cases hy <;> first
             | (cases q; done)
             | (obtain ⟨w, a1, a2⟩ := m'.atI q
                exact .inl ⟨_, _, _, w, rfl, rfl, SqL.of h4, a1, k w H F (e.push a2)⟩)
         | _ => exact h5.elim
       | dk l => exact absurd (show dIx (.dk l) d2 = some d3 from q) (by unfold dIx; exact fun z => nomatch z)
       | dt l => exact absurd (show dIx (.dt l) d2 = some d3 from q) (by unfold dIx; exact fun z => nomatch z)
       | obj n l => exact absurd (show dIx (.obj n l) d2 = some d3 from q) (by unfold dIx; exact fun z => nomatch z))
theorem de_itemN {px : Pos} (hv : PE X (.Name x px) (tVar i)) (hb : DE X W b gb) (hs : PlainIx b := by exact fun _ _ => rfl) : DE X W (.Subscript (.Name x px) b pos) (eItemN i gb) := by
  refine PE.imp (pe_ix ix_seq hv hb hs) fun σ H Q ⟨P, B, F0, F, δ, τ, e, p⟩ => ?_
  unfold eItemN at p
  split at p
  · rename_i d0 h0
    obtain ⟨v, G, h1, _⟩ := now_at e h0
    refine ⟨v, h1, seqE e p fun d2 y H2 F2 δ2 e2 p2 => ?_⟩
    split at p2
    · rename_i a ha
      unfold opt at p2
      split at p2
      · rename_i d3 q
        obtain ⟨v', k1, k2⟩ := item_at (Q := Q) e2 ha q e2.top
        rw [h1] at k1
        cases k1
        exact k2 fun w H' F' e' => p2 w H' F' e'.keep2
      · exact p2.elim
    · exact p2.elim
  · exact p.elim
end
end PL
set_option Elab.async false
set_option linter.all false
set_option maxRecDepth 100000
namespace PL
open PySem PySem.Spec PyProof.Rows L2 LamX
variable [Tbls]
inductive RO where
  | ok (d : D) (o : MO) | bad
structure BehO (F H F' H' : Hp) (a : Addr) : Prop where
  h : ∀ b u, b ≠ a → noT H b = some u → H' b = some u
  t : TB H'
  f : Same F F'
  fh : Same F' H'
  nt : NT F'
  n : ∀ b, F b = none → F' b ≠ none → noT H b = none
def spO (K : PySem.W.Frag) (n : Nat) (m : MO → List D → RO) : Sp := fun vs H Q _ => ∃ (a : Addr) (h : HO) (o : MO) (vs' : List V) (ds : List D) (F : Hp), vs = .ref a :: vs' ∧ ds.length = n ∧ Same F H ∧ NT F ∧ TB H ∧ F a = none ∧ H a = some h ∧ MOk K F o h ∧ HasL K F ds vs' ∧ match m o ds with
  | .ok d o' => ∀ v H' F' h', BehO F H F' H' a → H' a = some h' → MOk K F' o' h' → Has K F' d v → Q v H'
  | .bad => False
def io0 (δ : En) : Option MO := match δ[0]? with
  | some (Sl.io o) => some o
  | _ => none
theorem io0_some {δ : En} {o : MO} (h : io0 δ = some o) : δ[0]? = some (Sl.io o) := by
  unfold io0 at h
  split at h
  · rename_i q; cases h; exact q
  · cases h
def runO (n N : Nat) (g : S) : MO → List D → RO := fun o ds => match g (Sl.io o :: ds.map Sl.im ++ List.replicate (N - (n + 1)) Sl.no) with
  | .ok .nx δ => match io0 δ with
    | some o' => .ok .non o'
    | none => .bad
  | .ok (.ret d) δ => match io0 δ with
    | some o' => .ok d o'
    | none => .bad
  | _ => .bad
theorem EO.startO {K : PySem.W.Frag} {H F : Hp} {ds : List D} {vs : List V} {n m : Nat} {a : Addr} {h : HO} {o : MO} (hl : HasL K F ds vs) (sf : Same F H) (nt : NT F) (tb : TB H) (hn : ds.length = n) (fa : F a = none) (ha : H a = some h) (hm : MOk K F o h) {N : List Str} (hN : N.length = m) :
    EO K (noT H) (fun b => if b = a then none else noT H b) F H F (Sl.io o :: ds.map Sl.im ++ List.replicate (m - (n + 1)) Sl.no) (L2.start N (V.ref a :: vs)) [] := by
  have len := hl.length
  have get : ∀ {i : Nat} {s : Sl}, (Sl.io o :: ds.map Sl.im ++ List.replicate (m - (n + 1)) Sl.no)[i]? = some s → (i = 0 ∧ s = .io o) ∨ (∃ j d, i = j + 1 ∧ ds[j]? = some d ∧ s = .im d) ∨ s = .no := fun {i s} q => by
    cases i with
    | zero => simp at q; exact .inl ⟨rfl, q.symm⟩
    | succ j =>
      simp only [List.cons_append, List.getElem?_cons_succ] at q
      by_cases hi : j < ds.length
      · rw [List.getElem?_append_left (by simpa using hi), List.getElem?_map] at q
        cases z : ds[j]? with
        | none => rw [z] at q; cases q
        | some d => rw [z] at q; cases q; exact .inr (.inl ⟨j, d, rfl, z, rfl⟩)
      · rw [List.getElem?_append_right (by simpa using hi), List.getElem?_replicate] at q
        split at q
        · cases q; exact .inr (.inr rfl)
        · cases q
  have s0 : (L2.start N (V.ref a :: vs))[0]? = some (some (V.ref a)) := by unfold L2.start; simp
  refine ⟨fun a q => q, fun b q => ?_, fun b u q => ?_, sf, Same.refl _, fun a q1 q2 => absurd q1 q2, ?_, fun i d q => ?_, fun i l q => ?_, fun i l q => ?_, fun i j b q1 q2 _ _ => ?_, (fun p q => nomatch q), nt, ?_, tb⟩
  · show (if b = a then none else noT H b) = none
    split
    · rfl
    · exact q
  · have q' : (if b = a then none else noT H b) = some u := q
    split at q'
    · cases q'
    · exact (noT_some.mp q').1
  · unfold L2.start
    simp only [List.cons_append, List.length_cons, List.length_append, List.length_map, List.length_replicate]
    omega
  · rcases get q with ⟨_, z⟩ | ⟨j, d', rfl, e, z⟩ | z
    · cases z
    · cases z
      obtain ⟨v, h1, h2⟩ := hl.get e
      refine ⟨v, ?_, h2⟩
      unfold L2.start
      have hi : j < vs.length := (List.getElem?_eq_some_iff.mp h1).1
      simp only [List.map_cons, List.cons_append, List.getElem?_cons_succ]
      rw [List.getElem?_append_left (by simpa using hi), List.getElem?_map, h1]
      rfl
    · cases z
  · rcases get q with ⟨_, z⟩ | ⟨j, d', rfl, e, z⟩ | z <;> cases z
  · rcases get q with ⟨rfl, z⟩ | ⟨j, d', rfl, e, z⟩ | z
    · cases z
      exact ⟨a, h, s0, ⟨if_pos rfl, by rw [noT_some.mpr ⟨ha, hm.kp⟩]; exact fun y => nomatch y⟩, fa, ha, hm⟩
    · cases z
    · cases z
  · have own0 : ∀ {i : Nat}, ((∃ l, (Sl.io o :: ds.map Sl.im ++ List.replicate (m - (n + 1)) Sl.no)[i]? = some (Sl.ow l)) ∨ ∃ l, (Sl.io o :: ds.map Sl.im ++ List.replicate (m - (n + 1)) Sl.no)[i]? = some (Sl.io l)) → i = 0 := fun {i} q => by
      rcases q with ⟨l, q⟩ | ⟨l, q⟩ <;> rcases get q with ⟨z0, z⟩ | ⟨j, d', _, e, z⟩ | z <;> first | exact z0 | cases z
    rw [own0 q1, own0 q2]
  · intro b u z
    have z' : (if b = a then none else noT H b) = some u := z
    split at z'
    · cases z'
    · exact NB.noT H b u z'
section
variable {P : Program} {w : World} {K : PySem.W.Frag} {mg : Str → Option Value} {base : Heap}
theorem fnO_ok {x qual : Str} {st : Stmt} {f : Addr} {fd : FuncData} {N ps : List Str} {k n m : Nat} {g : S} (F : Fun K x qual st f fd) (Sc : FnScope N ps (defScope st)) (hn : ps.length = n + 1) (hm : N.length = m)
    (hbody : ∀ (cdv : Value) (A : Around) (outer : List Env) (s : Shared) (H : Hp) (E : XK), Room k (A.deeper (envOfC qual (defScope st) s.heap.objs.size f cdv)) →
      Takes (cxOf (L2.CX P w) P w K mg base N qual (defScope st) f cdv A outer s H E) (WofE E) → DSs (cxOf (L2.CX P w) P w K mg base N qual (defScope st) f cdv A outer s H E) (WofE E) (defBody st) g) :
    FnOk P w K mg base (L2.CX P w) (k + 1) f fd ps (spO K n (runO n m g)) := by
  refine F.okX Sc (fun vs H Q E h => ?_) fun cdv A outer s H vs Q E hr ⟨a, h, o, vs', ds, F1, e1, hlen, sf, nt, tb, fa, ha, hmo, hl, p⟩ => ?_
  · obtain ⟨a, h, o, vs', ds, F1, rfl, hlen, _, _, _, _, _, _, hl, _⟩ := h
    rw [List.length_cons, ← hl.length, hlen, hn]
  · subst e1
    refine ⟨_, hbody cdv A outer s H E hr (takes_of rfl rfl rfl rfl), noT H, _, F1, F1, _, [], EO.startO hl sf nt tb hlen fa ha hmo hm, ?_⟩
    unfold runO at p
    have fin : ∀ {δ' : En} {σ' : L2.St} {H' F' : Hp} {τ' : List (D × V)} {o' : MO}, δ'[0]? = some (Sl.io o') → EO K (noT H) (fun b => if b = a then none else noT H b) F1 H' F' δ' σ' τ' → ∃ h', BehO F1 H F' H' a ∧ H' a = some h' ∧ MOk K F' o' h' := fun {δ' σ' H' F' τ' o'} hd e => by
      obtain ⟨b, h', h1, ⟨h2, h3⟩, h4, h5, h6⟩ := e.io 0 o' hd
      have hb : b = a := by
        by_cases z : b = a
        · exact z
        · have q : (if b = a then none else noT H b) = none := h2
          rw [if_neg z] at q
          exact absurd q h3
      subst hb
      exact ⟨h', ⟨fun c u hc q => e.sb c u (by show (if c = b then none else noT H c) = some u; rw [if_neg hc]; exact q), e.tb, e.s0, e.sf, e.nt, e.nw⟩, h5, h6⟩
    cases q : g (Sl.io o :: ds.map Sl.im ++ List.replicate (m - (n + 1)) Sl.no) with
    | bad => rw [q] at p; exact p
    | err x δ' => rw [q] at p; exact p.elim
    | ok fl δ' =>
      rw [q] at p
      cases fl with
      | nx =>
        intro σ' H' F' e
        dsimp only at p
        split at p
        · rename_i d o' q2
          split at q2
          · rename_i o'' hd
            cases q2
            obtain ⟨h', k1, k2, k3⟩ := fin (io0_some hd) e
            exact p _ H' F' h' k1 k2 k3 .non
          · cases q2
        · exact p.elim
      | ret r =>
        intro v σ' H' F' e
        dsimp only at p
        split at p
        · rename_i d o' q2
          split at q2
          · rename_i o'' hd
            cases q2
            obtain ⟨h', k1, k2, k3⟩ := fin (io0_some hd) e
            exact p v H' F' h' k1 k2 k3 e.top
          · cases q2
        · exact p.elim
      | brk => exact p.elim
      | cnt => exact p.elim
end
structure FnO (P : Program) (w : World) (K : PySem.W.Frag) (mg : Mg) (base : Heap) (nm : Str) (lev n : Nat) (ps : List Str) (m : MO → List D → RO) : Prop where
  ex : ∃ (f : Addr) (fd : FuncData), FnOk P w K mg base (L2.CX P w) lev f fd ps (spO K n m) ∧ mg nm = some (.ref f) ∧ PySem.W.keepIn K (.ref f) = true ∧ Binds K fd ps []
/-- f(x, e, ..): x the owner in slot i -/
def eCallO (i n : Nat) (m : MO → List D → RO) (gs : M (List D)) : M D := fun δ => match ownD δ i with
  | some _ => M.bind gs (fun ds δ1 => if ds.length = n then (match ownD δ1 i with
    | some o => match m o ds with
      | .ok d o' => .ok d (putD δ1 i o')
      | .bad => .bad
    | none => .bad) else .bad) δ
  | none => .bad
section
variable {X : Cx} {W : WX} {lev k n i : Nat} {ps : List Str} {x y : Str} {p p1 pos : Pos} {a : Expr} {es : List Expr} {m : MO → List D → RO} {gs : M (List D)}
theorem de_callO (G : FnO X.prog X.w X.K X.mg X.base x lev n ps m) (tk : Takes X W) (hr : Room k X.A) (hlk : lev ≤ k) (hg : Gl X x) (hv : PE X (.Name y p1) (tVar i)) (ha : DA X W es gs)
    (hst : starEach (.Name y p1 :: es) X.env = (false, eval (.Name y p1) X.env) :: starEach es X.env := by rfl)
    (hdb : (x == ("__debug__" : Str)) = false := by decide) (hpl : (backTo pos (starEach es X.env)).any (·.1) = false := by rfl) :
    DE X W (.Call (.Name x p) (.Name y p1 :: es) [] pos) (eCallO i n m gs) := by
  obtain ⟨f, fd, h1, h2, h3, h4⟩ := G.ex
  refine PE.imp (pe_callS (E := WE W) h1 (hr.mono hlk) hg h2 h3 h4 (passAt tk) (pa_cons hv ha hst) hdb hst hpl) fun σ H Q ⟨P, B, F0, F, δ, τ, e, p⟩ => ?_
  unfold eCallO at p
  split at p
  · rename_i o0 ho0
    obtain ⟨aa, h, a1, a2, a3, a4, a5⟩ := own_at e ho0
    refine ⟨_, a1, seqL e p fun ds vs H1 F1 δ1 e1 hl p1 => ?_⟩
    by_cases hc : ds.length = n
    · rw [if_pos hc] at p1
      split at p1
      · rename_i o ho
        obtain ⟨ab, hb, k1, k2, k3, k4, k5⟩ := own_at e1 ho
        rw [a1] at k1
        cases k1
        refine ⟨aa, hb, o, vs, ds, F1, rfl, hc, e1.sf, e1.nt, e1.tb, k2, k4, k5, hl, ?_⟩
        split at p1
        · exact fun v H' F' h' b b5 b6 b7 => p1 v H' F' ((e1.mutate ho a1 b.h b.t b.f b.fh b.nt b.n b5 b6).push b7)
        · exact p1.elim
      · exact p1.elim
    · rw [if_neg hc] at p1; exact p1.elim
  · exact p.elim
end
/-- the remaining parameters, each from one keyword -/
def pick {α : Type} (ix : List Nat) (ws : List α) : List α := ix.filterMap fun j => ws[j]?
structure FnK (P : Program) (w : World) (K : PySem.W.Frag) (mg : Mg) (base : Heap) (nm : Str) (lev n : Nat) (ps : List Str) (m : List D → RR) (np : Nat) (ks : List Str) (ix : List Nat) : Prop where
  ex : ∃ (f : Addr) (fd : FuncData), FnOk P w K mg base (L2.CX P w) lev f fd ps (spD K mg n m) ∧ mg nm = some (.ref f) ∧ PySem.W.keepIn K (.ref f) = true ∧
    ∀ (s : Shared) (us ws : List Value), K.In s.heap → us.length = np → ws.length = ks.length → BindsTo s fd ⟨us, ks.zip ws⟩ (ps.zip (us ++ pick ix ws))
theorem vals_pick {xs : List V} {us : List Value} (r : Vals xs us) : ∀ ix : List Nat, Vals (pick ix xs) (pick ix us)
  | [] => .nil
  | j :: ix => by
    unfold pick
    rw [List.filterMap_cons, List.filterMap_cons]
    cases q : xs[j]? with
    | none =>
      rw [r.none_of q]
      exact vals_pick r ix
    | some x =>
      obtain ⟨u, h1, h2⟩ := r.get q
      rw [h1]
      exact .cons h2 (vals_pick r ix)
theorem HasL.pick {K : PySem.W.Frag} {F : Hp} {ds : List D} {vs : List V} (h : HasL K F ds vs) : ∀ ix : List Nat, HasL K F (PL.pick ix ds) (PL.pick ix vs)
  | [] => .nil
  | j :: ix => by
    unfold PL.pick
    rw [List.filterMap_cons, List.filterMap_cons]
    cases q : ds[j]? with
    | none =>
      have : vs[j]? = none := by
        rw [List.getElem?_eq_none_iff] at q ⊢
        rw [← h.length]; exact q
      rw [this]
      exact HasL.pick h ix
    | some x =>
      obtain ⟨u, h1, h2⟩ := h.get q
      rw [h1]
      exact .cons h2 (HasL.pick h ix)
def eCallK (np : Nat) (ks : List Str) (ix : List Nat) (n : Nat) (m : List D → RR) (gs gk : M (List D)) : M D := M.bind gs fun ds => M.bind gk fun es => if ds.length = np ∧ es.length = ks.length then callN n m (ds ++ pick ix es) else M.bad
abbrev DK (X : Cx) (W : WX) (kws : List Keyword) (g : M (List D)) : Prop := PK X kws (tL X.K X.mg W g)
section
variable {X : Cx} {W : WX}
theorem PK.imp {kws : List Keyword} {t t' : TA} (h : PK X kws t) (i : ∀ σ H Q, t' σ H Q → t σ H Q) : PK X kws t' := ⟨fun pos pins s σ H Q I q => h.run pos pins s σ H Q I (i σ H Q q)⟩
theorem dk_nil : DK X W [] (M.pure []) := PK.imp pk_nil fun _ H _ ⟨_, _, _, F, _, _, e, p⟩ => p [] H F e .nil
theorem dk_cons {nm : Option Str} {a : Expr} {kpos : Pos} {kws : List Keyword} {ga : M D} {gs : M (List D)} (ha : DE X W a ga) (hs : DK X W kws gs) : DK X W (⟨nm, a, kpos⟩ :: kws) (aCons ga gs) := by
  refine PK.imp (pk_cons ha hs) fun σ H Q ⟨P, B, F0, F, δ, τ, e, p⟩ => ?_
  refine seqEL e p fun d x H1 F1 δ1 e1 p1 => ?_
  refine seqLL e1 p1.weak fun ds vs H2 F2 δ2 e2 hl p2 => ?_
  exact p2 _ H2 F2 e2 (.cons e2.top hl)
variable {lev k n np : Nat} {ps ks : List Str} {ix : List Nat} {x : Str} {p pos : Pos} {a : Expr} {es : List Expr} {kws : List Keyword} {m : List D → RR} {gs gk : M (List D)}
theorem run_kw {f : Addr} {fd : FuncData} {pins : List (Addr × Obj)} {σ : L2.St} {H : Hp} {s : Shared} {Q : VK} {us ws : List Value} {vs zs : List V} {sp : Sp} (F : FnOk X.prog X.w X.K X.mg X.base (L2.CX X.prog X.w) k f fd ps sp) (hr : Room k X.A) (tk : Takes X W)
    (hb : ∀ (s : Shared) (us ws : List Value), X.K.In s.heap → us.length = np → ws.length = ks.length → BindsTo s fd ⟨us, ks.zip ws⟩ (ps.zip (us ++ pick ix ws))) (I : Inv X pins σ H s) (r : Vals vs us) (rz : Vals zs ws) (l1 : vs.length = np) (l2 : zs.length = ks.length)
    (h : sp (vs ++ pick ix zs) H Q (WE W σ)) : wpAny (model X.prog X.w) X.A (call (.ref f) us (ks.zip ws)) (EP X pins σ Q) X.xe s := by
  refine wpAny_call (codeAny_mono (F.run X.A X.stack s H ⟨us, ks.zip ws⟩ (us ++ pick ix ws) (vs ++ pick ix zs) Q (WE W σ) hr I.env0 (hb s us ws I.kIn (by rw [← r.length]; exact l1) (by rw [← rz.length]; exact l2)) (r.append (vals_pick rz ix)) h) fun r s' hq => ?_)
  cases r with
  | error e => exact passAt tk σ pins H s e s' I hq
  | ok fl =>
    cases fl with
    | ret u => exact I.after hq
    | next => exact False.elim hq
    | brk => exact False.elim hq
    | cont => exact False.elim hq
theorem kw_sp {P B F0 H F : Hp} {σ : L2.St} {τ : List (D × V)} {Q : VK} {ds es : List D} {vs zs : List V} {δ1 : En} (e : EO X.K P B F0 H F δ1 σ τ) (h1 : HasL X.K F ds vs) (h2 : HasL X.K F es zs)
    (p : PostE X.K X.mg W P B F0 σ τ ((if ds.length = np ∧ es.length = ks.length then callN n m (ds ++ pick ix es) else M.bad) δ1) Q) : vs.length = np ∧ zs.length = ks.length ∧ spD X.K X.mg n m (vs ++ pick ix zs) H Q (WE W σ) := by
  by_cases hc : ds.length = np ∧ es.length = ks.length
  · rw [if_pos hc] at p
    exact ⟨by rw [← h1.length]; exact hc.1, by rw [← h2.length]; exact hc.2, call_sp e (h1.append (h2.pick ix)) p⟩
  · rw [if_neg hc] at p; exact p.elim
theorem de_callK0 (G : FnK X.prog X.w X.K X.mg X.base x lev n ps m 0 ks ix) (tk : Takes X W) (hr : Room k X.A) (hlk : lev ≤ k) (hg : Gl X x) (hk : DK X W kws gk)
    (hall : (backToKw pos (keywordEach kws X.env)).all (·.1.isSome) = true := by rfl) (hks : (backToKw pos (keywordEach kws X.env)).filterMap (·.1) = ks := by rfl) (hdb : (x == ("__debug__" : Str)) = false := by decide)
    (hpl : ((backTo pos (starEach [] X.env)).any (·.1) || (backToKw pos (keywordEach kws X.env)).any (·.1.isNone)) = false := by rfl) :
    DE X W (.Call (.Name x p) [] kws pos) (eCallK 0 ks ix n m (M.pure []) gk) := by
  obtain ⟨f, fd, h1, h2, h3, h4⟩ := G.ex
  refine ⟨fun pins s σ H Q I ⟨P, B, F0, F, δ, τ, e, p⟩ => ?_⟩
  refine wpAny_Call_Name_kw (ld_glob I hg h2 ?_ hdb)
  refine PySem.W.callWith_KW0 (h₀ := X.base) I.ok.mod.kin h3 hall ?_ hpl
  refine thn (hk.run pos pins s σ H (fun zs H2 => spD X.K X.mg n m (([] : List V) ++ pick ix zs) H2 Q (WE W σ) ∧ zs.length = ks.length) I ?_) fun ws s2 ⟨zs, H2, I2, rz, q2, l2⟩ => ⟨I2.kIn, ?_⟩
  · have p' : PostE X.K X.mg W P B F0 σ τ (M.bind gk (fun es => if ([] : List D).length = 0 ∧ es.length = ks.length then callN n m (([] : List D) ++ pick ix es) else M.bad) δ) Q := p
    refine seqL e p' fun es zs H1 F1 δ1 e1 hl p1 => ?_
    obtain ⟨_, b, c⟩ := kw_sp e1 .nil hl p1
    exact ⟨c, b⟩
  · rw [hks]
    exact run_kw (us := []) (vs := []) h1 (hr.mono hlk) tk h4 I2 .nil rz rfl l2 q2
end
end PL
set_option Elab.async false
set_option linter.all false
set_option maxRecDepth 100000
namespace PL
open PySem PySem.Spec PyProof.Rows L2 LamX
variable [Tbls]
def dPow := iOpC (fun i j => decide (0 ≤ j) && decide (j ≤ 1000000) && decide (i.natAbs < 2 ^ 64)) fun i j => .int (i ^ j.toNat)
theorem s_pow {K : PySem.W.Frag} : OpS K (rI CPow fun i j => .int (i ^ j.toNat)) dPow := ops_I (fun i j h => by
  simp only [Bool.and_eq_true, decide_eq_true_eq] at h
  exact ⟨h.1.1, h.1.2, h.2⟩) fun _ _ _ _ => .int _
def dFdivW := iOpC (fun _ j => decide (0 < j) && decide (j.natAbs.log2 < 9000)) fun i j => .int (i / j)
theorem s_fdivW {K : PySem.W.Frag} : OpS K (rI CDivW fun i j => .int (i / j)) dFdivW := ops_I (fun i j h => by
  simp only [Bool.and_eq_true, decide_eq_true_eq] at h
  exact h) fun _ _ _ _ => .int _
/-- + of ints, texts, lists, tuples -/
def rPlus (K : PySem.W.Frag) : R2 := fun x y H Q => (rI0 (fun i j => .int (i + j)) x y H Q ∨ (∃ i j, x = .str i ∧ y = .str j ∧ i.length + j.length ≤ sizeLine ∧ Q (.str (i ++ j)) H)) ∨ rCat x y H Q ∨ rCatA K x y H Q
theorem op_plus {X : Cx} : OpR X (binaryOp .Add) (rPlus X.K) := OpR.or (OpR.or op_add op_add_str) (OpR.or op_cat op_catA)
theorem s_plus {K : PySem.W.Frag} : OpS K (rPlus K) dCat := by
  intro d1 d2 d3 x y P B F0 H F δ σ τ Q q e h1 h2 k
  unfold dCat at q
  split at q
  · cases h1; cases h2; cases q
    exact .inl (.inl ⟨_, _, rfl, rfl, k _ H F (e.push (.int _))⟩)
  · cases h1; cases h2
    split at q
    · rename_i hz
      cases q
      exact .inl (.inr ⟨_, _, rfl, rfl, lim_ok hz, k _ H F (e.push (.str _))⟩)
    · cases q
  · cases h1 with
    | lst a1 a2 =>
      cases h2 with
      | lst b1 b2 =>
        split at q
        · rename_i hz
          cases q
          rw [a2.length, b2.length] at hz
          refine .inr (.inl ⟨_, _, _, _, rfl, rfl, e.sf _ _ a1, e.sf _ _ b1, lim_ok hz, fun p hp => ?_⟩)
          exact k _ _ _ ((e.alloc hp).push (.lst upd_same ((a2.append b2).mono (same_new (e.fresh hp)))))
        · cases q
  · cases h1 with
    | @tup a vs _ a1 a2 =>
      cases h2 with
      | @tup b ws _ b1 b2 =>
        split at q
        · rename_i hz
          cases q
          obtain ⟨hz, n1, n2⟩ := hz
          rw [a2.length, b2.length] at hz
          refine .inr (.inr ⟨_, _, _, _, rfl, rfl, Same.seqT e.sf a1, Same.seqT e.sf b1, lim_ok hz, fun z => ?_, fun _ z => ?_, fun _ _ p hp => ?_⟩)
          · subst z; cases a2; exact absurd rfl n1
          · subst z; cases b2; exact absurd rfl n2
          · exact k _ _ _ ((e.alloc hp).push (.tup (SqT.of upd_same) ((a2.append b2).mono (same_new (e.fresh hp)))))
        · cases q
  · cases q
def dTake (n : Int) : D → Option D
  | .lst l => if 0 ≤ n then some (.lst (l.take n.toNat)) else none
  | .scr l => if 0 ≤ n then some (.lst ((l.take n.toNat).map .int)) else none
  | _ => none
theorem cutV_take {xs : List V} {n : Int} (h : 0 ≤ n) : cutV xs none (some n) = xs.take n.toNat := by
  unfold cutV
  have e0 : HT.sIx xs.length 0 none = 0 := rfl
  rw [e0, Nat.sub_zero, List.drop_zero]
  have e1 : HT.sIx xs.length xs.length (some n) = min n.toNat xs.length := by
    unfold HT.sIx
    dsimp only
    split <;> omega
  rw [e1]
  by_cases hl : n.toNat ≤ xs.length
  · rw [Nat.min_eq_left hl]
  · rw [Nat.min_eq_right (by omega), List.take_of_length_le (Nat.le_refl _), List.take_of_length_le (by omega)]
theorem hasL_ints {K : PySem.W.Frag} {F : Hp} : ∀ l : List Int, HasL K F (l.map D.int) (l.map V.int)
  | [] => .nil
  | i :: l => .cons (.int i) (hasL_ints l)
section
variable {X : Cx} {W : WX} {a : Expr} {ga : M D} {n : Int} {j : Nat} {p1 p2 pos : Pos}
theorem de_take (ha : DE X W a ga) : DE X W (.Subscript a (.Slice none (some (.Constant (.int n) j p1)) none p2) pos) (M.bind ga fun d => opt (dTake n d)) := by
  refine PE.imp (pe_slice sl_list ha po_none (po_some pe_int)) fun σ H Q ⟨P, B, F0, F, δ, τ, e, p⟩ => ?_
  refine seqE e p fun d v H1 F1 δ1 e1 p1 => ?_
  unfold opt at p1
  split at p1
  · rename_i d2 q
    refine ⟨n, rfl, ?_⟩
    unfold dTake at q
    split at q
    · split at q
      · rename_i h0
        cases q
        cases e1.top with
        | @lst a vs _ a1 a2 =>
          refine ⟨a, vs, rfl, SqL.of (e1.sf _ _ a1), fun p hp => ?_⟩
          rw [cutV_take h0]
          exact p1 _ _ _ ((e1.alloc hp).pop.push (.lst upd_same ((a2.take _).mono (same_new (e1.fresh hp)))))
      · cases q
    · split at q
      · rename_i l h0
        cases q
        cases e1.top with
        | @scr a _ a1 =>
          refine ⟨a, l.map V.int, rfl, e1.sf.seq a1, fun p hp => ?_⟩
          rw [cutV_take h0, ← List.map_take]
          exact p1 _ _ _ ((e1.alloc hp).pop.push (.lst upd_same ((hasL_ints _).mono (same_new (e1.fresh hp)))))
      · cases q
    · cases q
  · exact p1.elim
end
def putD1 {κ α : Type} [DecidableEq κ] (kvs : List (κ × α)) (k : κ) (v : α) : List (κ × α) :=
  if (kvs.any fun kv => decide (kv.1 = k)) = true then kvs.map (fun kv => if kv.1 = k then (kv.1, v) else kv) else kvs ++ [(k, v)]
def getD1 {κ α : Type} [DecidableEq κ] (kvs : List (κ × α)) (k : κ) : Option α := (kvs.find? fun kv => decide (kv.1 = k)).map (·.2)
section
variable {K : PySem.W.Frag} {F : Hp} {κ : Type} [DecidableEq κ]
theorem kv_get : ∀ {l : List (κ × D)} {vs : List (κ × V)} {k : κ} {d : D}, l.map (·.1) = vs.map (·.1) → HasL K F (l.map (·.2)) (vs.map (·.2)) → getD1 l k = some d → ∃ v, valV vs k = some v ∧ Has K F d v
  | [], [], _, _, _, _, h => by cases h
  | [], _ :: _, _, _, h, _, _ => by cases h
  | _ :: _, [], _, _, h, _, _ => by cases h
  | (k1, d1) :: l, (k2, v2) :: vs, k, d, hk, hh, hg => by
    simp only [List.map_cons, List.cons.injEq] at hk hh
    cases hh with
    | cons a b =>
      obtain ⟨e1, e2⟩ := hk
      by_cases q : k1 = k
      · have hg' : some d1 = some d := by rw [← hg]; simp [getD1, List.find?_cons, q]
        cases hg'
        exact ⟨v2, valV_pos (p := (k2, v2)) (e1.symm.trans q), a⟩
      · have hg' : getD1 l k = some d := by rw [← hg]; simp [getD1, List.find?_cons, q]
        obtain ⟨v, h1, h2⟩ := kv_get e2 b hg'
        exact ⟨v, by rw [valV_neg (p := (k2, v2)) (fun z => q (e1.trans z))]; exact h1, h2⟩
theorem kv_any : ∀ {l : List (κ × D)} {vs : List (κ × V)} {k : κ}, l.map (·.1) = vs.map (·.1) → (l.any fun kv => decide (kv.1 = k)) = (vs.any fun kv => decide (kv.1 = k))
  | [], [], _, _ => rfl
  | [], _ :: _, _, h => by cases h
  | _ :: _, [], _, h => by cases h
  | p :: l, q :: vs, k, h => by
    simp only [List.map_cons, List.cons.injEq] at h
    rw [List.any_cons, List.any_cons, h.1, kv_any h.2]
theorem kv_map : ∀ {l : List (κ × D)} {vs : List (κ × V)} {k : κ} {d : D} {v : V}, l.map (·.1) = vs.map (·.1) → HasL K F (l.map (·.2)) (vs.map (·.2)) → Has K F d v →
    (l.map (fun kv => if kv.1 = k then (kv.1, d) else kv)).map (·.1) = (vs.map (fun kv => if kv.1 = k then (kv.1, v) else kv)).map (·.1) ∧ HasL K F ((l.map (fun kv => if kv.1 = k then (kv.1, d) else kv)).map (·.2)) ((vs.map (fun kv => if kv.1 = k then (kv.1, v) else kv)).map (·.2))
  | [], [], _, _, _, _, h, _ => ⟨rfl, h⟩
  | [], _ :: _, _, _, _, h, _, _ => by cases h
  | _ :: _, [], _, _, _, h, _, _ => by cases h
  | p :: l, q :: vs, k, d, v, h, hh, hd => by
    simp only [List.map_cons, List.cons.injEq] at h hh
    cases hh with
    | cons a b =>
      obtain ⟨h1, h2⟩ := kv_map (k := k) h.2 b hd
      simp only [List.map_cons, h1]
      by_cases z : p.1 = k
      · have z2 : q.1 = k := h.1.symm.trans z
        rw [if_pos z, if_pos z2]
        exact ⟨by rw [h.1], .cons hd h2⟩
      · have z2 : q.1 ≠ k := fun y => z (h.1.trans y)
        rw [if_neg z, if_neg z2]
        exact ⟨by rw [h.1], .cons a h2⟩
theorem kv_put {l : List (κ × D)} {vs : List (κ × V)} {k : κ} {d : D} {v : V} (h : l.map (·.1) = vs.map (·.1)) (hh : HasL K F (l.map (·.2)) (vs.map (·.2))) (hd : Has K F d v) :
    (putD1 l k d).map (·.1) = (putK vs k v).map (·.1) ∧ HasL K F ((putD1 l k d).map (·.2)) ((putK vs k v).map (·.2)) := by
  unfold putD1 putK
  rw [kv_any h]
  split
  · exact kv_map h hh hd
  · rw [List.map_append, List.map_append, List.map_append, List.map_append, h]
    exact ⟨rfl, hh.append (.cons hd .nil)⟩
end
/-- the values of a display, its keys written -/
def eVals : List (M D) → M (List D)
  | [] => M.pure []
  | g :: gs => aCons g (eVals gs)
/-- keys as they are written -/
inductive PairsAre (X : Cx) (W : WX) : List (Option Expr) → List Expr → List Key → List (M D) → Prop
  | nil : PairsAre X W [] [] [] []
  | cons {x : Str} {j : Nat} {p : Pos} {v : Expr} {g : M D} {ks : List (Option Expr)} {vs : List Expr} {kk : List Key} {gs : List (M D)} : DE X W v g → PairsAre X W ks vs kk gs → PairsAre X W (some (.Constant (.str x) j p) :: ks) (v :: vs) (.inr x :: kk) (g :: gs)
def trsOf (K : PySem.W.Frag) (mg : Mg) (W : WX) : List Key → List (M D) → List (TE × TE)
  | k :: ks, g :: gs => (tC (kV k), tE K mg W g) :: trsOf K mg W ks gs
  | _, _ => []
theorem pairs_pps {X : Cx} {W : WX} {pos : Pos} {ks : List (Option Expr)} {vs : List Expr} {kk : List Key} {gs : List (M D)} (h : PairsAre X W ks vs kk gs) : PPs X pos ks vs (trsOf X.K X.mg W kk gs) := by
  induction h with
  | nil => exact pps_nil
  | cons hd _ ih => exact pps_cons pe_str hd ih
theorem pairs_read {X : Cx} {W : WX} {ks : List (Option Expr)} {vs : List Expr} {kk : List Key} {gs : List (M D)} (h : PairsAre X W ks vs kk gs) : ∀ {P B F0 H F : Hp} {δ : En} {σ : L2.St} {τ : List (D × V)} {Q : List (V × V) → Hp → Prop}, EO X.K P B F0 H F δ σ τ →
    PostL X.K X.mg W P B F0 σ τ (eVals gs δ) (fun ws H2 => Q ((kk.zip ws).map fun kv => (kV kv.1, kv.2)) H2) → tPairs (trsOf X.K X.mg W kk gs) σ H Q := by
  induction h with
  | nil => intro P B F0 H F δ σ τ Q e p; exact p [] H F e .nil
  | @cons x j ps v g ks vs kk gs hd _ ih =>
    intro P B F0 H F δ σ τ Q e p
    show tE X.K X.mg W g σ H _
    refine seqEL (k := fun d => M.bind (eVals gs) fun ds => M.pure (d :: ds)) e p fun d v H1 F1 δ1 e1 p1 => ?_
    refine ih (P := P) (B := B) (F0 := F0) (τ := (d, v) :: τ) e1 ?_
    have p2 := p1.weak (x := (d, v))
    unfold M.bind at p2
    cases q : eVals gs δ1 with
    | bad => rw [q] at p2; exact p2
    | err x δ2 => rw [q] at p2; exact p2
    | ok ds δ2 =>
      rw [q] at p2
      exact fun ws H' F' e' hl => p2 (v :: ws) H' F' e' (.cons e'.top hl)
def sDict (i : Nat) (kk : List Key) (gs : List (M D)) : S := M.bind (eVals gs) fun ds δ => if ds.length = kk.length ∧ kk.length ≤ 15 ∧ i < δ.length then .ok .nx (δ.set i (.ow (.dk ((kk.zip ds).foldl (fun acc kv => putD1 acc kv.1 kv.2) [])))) else .bad
theorem merge_has {K : PySem.W.Frag} {F : Hp} : ∀ {kk : List Key} {ds : List D} {ws : List V} {l : List (Key × D)} {vs : List (Key × V)}, HasL K F ds ws → l.map (·.1) = vs.map (·.1) → HasL K F (l.map (·.2)) (vs.map (·.2)) →
    ((kk.zip ds).foldl (fun acc kv => putD1 acc kv.1 kv.2) l).map (·.1) = (mergeK vs (kk.zip ws)).map (·.1) ∧ HasL K F (((kk.zip ds).foldl (fun acc kv => putD1 acc kv.1 kv.2) l).map (·.2)) ((mergeK vs (kk.zip ws)).map (·.2))
  | [], _, _, _, _, _, h1, h2 => by simpa [mergeK] using ⟨h1, h2⟩
  | k :: kk, [], _, _, _, h, h1, h2 => by cases h; simpa [mergeK] using ⟨h1, h2⟩
  | k :: kk, d :: ds, _, l, vs, .cons hd hl, h1, h2 => by
    obtain ⟨a, b⟩ := kv_put (k := k) h1 h2 hd
    exact merge_has (kk := kk) hl a b
section
variable {X : Cx} {W : WX} {i : Nat} {x : Str} {ks : List (Option Expr)} {vs : List Expr} {kk : List Key} {gs : List (M D)} {pos pos' pl : Pos}
theorem ds_dict (hN : X.N.Nodup) (hi : X.N[i]? = some x) (hx : Loc X.env.scope x) (hs : PairsAre X W ks vs kk gs) (hall : ks.all (·.isSome) = true := by rfl) (hl : ks.length = vs.length := by rfl) (h0 : ks ≠ [] := by exact fun z => nomatch z) (h15 : ks.length ≤ 15 := by decide)
    (hsw : swapsWith (.Dict ks vs pl) (some (.Name x pos')) pos.line X.env = pure false := by rfl) (hf : X.fn x = true ∨ X.env.scope.names.lookup x = some .local := by first | exact .inl rfl | exact .inr rfl | assumption) :
    DS X W (.Assign [.Name x pos'] (.Dict ks vs pl) pos) (sDict i kk gs) := by
  refine PS.imp (ps_set hN hi hx (pe_disp (pairs_pps hs) hall hl h0 h15) hsw hf) fun Dn σ H ⟨P, B, F0, F, δ, τ, e, p⟩ => ?_
  intro L hL
  have pL := e.dm L hL
  have bL := e.bp L pL
  have fL := e.fresh hL
  have e1 := e.rebase.aside (o := .dK []) hL
  refine pairs_read hs e1 ?_
  unfold sDict M.bind at p
  have back : ∀ {H' F' : Hp} {δ' : En}, EO X.K (upd P L (.dK [])) (upd B L (.dK [])) F H' F' δ' σ τ → EO X.K P B F0 H' F' δ' σ τ := fun {H' F' δ'} e' => e.unbase (e'.unaside pL bL e.bp)
  cases q : eVals gs δ with
  | bad => rw [q] at p; exact p.elim
  | err xx δ' =>
    rw [q] at p
    exact fun cls dx H' F' e' ⟨z1, a, fv, z2, z3, z4⟩ => p cls dx σ H' F' (back e') ⟨z1, a, fv, z2, by
      by_cases y : a = L
      · subst y; exact pL
      · rw [upd_ne y] at z3; exact z3, z4⟩
  | ok ds δ' =>
    rw [q] at p
    dsimp only at p
    intro ws H' F' e' hw
    have hL' : H' L = some (.dK []) := e'.sb _ _ upd_same
    have fL' : F' L = none := by
      cases z : F' L with
      | none => rfl
      | some u =>
        have := e'.nw L fL (by rw [z]; exact fun y => nomatch y)
        rw [upd_same] at this; cases this
    by_cases hc : ds.length = kk.length ∧ kk.length ≤ 15 ∧ i < δ'.length
    · rw [if_pos hc] at p
      have lw : ws.length = kk.length := by rw [← hw.length]; exact hc.1
      refine ⟨hL', kk.zip ws, rfl, by rw [List.length_zip, lw, Nat.min_self]; exact hc.2.1, ?_⟩
      obtain ⟨m1, m2⟩ := merge_has (kk := kk) (l := []) (vs := []) hw rfl .nil
      have e2 := back e'
      have noL : ∀ (j : Nat), ((∃ l', δ'[j]? = some (Sl.ow l')) ∨ ∃ l', δ'[j]? = some (Sl.io l')) → σ[j]? ≠ some (some (V.ref L)) := fun j h z => by
        rcases h with ⟨l, h⟩ | ⟨l, h⟩
        · obtain ⟨a, u, h1, h2, _⟩ := e'.ow j l h
          rw [z] at h1; cases h1
          rw [upd_same] at h2; cases h2
        · obtain ⟨a, u, h1, h2, _⟩ := e'.io j l h
          rw [z] at h1; cases h1
          have h6 := h2.1
          rw [upd_same] at h6; cases h6
      have e3 := e2.storeSl (i := i) (s := .ow (.dk [])) (v := .ref L) (by rw [← e2.len]; exact hc.2.2) (fun d h => nomatch h) (fun l h => by cases h; exact ⟨L, _, rfl, pL, fL', hL', ⟨rfl, .nil⟩, noL⟩) (fun l h => nomatch h)
      have own : ownD (δ'.set i (.ow (.dk []))) i = some (.dk []) := by unfold ownD; rw [List.getElem?_set_self hc.2.2]
      have e4 := e3.update (o' := .dk ((kk.zip ds).foldl (fun acc kv => putD1 acc kv.1 kv.2) [])) (h' := .dK (mergeK [] (kk.zip ws))) own (List.getElem?_set_self (by rw [← e2.len]; exact hc.2.2)) ⟨m1, m2⟩
      have pe : putD (δ'.set i (.ow (.dk []))) i (.dk ((kk.zip ds).foldl (fun acc kv => putD1 acc kv.1 kv.2) [])) = δ'.set i (.ow (.dk ((kk.zip ds).foldl (fun acc kv => putD1 acc kv.1 kv.2) []))) := by
        unfold putD
        rw [List.getElem?_set_self hc.2.2]
        dsimp only
        rw [List.set_set]
      rw [pe] at e4
      exact p _ _ F' e4
    · rw [if_neg hc] at p; exact p.elim
/-- x['k'] = e -/
def sPutK (i : Nat) (k : Key) (ga : M D) : S := M.bind ga fun d δ => match ownD δ i with
  | some (.dk l) => if l.length < LIM then .ok .nx (putD δ i (.dk (putD1 l k d))) else .bad
  | _ => .bad
theorem ds_putK {e : Expr} {gx : M D} {k : Str} {j lev : Nat} {p1 p2 p3 : Pos} (hr : Room lev X.A) (hv : PE X (.Name x p1) (tVar i)) (he : DE X W e gx) (hs : swapsWith e (some (.Subscript (.Name x p1) (.Constant (.str k) j p2) p3)) pos.line X.env = pure false := by rfl) :
    DS X W (.Assign [.Subscript (.Name x p1) (.Constant (.str k) j p2) p3] e pos) (sPutK i (.inr k) gx) := by
  refine PS.imp (ps_dput (hu_of hr) hv pe_str he hs) fun Dn σ H ⟨P, B, F0, F, δ, τ, e, p⟩ => ?_
  refine seqES e p fun d v H1 F1 δ1 e1 p1 => ?_
  split at p1
  · rename_i l ho
    obtain ⟨a, h, a1, a2, a3, a4, a5⟩ := own_at e1 ho
    split at p1
    · rename_i hl
      cases h with
      | dK ws =>
        have a5 : l.map (·.1) = ws.map (·.1) ∧ HasL X.K F1 (l.map (·.2)) (ws.map (·.2)) := a5
        have hlen : l.length = ws.length := by have := congrArg List.length a5.1; simpa using this
        refine ⟨_, a1, a, _, rfl, DPut.k (k := .inr k) a4 (lim_lt (by rw [← hlen]; exact hl)), ?_⟩
        exact p1 σ _ F1 ((e1.pop).update ho a1 (kv_put a5.1 a5.2 e1.top))
      | _ => exact a5.elim
    · exact p1.elim
  · exact p1.elim
/-- x[e], x a dict with text keys that a name owns, or holds -/
def eGetK (i : Nat) (gb : M D) : M D := fun δ => match nowD δ i with
  | some _ => M.bind gb (fun b δ1 => match nowD δ1 i, b with
    | some (.dk l), .str k => opt (getD1 l (.inr k)) δ1
    | _, _ => .bad) δ
  | none => .bad
theorem now_dk {K : PySem.W.Frag} {P B F0 H F : Hp} {δ : En} {σ : L2.St} {τ : List (D × V)} {l : List (Key × D)} (e : EO K P B F0 H F δ σ τ) (h : nowD δ i = some (.dk l)) : ∃ a ws, σ[i]? = some (some (V.ref a)) ∧ H a = some (.dK ws) ∧ l.map (·.1) = ws.map (·.1) ∧ HasL K F (l.map (·.2)) (ws.map (·.2)) := by
  unfold nowD at h
  split at h
  · rename_i q
    cases h
    obtain ⟨v, h1, h2⟩ := e.im i _ q
    cases h2 with
    | dk b1 b2 b3 => exact ⟨_, _, h1, e.sf _ _ b1, b2, b3⟩
  · rename_i o q
    obtain ⟨a, u, h1, h2, h3, h4, h5⟩ := e.ow i _ q
    cases o with
    | dk l' =>
      cases h
      cases u with
      | dK ws => exact ⟨a, ws, h1, h4, h5.1, h5.2⟩
      | _ => exact h5.elim
    | lst _ => cases h
    | dt _ => cases h
    | obj _ _ => cases h
  · rename_i o q
    obtain ⟨a, u, h1, h2, h3, h4, h5⟩ := e.io i _ q
    cases o with
    | dk l' =>
      cases h
      cases u with
      | dK ws => exact ⟨a, ws, h1, h4, h5.1, h5.2⟩
      | _ => exact h5.elim
    | lst _ => cases h
    | dt _ => cases h
    | obj _ _ => cases h
  · cases h
theorem de_getK {b : Expr} {gb : M D} {px : Pos} {lev : Nat} (hr : Room lev X.A) (hv : PE X (.Name x px) (tVar i)) (hb : DE X W b gb) (hs : NoSl b := by exact fun _ _ => rfl) : DE X W (.Subscript (.Name x px) b pos) (eGetK i gb) := by
  refine PE.imp (pe_dget (hu_of hr) hv hb hs) fun σ H Q ⟨P, B, F0, F, δ, τ, e, p⟩ => ?_
  unfold eGetK at p
  split at p
  · rename_i d0 h0
    obtain ⟨v, G, h1, _⟩ := now_at e h0
    refine ⟨v, h1, seqE e p fun d2 y H2 F2 δ2 e2 p2 => ?_⟩
    split at p2
    · rename_i l k q
      obtain ⟨a, ws, k1, k2, k3, k4⟩ := now_dk e2 q
      rw [h1] at k1
      cases k1
      unfold opt at p2
      split at p2
      · rename_i d3 q3
        obtain ⟨v, m1, m2⟩ := kv_get k3 k4 q3
        cases e2.top
        exact ⟨a, v, rfl, by have := DGet.k (k := Sum.inr k) k2; rw [m1] at this; exact this, p2 v H2 F2 (e2.pop.push m2)⟩
      · exact p2.elim
    · exact p2.elim
  · exact p.elim
end
end PL
set_option Elab.async false
set_option linter.all false
set_option maxRecDepth 100000
namespace PL
open PySem PySem.Spec PyProof.Rows L2 LamX
variable [Tbls]
section
variable {P : Program} {w : World} {K : PySem.W.Frag} {mg : Str → Option Value} {base : Heap} {ps fr : List Str} {F : NdefX.NF} {f : Addr} {k : Nat} {A : Around} {outer : List Env} {s : Shared} {H : Hp} {E : XK} {us : List Value} {vs : List V} {ws : List (Option V)} {Q : VK}
theorem lam_run {body : Expr} {pm ctv : Value} {tb : TE} (ho : s.heap.get? f = some (PySem.W.kla_obj F.name F.qual F.params body F.scope F.cl pm F.c ctv)) (hc : s.heap.CodeRec (.ref F.c) F.qual) (Sc : NdefX.NScope (ps ++ fr) ps fr F.scope)
    (hb : bindArgs (PySem.W.kla_fn F.name F.qual F.params body F.scope F.cl pm (.ref F.c) ctv) ⟨us, []⟩ = pure (ps.zip us)) (hr : Room (k + 1) A) (e0 : Env0 P w K mg base A outer s H) (C : NdefX.CellsAt F.cl fr ws s.heap H) (r : Vals vs us) (hl : vs.length = ps.length)
    (hbody : Room k (A.deeper (NdefX.envF F f s.heap.objs.size)) → PE (NdefX.ncx (L2.CX P w) P w K mg base (ps ++ fr) F f A outer s H E) body tb) (ht : tb (NdefX.startF (ps ++ fr) vs ws) H Q) :
    codeAny (model P w) A (.call (.ref f) ⟨us, []⟩) (CR (L2.CX P w) outer P w H s Q E) s := by
  have lim : s.heap.NoLimit := e0.mod.nolimit.keeps fun b o e => (e0.bs b o e).1
  refine PySem.W.kla_callFunE hr.depth ho rfl Sc.co Sc.gen rfl hc ?_
  rw [hb]
  refine wpAny_pure (wpAny_newFunctionEnv Sc.nocell (fun ⟨n, _⟩ hy => Sc.par n (List.of_mem_zip hy).1) (fun h₁ hns hsb => ⟨lim.fresh _ hsb, ?_⟩) Sc.kind)
  show codeAny _ _ (.expr body (NdefX.envF F f s.heap.objs.size)) _ _
  have kp : ∀ b o, s.heap.get? b = some o → h₁.get? b = some o := fun b o e => hsb.extBut b o (Nat.ne_of_lt (Heap.lt_size e)) (Heap.get?_push_of_some _ e)
  have J : Inv (NdefX.ncx (L2.CX P w) P w K mg base (ps ++ fr) F f A outer s H E) [] (NdefX.startF (ps ++ fr) vs ws) H { s with heap := h₁, toks := s.toks + (ps.zip us).length } := NdefX.inv_startN Sc hr.hd e0 hl r C hns kp
  refine PySem.W.kla_codeExpr (wpAny_mono ((hbody (hr.deeper _)).run [] _ _ H Q J ht) (fun v s' hq => ?_) fun e s' hq => hq)
  obtain ⟨w', H', J', rv, q⟩ := hq
  exact ⟨w', H', J'.os, J'.bare, J'.base, J'.hok, rv, q⟩
end
def cut (F : Hp) (c : Addr) : Hp := fun b => if b = c then none else F b
theorem cut_some {F : Hp} {c b : Addr} {o : HO} (h : F b = some o) (n : b ≠ c) : cut F c b = some o := by unfold cut; rw [if_neg n]; exact h
mutual
theorem Has.cut {K : PySem.W.Frag} {F : Hp} {c : Addr} {q : Str} (hc : F c = some (CodeO c q)) : ∀ {d : D} {v : V} {z : PyData}, Has K F d v → d.py = some z → Has K (PL.cut F c) d v
  | _, _, _, .non, h => .non
  | _, _, _, .bl b, h => .bl b
  | _, _, _, .int i, h => .int i
  | _, _, _, .str x, h => .str x
  | _, _, _, .val v, h => by cases h
  | _, _, _, .scr _, h => by cases h
  | _, _, _, .dk _ _ _, h => by cases h
  | _, _, _, .dt _ _ _, h => by cases h
  | _, _, _, .key _, h => by cases h
  | _, _, _, .dz _ _ _, h => by cases h
  | _, _, _, .obj _ _ _, h => by cases h
  | _, _, _, .exc _ _ _, h => by cases h
  | _, _, _, .lam _ _, h => by cases h
  | _, _, _, .tup hs hl, h => by
    unfold D.py at h
    split at h
    · rename_i ds e
      refine .tup ?_ (HasL.cut hc hl e)
      have ne : ∀ {a : Addr} {o : HO}, F a = some o → (∀ q, o ≠ CodeO a q) → a ≠ c := fun {a o} ha hn z => by
        subst z; rw [hc] at ha; exact hn q (Option.some.inj ha).symm
      rcases hs with (hs | ⟨o, hs⟩) | hs
      · exact .inl (.inl (cut_some hs (ne hs fun q z => by unfold CodeO at z; cases z)))
      · exact .inl (.inr ⟨o, cut_some hs (ne hs fun q z => by unfold CodeO at z; cases z)⟩)
      · exact .inr hs
    · cases h
  | _, _, _, .lst hs hl, h => by
    unfold D.py at h
    split at h
    · rename_i ds e
      refine .lst (cut_some hs fun z => ?_) (HasL.cut hc hl e)
      subst z
      rw [hc] at hs
      have := Option.some.inj hs
      unfold CodeO at this
      cases this
    · cases h
theorem HasL.cut {K : PySem.W.Frag} {F : Hp} {c : Addr} {q : Str} (hc : F c = some (CodeO c q)) : ∀ {ds : List D} {vs : List V} {zs : List PyData}, HasL K F ds vs → pyAll ds = some zs → HasL K (PL.cut F c) ds vs
  | _, _, _, .nil, h => .nil
  | _, _, _, .cons h1 h2, h => by
    unfold pyAll at h
    split at h
    · rename_i x e1
      split at h
      · rename_i xs e2
        exact .cons (Has.cut hc h1 e1) (HasL.cut hc h2 e2)
      · cases h
    · cases h
end
open Classical in
/-- what the call of the lambda in slot 0 comes to -/
noncomputable def eAct (d0 : D) (r : RR) : M D := fun δ => if δ[0]? = some (.im d0) then (match r with
  | .ok d => .ok d δ
  | .err x => .err x δ
  | .bad => .bad) else .bad
/-- a lambda's outcome, what it captured standing in its slots -/
def thunk (g : M D) (l : List D) : RR := match g (l.map Sl.im) with
  | .ok d _ => .ok d
  | .err x _ => .err x
  | .bad => .bad
/-- the values of slots js, all of them plain -/
def capD (δ : En) : List Nat → Option (List D)
  | [] => some []
  | j :: js => match δ[j]?, capD δ js with
    | some (.im d), some ds => some (d :: ds)
    | _, _ => none
theorem cap_at {K : PySem.W.Frag} {P B F0 H F : Hp} {δ : En} {σ : L2.St} {τ : List (D × V)} (e : EO K P B F0 H F δ σ τ) : ∀ {js : List Nat} {ds : List D}, capD δ js = some ds → ∃ l : List (V × D), l.map (·.2) = ds ∧ js.map (NdefX.slotAt σ) = l.map (fun p => some p.1) ∧ HasL K F ds (l.map (·.1))
  | [], _, h => by cases h; exact ⟨[], rfl, rfl, .nil⟩
  | j :: js, _, h => by
    unfold capD at h
    split at h
    · rename_i d ds h1 h2
      cases h
      obtain ⟨l, a1, a2, a3⟩ := cap_at e h2
      obtain ⟨v, b1, b2⟩ := e.im j d h1
      refine ⟨(v, d) :: l, by rw [List.map_cons, a1], ?_, .cons b2 a3⟩
      rw [List.map_cons, List.map_cons, a2, NdefX.slotAt_of b1]
    · cases h
def GivesL (P : Program) (w : World) (K : PySem.W.Frag) (mg : Str → Option Value) (base : Heap) (Ng : List Str) (x : Str) (sg : Scope) (g : Addr) (cdg : Value) (bg : List Stmt) (a : Str) (k : Nat) (gR : D → RR → S) : Prop :=
  ∀ (A : Around) (outer : List Env) (s : Shared) (H : Hp) (E : XK) (d0 : D) (r : RR), Room k (A.deeper (envOfC x sg s.heap.objs.size g cdg)) →
    (∀ (W : WX) (pn : List (Addr × Obj)) (xe : Value → Shared → Prop) (p1 p2 : Pos), Takes ((cxOf (L2.CX P w) P w K mg base Ng x sg g cdg A outer s H E).tr pn xe) W → DE ((cxOf (L2.CX P w) P w K mg base Ng x sg g cdg A outer s H E).tr pn xe) W (.Call (.Name a p1) [] [] p2) (eAct d0 r)) →
    DSs (cxOf (L2.CX P w) P w K mg base Ng x sg g cdg A outer s H E) (WofE E) bg (gR d0 r)
structure FnL (P : Program) (w : World) (K : PySem.W.Frag) (mg : Str → Option Value) (base : Heap) (x : Str) (k : Nat) (m : RR → RR) : Prop where
  ex : ∃ (g : Addr) (pg : Arguments) (bg : List Stmt) (sg : Scope) (dV kV doc pm cdv ct oc : Value) (an od : Option Addr) (osl : Array (Option Value)) (Ng : List Str) (a : Str) (gR : D → RR → S), mg x = some (.ref g) ∧ PySem.W.keepIn K (.ref g) = true ∧
    K.lookup g = some ⟨oc, od, .func (PySem.W.fnOf x x pg bg sg dV kV doc pm an cdv ct), osl⟩ ∧ PySem.W.codeIn K cdv x = true ∧ L2.Binds K (PySem.W.fnOf x x pg bg sg dV kV doc pm an cdv ct) [a] [] ∧ FnScope Ng [a] sg ∧ Ng[0]? = some a ∧ Vis sg a ∧
    (a == ("__debug__" : Str)) = false ∧ (a == ("__classdict__" : Str)) = false ∧ GivesL P w K mg base Ng x sg g cdv bg a k gR ∧ ∀ d0 r, runF 1 Ng.length (gR d0 r) [d0] = m r ∨ m r = .bad
/-- what the def makes of a lambda; what it answers is plain data -/
def eLam (js : List Nat) (m : RR → RR) (gb : M D) : M D := fun δ => match capD δ js with
  | some ds => match m (thunk gb ds) with
    | .ok d => if d.py.isSome then .ok d δ else .bad
    | _ => .bad
  | none => .bad
section
variable {X : Cx} {W : WX} {lev kb n : Nat} {x : Str} {gb : M D} {m : RR → RR} {js : List Nat} {fr : List Str} {params : Arguments} {body : Expr} {scope : Scope} {p lpos pos : Pos}
/-- the facts of the maker's table -/
structure TabM (X : Cx) : Prop where
  ex : ∃ c P, X.env.code = .ref c ∧ TabB X.base X.mg c P ∧ (P, X.env.qual ++ "<lambda>") ∈ Tbls.tb ∧ ∀ p ∈ Tbls.tb, p.1 = P → p.2 = X.env.qual ++ "<lambda>"
theorem de_lam (G : FnL X.prog X.w X.K X.mg X.base x (lev + 1) m) (tm : TabM X) (tk : Takes X W) (hr : Room kb X.A) (hlev : lev + 2 ≤ kb) (hg : Gl X x)
    (Sc : NdefX.NScope fr [] fr scope) (hfree : ∀ y ∈ scope.names, y.2 = .free → X.env.scope.names.lookup y.1 = some .cell ∨ X.env.scope.names.lookup y.1 = some .free) (hfr : ∀ y ∈ fr, (y, NameKind.free) ∈ scope.names) (hjs : js.map (fun j => X.N[j]?) = fr.map some)
    (hdef : defaultsOf params X.env = ([], []) := by rfl)
    (hbind : ∀ (q : Str) (cl : List (Str × Addr)) (pm cv ctv : Value), bindArgs (PySem.W.kla_fn "<lambda>" q params body scope cl pm cv ctv) ⟨[], []⟩ = pure [] := by intros; rfl)
    (hbody : ∀ (A : Around) (outer : List Env) (s : Shared) (H : Hp) (E : XK) (f c' : Addr), Room lev (A.deeper (NdefX.envF ⟨"<lambda>", X.env.qual ++ "<lambda>", params, [], scope, cloFrom X.env.cells scope.names [], c'⟩ f s.heap.objs.size)) →
      Takes (NdefX.ncx (L2.CX X.prog X.w) X.prog X.w X.K X.mg X.base fr ⟨"<lambda>", X.env.qual ++ "<lambda>", params, [], scope, cloFrom X.env.cells scope.names [], c'⟩ f A outer s H E) (WofE E) →
      DE (NdefX.ncx (L2.CX X.prog X.w) X.prog X.w X.K X.mg X.base fr ⟨"<lambda>", X.env.qual ++ "<lambda>", params, [], scope, cloFrom X.env.cells scope.names [], c'⟩ f A outer s H E) (WofE E) body gb)
    (hdb : (x == ("__debug__" : Str)) = false := by decide) :
    DE X W (.Call (.Name x p) [.Lambda params body scope lpos] [] pos) (eLam js m gb) := by
  obtain ⟨g, pg, bg, sg, dV, kV, doc, pm, cdv, ct, oc, an, od, osl, Ng, a, gR, hmg, hk, lk, hcg, hb, Sg, hN0, hva, hd, hcd, hG, hmr⟩ := G.ex
  obtain ⟨c, Pt, hcode, TBt, hmT, hu⟩ := tm.ex
  refine ⟨fun pins s σ H Q I ⟨P, B, F0, F, δ, τ, e, p⟩ => ?_⟩
  unfold eLam at p
  cases hcap : capD δ js with
  | none => rw [hcap] at p; exact p.elim
  | some ds =>
  rw [hcap] at p
  dsimp only at p
  cases hm : m (thunk gb ds) with
  | err x => rw [hm] at p; exact p.elim
  | bad => rw [hm] at p; exact p.elim
  | ok d =>
  rw [hm] at p
  dsimp only at p
  cases hpy : d.py.isSome with
  | false => rw [if_neg (by rw [hpy]; exact Bool.false_ne_true)] at p; exact p.elim
  | true =>
  rw [if_pos hpy] at p
  obtain ⟨z, hz⟩ := Option.isSome_iff_exists.mp hpy
  obtain ⟨l, cl1, cl2, cl3⟩ := cap_at e hcap
  have hfx : ∀ y ∈ scope.names, y.2 = .free → ∃ c, X.env.cells.lookup y.1 = some c := fun y hy e => (hfree y hy e).elim (fun z => I.ok.has _ (.inl z)) fun z => I.ok.has _ (.inr z)
  refine wpAny_Call_Name_kw (ld_glob I hg hmg ?_ hdb)
  refine PySem.W.callWith_K (h₀ := X.base) I.ok.mod.kin hk ?_ (by rfl) (by rfl)
  show wpAny _ _ (spliced ((false, eval (.Lambda params body scope lpos) X.env) :: backTo pos (starEach [] X.env))) _ _ s
  refine Calls.spliced_cons (lam_make2 I TBt hcode hmT hu e.tb hdef hfx fun f c' pm' ctv H1 s' I1 eN T1 hf hfn hfr' hco => ?_)
  refine Calls.spliced_nil ⟨I1.kIn, ?_⟩
  -- the maker's state behind the making
  have sm : Same (noT H) H1 := fun b o q => eN b o (noT_some.mp q).1 (noT_some.mp q).2.1
  have e1 : EO X.K P B F0 H1 F δ σ τ := e.grow sm T1 (Same.refl _) (fun b o q => eN b o (e.sf b o q) fun ps z => by subst z; exact e.nt b ps q) e.nt fun a q1 q2 => absurd q1 q2
  -- what the callee may know: the code object too
  have hcF : F c' = none ∨ F c' = some (CodeO c' (X.env.qual ++ "<lambda>")) := by
    cases zz : F c' with
    | none => exact .inl rfl
    | some o => exact .inr (by rw [← hco]; exact (e1.sf _ _ zz).symm)
  have sFc : Same (upd F c' (CodeO c' (X.env.qual ++ "<lambda>"))) H1 := fun b o q => by
    by_cases y : b = c'
    · subst y; rw [upd_same] at q; rw [hco]; exact q
    · rw [upd_ne y] at q; exact e1.sf b o q
  have sFF : Same F (upd F c' (CodeO c' (X.env.qual ++ "<lambda>"))) := fun b o q => by
    by_cases y : b = c'
    · subst y
      rcases hcF with w | w
      · rw [w] at q; cases q
      · rw [w] at q; rw [upd_same]; exact q
    · rw [upd_ne y]; exact q
  have hd0 : HasL X.K (upd F c' (CodeO c' (X.env.qual ++ "<lambda>"))) [D.lam f c' (X.env.qual ++ "<lambda>") l] [V.ref f] := .cons (.lam upd_same (by rw [cl1]; exact cl3.mono sFF)) .nil
  have rc : codeAny (model X.prog X.w) X.A (.call (.ref g) ⟨[.ref f], []⟩) (CR (L2.CX X.prog X.w) X.stack X.prog X.w H1 s' Q (fun _ _ _ => False)) s' := by
    refine run_ofS (N := Ng) (ps := [a]) (us := [.ref f]) (vs := [.ref f]) (k := lev + 1) lk hcg Sg (hr.mono hlev) I1.env0 (hb s' [.ref f] I1.kIn rfl) (.cons rfl .nil) rfl fun hr' => ?_
    refine ⟨_, hG X.A X.stack s' H1 (fun _ _ _ => False) (.lam f c' (X.env.qual ++ "<lambda>") l) (thunk gb ds) hr' (fun W pn xe p1 p2 tkz => ?_), noT H1, noT H1, _, _, _, [], EO.start (n := 1) (m := Ng.length) hd0 sFc (e1.nt.upd fun ps zz => codeO_ne ps zz) T1 rfl rfl, ?_⟩
    · -- the lambda is called
      refine ⟨fun pinsZ sZ σZ HZ QZ IZ ⟨PZ, BZ, F0Z, FZ, δZ, τZ, eZ, pZ⟩ => ?_⟩
      unfold eAct at pZ
      by_cases h0 : δZ[0]? = some (.im (.lam f c' (X.env.qual ++ "<lambda>") l))
      · rw [if_pos h0] at pZ
        obtain ⟨v0, hv0, hv⟩ := eZ.im 0 _ h0
        cases hv with
        | lam hcz hlz =>
        refine wpAny_Call_Name_kw (thn ((pe_var (pos := p1) (i := 0) hN0 hva hd hcd).run pinsZ sZ σZ HZ (fun v H1 => v = .ref f ∧ H1 = HZ) IZ ⟨.ref f, hv0, rfl, rfl⟩) fun u s1 ⟨v, Hq, I2, r1, q1⟩ => ?_)
        obtain ⟨ev, eH⟩ := q1
        subst ev
        subst eH
        obtain rfl : u = Value.ref f := r1
        have un : Un (frs X.stack) [] H1 Hq s'.heap s1.heap := I2.base
        have of1 := un.keep f _ hf hfn hfr' (by simp)
        refine PySem.W.callWith_F0 ⟨_, _, _, _, of1⟩ ?_
        have cp := NdefX.cells_of I1 (NdefX.Caps.made (fr := fr) (js := js) I1.ok hfree hfr hjs)
        have C1 : NdefX.CellsAt (cloFrom X.env.cells scope.names []) fr (js.map (NdefX.slotAt σ)) s1.heap Hq := by
          refine ⟨cp.len, fun y c e => ?_, cp.inj, fun i y e => ?_⟩
          · obtain ⟨n, v, o, ho, hdd⟩ := cp.all y c e
            obtain ⟨sl, q⟩ := un.any ho n (by simp)
            exact ⟨un.free c o ho n (by simp), v, _, q, hdd⟩
          · obtain ⟨c, hc, hv⟩ := cp.has i y e
            refine ⟨c, hc, fun v ev => ?_⟩
            obtain ⟨u, ru, o, ho, hdd⟩ := hv v ev
            obtain ⟨sl, q⟩ := un.any ho (cp.all y c hc).1 (by simp)
            exact ⟨u, ru, _, q, hdd⟩
        have hcz' : Hq c' = some (CodeO c' (X.env.qual ++ "<lambda>")) := eZ.sf _ _ hcz
        have rl := lam_run (P := X.prog) (w := X.w) (K := X.K) (mg := X.mg) (base := X.base) (ps := []) (fr := fr) (F := ⟨"<lambda>", X.env.qual ++ "<lambda>", params, [], scope, cloFrom X.env.cells scope.names [], c'⟩) (f := f) (k := lev) (outer := envOfC x sg s'.heap.objs.size g cdv :: X.stack)
          (s := s1) (H := Hq) (E := WE W σZ) (us := []) (vs := []) (Q := QZ) of1 (NdefX.codeO_at I2.hok hcz') Sc (hbind _ _ _ _ _) hr' I2.env0 C1 .nil rfl (fun hrr => hbody _ _ s1 Hq (WE W σZ) f c' hrr (takes_of rfl rfl rfl rfl)) ?_
        · refine wpAny_call (codeAny_mono rl fun r s3 hq => ?_)
          cases r with
          | error er => exact passAt tkz σZ pinsZ Hq s1 er s3 I2 hq
          | ok fl =>
            cases fl with
            | ret u => exact I2.after hq
            | next => exact False.elim hq
            | brk => exact False.elim hq
            | cont => exact False.elim hq
        · have st : NdefX.startF ([] ++ fr) [] (js.map (NdefX.slotAt σ)) = l.map (fun p => some p.1) := by
            have e1 : js.length = fr.length := by have := congrArg List.length hjs; simpa using this
            unfold NdefX.startF
            rw [cl2]
            have e2 : l.length = fr.length := by have := congrArg List.length cl2; simp at this; omega
            simp [e2]
          have hlz2 := hlz
          rw [cl1] at hlz2
          refine ⟨noT Hq, noT Hq, FZ, FZ, ds.map Sl.im, [], ?_, ?_⟩
          · rw [st]
            have := EO.start (K := X.K) (H := Hq) (F := FZ) (n := ds.length) (m := ds.length) (N := List.replicate ds.length "") hlz2 eZ.sf eZ.nt eZ.tb rfl (by simp)
            rw [Nat.sub_self] at this
            simp only [List.replicate_zero, List.append_nil] at this
            have e3 : L2.start (List.replicate ds.length "") (l.map (·.1)) = l.map (fun p => some p.1) := by
              have e4 : l.length = ds.length := by rw [← cl1]; simp
              unfold L2.start
              simp [e4]
            rw [e3] at this
            exact this
          · unfold thunk at pZ
            have bh : ∀ {H' F' : Hp} {δ' : En} {σ' : L2.St} {τ' : List (D × V)}, EO X.K (noT Hq) (noT Hq) FZ H' F' δ' σ' τ' → EO X.K PZ BZ F0Z H' F' δZ σZ τZ := fun {H' F' δ' σ' τ'} e' => eZ.beh e'.behs
            cases hgb : gb (ds.map Sl.im) with
            | bad => rw [hgb] at pZ; exact pZ.elim
            | err x δ' =>
              rw [hgb] at pZ
              exact fun cls dx H' F' e' ⟨z1, ad, fv, z2, z3, z4⟩ => pZ cls dx H' F' (bh e') ⟨z1, ad, fv, z2, eZ.dm' ad z3, z4⟩
            | ok dd δ' =>
              rw [hgb] at pZ
              exact fun v H' F' e' => pZ v H' F' ((bh e').push e'.top)
      · rw [if_neg h0] at pZ; exact pZ.elim
    · have hh := (hmr (.lam f c' (X.env.qual ++ "<lambda>") l) (thunk gb ds)).resolve_right (by rw [hm]; exact fun y => nomatch y)
      rw [hm] at hh
      unfold runF at hh
      have fin : ∀ {v : V} {H' F' : Hp} {δ' : En} {σ' : L2.St} {τ' : List (D × V)}, EO X.K (noT H1) (noT H1) (upd F c' (CodeO c' (X.env.qual ++ "<lambda>"))) H' F' δ' σ' τ' → Has X.K F' d v → Q v H' := fun {v H' F' δ' σ' τ'} e' hv => by
        have b := e'.behs
        rcases hcF with w | w
        · have hc2 : F' c' = some (CodeO c' (X.env.qual ++ "<lambda>")) := b.f _ _ upd_same
          refine p v H' (cut F' c') ((e1.beh ⟨b.h, b.t, fun a o q => ?_, fun a o q => ?_, fun a ps q => ?_, fun a q1 q2 => ?_⟩).push (hv.cut hc2 hz))
          · exact cut_some (b.f _ _ (sFF _ _ q)) fun zz => by subst zz; rw [w] at q; cases q
          · have q' : (if a = c' then none else F' a) = some o := q
            split at q'
            · cases q'
            · exact b.fh _ _ q'
          · have q' : (if a = c' then none else F' a) = some (.tbl ps) := q
            split at q'
            · cases q'
            · exact b.nt _ _ q'
          · have q' : (if a = c' then none else F' a) ≠ none := q2
            split at q'
            · exact absurd rfl q'
            · rename_i ne
              exact b.n a (by rw [upd_ne ne]; exact q1) q'
        · have eu : upd F c' (CodeO c' (X.env.qual ++ "<lambda>")) = F := by
            funext b
            by_cases y : b = c'
            · subst y; rw [upd_same, w]
            · rw [upd_ne y]
          rw [eu] at b
          exact p v H' F' ((e1.beh b).push hv)
      cases q : gR (.lam f c' (X.env.qual ++ "<lambda>") l) (thunk gb ds) ([D.lam f c' (X.env.qual ++ "<lambda>") l].map Sl.im ++ List.replicate (Ng.length - 1) Sl.no) with
      | bad => rw [q] at hh; cases hh
      | err x δ' => rw [q] at hh; cases hh
      | ok fl δ' =>
        rw [q] at hh
        cases fl with
        | nx => cases hh; exact fun σ' H' F' e' => fin e' .non
        | ret dr => cases hh; exact fun v σ' H' F' e' => fin e' e'.top
        | brk => cases hh
        | cnt => cases hh
  refine wpAny_call (codeAny_mono rc fun r s2 hq => ?_)
  cases r with
  | error er =>
    exact passAt (X := X) (W := fun _ _ _ _ => False) L2.takes0 σ pins H1 s' er s2 I1 hq
  | ok fl =>
    cases fl with
    | ret u => exact I1.after hq
    | next => exact False.elim hq
    | brk => exact False.elim hq
    | cont => exact False.elim hq
end
end PL
set_option Elab.async false
set_option linter.all false
set_option maxRecDepth 100000
namespace PL
open PySem PySem.Spec PyProof.Rows L2 LamX
variable [Tbls]
/-- the keys of all items, whole numbers -/
def keysOf (gb : M D) (cap : List D) : List D → Option (List Int)
  | [] => some []
  | d :: ds => match gb ((d :: cap).map Sl.im), keysOf gb cap ds with
    | .ok (.int k) _, some ks => some (k :: ks)
    | _, _ => none
def kAt (ks : List Int) (i : Nat) : Int := ks[i]?.getD 0
def ltK (ks : List Int) (i j : Nat) : Bool := decide (kAt ks i < kAt ks j)
def gtK (ks : List Int) (i j : Nat) : Bool := decide (kAt ks j < kAt ks i)
def eKey (bt : List Int → Nat → Nat → Bool) (js : List Nat) (ga gb : M D) : M D := M.bind ga fun d δ => match d with
  | .lst items => match capD δ js with
    | some cap => match keysOf gb cap items with
      | some ks => match items[argBest (bt ks) (items.length - 1)]? with
        | some r => .ok r δ
        | none => .bad
      | none => .bad
    | none => .bad
  | _ => .bad
end PL
set_option Elab.async false
set_option linter.all false
set_option maxRecDepth 100000
namespace PL
open PySem PySem.Spec PyProof.Rows L2 LamX
variable [Tbls]
section
variable {K : PySem.W.Frag} {P B F0 H F : Hp} {δ : En} {σ : L2.St} {τ : List (D × V)}
theorem set_no {i j : Nat} {s : Sl} (h : (δ.set i Sl.no)[j]? = some s) (n : s ≠ .no) : j ≠ i ∧ δ[j]? = some s := by
  by_cases z : i = j
  · subst z
    by_cases hl : i < δ.length
    · rw [List.getElem?_set_self hl] at h
      exact absurd (Option.some.inj h).symm n
    · rw [List.getElem?_eq_none (by simpa using hl)] at h; cases h
  · rw [List.getElem?_set_ne z] at h
    exact ⟨fun y => z y.symm, h⟩
/-- a name is forgotten (and its value, or not) -/
theorem EO.forget {i : Nat} (e : EO K P B F0 H F δ σ τ) {σ' : L2.St} (hl : σ'.length = σ.length) (hs : ∀ j, j ≠ i → σ'[j]? = σ[j]?) : EO K P B F0 H F (δ.set i .no) σ' τ := by
  have un : ∀ {j : Nat}, ((∃ l, (δ.set i Sl.no)[j]? = some (Sl.ow l)) ∨ ∃ l, (δ.set i Sl.no)[j]? = some (Sl.io l)) → j ≠ i ∧ ((∃ l, δ[j]? = some (Sl.ow l)) ∨ ∃ l, δ[j]? = some (Sl.io l)) := fun {j} h => by
    rcases h with ⟨l, h⟩ | ⟨l, h⟩
    · have := set_no h (fun z => nomatch z)
      exact ⟨this.1, .inl ⟨l, this.2⟩⟩
    · have := set_no h (fun z => nomatch z)
      exact ⟨this.1, .inr ⟨l, this.2⟩⟩
  refine { e with len := by rw [List.length_set, hl]; exact e.len, im := fun j d q => ?_, ow := fun j l q => ?_, io := fun j l q => ?_, ap := fun j k a q1 q2 q3 q4 => ?_ }
  · obtain ⟨h1, h2⟩ := set_no q (fun z => nomatch z)
    rw [hs j h1]; exact e.im j d h2
  · obtain ⟨h1, h2⟩ := set_no q (fun z => nomatch z)
    rw [hs j h1]; exact e.ow j l h2
  · obtain ⟨h1, h2⟩ := set_no q (fun z => nomatch z)
    rw [hs j h1]; exact e.io j l h2
  · obtain ⟨n1, o1⟩ := un q1
    obtain ⟨n2, o2⟩ := un q2
    rw [hs j n1] at q3
    rw [hs k n2] at q4
    exact e.ap j k a o1 o2 q3 q4
end
/-- slot i is nobody's behind the suite; the suite raises nothing -/
def noSlot (i : Nat) : Rs Fl → Rs Fl
  | .ok fl δ => .ok fl (δ.set i .no)
  | _ => .bad
open Classical in
/-- the same at all addresses -/
noncomputable def sameFor (f : Addr → Addr → Rs Fl) : Rs Fl := if ∀ a d, f a d = f 0 0 then f 0 0 else .bad
noncomputable def sTry (known : Str → Bool) (i : Nat) (gb : S) (gs : Addr → Addr → Exn → S) : S := fun δ => match gb δ with
  | .ok fl δ' => .ok fl δ'
  | .err x δ' => if known x.cls && decide (i < δ'.length) then sameFor fun a d => noSlot i (gs a d x (δ'.set i (.im (.exc a d x.fs)))) else .bad
  | .bad => .bad
theorem sameFor_eq {f : Addr → Addr → Rs Fl} (h : ∀ a d, f a d = f 0 0) : sameFor f = f 0 0 := if_pos h
section
variable {X : Cx} {W : WX} {x n : Str} {c : Value} {i : Nat} {body suite : List Stmt} {b₀ : Stmt} {np pos pos' : Pos} {gb : S} {gs : Addr → Addr → Exn → S} {known : Str → Bool}
/-- what the clause asks of the exceptions that may come -/
def Catches (K : PySem.W.Frag) (mg : Mg) (c : Value) (known : Str → Bool) : Prop := ∀ nm, known nm = true → ∃ D, mg nm = some (.ref D) ∧ PySem.W.exmOne K (.ref D) c = some true
theorem ds_try (hs : X.stack = X.env :: X.outer) (hf : X.env.frame = some X.env.locals) (hN : X.N.Nodup) (hi : X.N[i]? = some n) (hln : X.env.kindOf n = some .local) (hc : Names X x c) (tk : Takes X W) (hk : Catches X.K X.mg c known)
    (hb : ∀ (W : WX) (pn : List (Addr × Obj)) (xe : Value → Shared → Prop), Takes (X.tr pn xe) W → PassesOwn (model X.prog X.w) X.A X.env xe → DSs (X.tr pn xe) W body gb)
    (hsu : ∀ (a : Addr) (oe : Obj) (D d : Addr) (pn : List (Addr × Obj)) (e : Exn), known e.cls = true → X.mg e.cls = some (.ref D) → Zc (.ref D) (some d) oe → (∃ vs, oe.data = .fields vs) → DSs (X.suite a ((a, oe) :: pn)) W0 (b₀ :: suite) (gs a d e)) :
    DS X W (.Try body [.ExceptHandler (some (.Name x np)) (some n) (b₀ :: suite) pos'] [] [] pos) (sTry known i gb gs) := by
  refine PS.imp (ps_try_as (ts := fun a cls d Dn σ H => ∃ e D dd, known e.cls = true ∧ X.mg e.cls = some (.ref D) ∧ cls = .ref D ∧ d = some dd ∧ tS X.K X.mg W0 (gs a dd e) Dn σ H) (tb := fun W => tS X.K X.mg W gb) hs hf hN hi hln hc tk hb
    fun a oe cls d pn hz hfd => ⟨fun pins s σ H Dn I ⟨e, D, dd, k1, k2, k3, k4, q⟩ => ?_⟩) fun Dn σ H ⟨P, B, F0, F, δ, τ, e, p⟩ => ?_
  · subst k3 k4
    exact (hsu a oe D dd pn e k1 k2 hz hfd).run pins s σ H Dn I q
  · refine ⟨P, B, F0, F, δ, τ, e, ?_⟩
    unfold sTry at p
    cases q : gb δ with
    | bad => rw [q] at p; exact p
    | ok fl δ' => rw [q] at p; cases fl <;> exact p
    | err ex δ' =>
      rw [q] at p
      dsimp only at p
      intro cls dx σ' H' F' e' hx
      obtain ⟨m1, dd, fvs, hdx, hP, hH, hk1, hl1⟩ := hx
      subst hdx
      cases hkn : (known ex.cls && decide (i < δ'.length)) with
      | false => rw [hkn] at p; exact p.elim
      | true =>
        rw [hkn, if_pos rfl] at p
        simp only [Bool.and_eq_true, decide_eq_true_eq] at hkn
        obtain ⟨D, hD1, hD2⟩ := hk _ hkn.1
        rw [hD1] at m1
        have hcl := Option.some.inj m1
        subst hcl
        refine ⟨true, hD2, fun _ a ha => ⟨ex, D, dd, hkn.1, hD1, rfl, rfl, ?_⟩, fun z => nomatch z⟩
        have hsame : ∀ a d, noSlot i (gs a d ex (δ'.set i (.im (.exc a d ex.fs)))) = noSlot i (gs 0 0 ex (δ'.set i (.im (.exc 0 0 ex.fs)))) := by
          refine Classical.byContradiction fun hn => ?_
          unfold sameFor at p
          rw [if_neg hn] at p
          exact p
        rw [sameFor_eq hsame, ← hsame a dd] at p
        have key : ∃ F'', EO X.K P B F0 H' F'' δ' σ' τ ∧ F'' dd = some (.xd fvs) ∧ HasL X.K F'' (ex.fs.map (·.2)) (fvs.map (·.2)) := by
          cases z : F' dd with
          | some u =>
            have := e'.sf _ _ z
            rw [hH] at this
            cases this
            exact ⟨F', e', z, hl1⟩
          | none =>
            refine ⟨_, e'.adopt hH hP z fun j b ho hs => ?_, upd_same, hl1.mono (same_new z)⟩
            intro y
            subst y
            rcases ho with ⟨l, ho⟩ | ⟨l, ho⟩
            · obtain ⟨b, u, h1, h2, h3, h4, h5⟩ := e'.ow j l ho
              rw [hs] at h1; cases h1
              rw [hH] at h4; cases h4
              cases l <;> exact h5
            · obtain ⟨b, u, h1, h2, h3, h4, h5⟩ := e'.io j l ho
              rw [hs] at h1; cases h1
              rw [hH] at h4; cases h4
              cases l <;> exact h5
        obtain ⟨F'', e2, hF, hL⟩ := key
        have e3 := (e2.push (.exc (a := a) hF hk1.symm hL)).store (i := i) (by rw [← e2.len]; exact hkn.2)
        refine ⟨P, B, F0, F'', _, τ, e3, ?_⟩
        have nx : ∀ {H2 F2 : Hp} {δ2 : En} {σ2 : L2.St}, EO X.K P B F0 H2 F2 δ2 σ2 τ → EO X.K P B F0 H2 F2 (δ2.set i .no) (σ2.set i none) τ := fun {H2 F2 δ2 σ2} e4 => e4.forget (by rw [List.length_set]) fun j hj => List.getElem?_set_ne (fun y => hj y.symm)
        cases q2 : gs a dd ex (δ'.set i (.im (.exc a dd ex.fs))) with
        | bad => rw [q2] at p; exact p
        | err x2 δ2 => rw [q2] at p; exact p.elim
        | ok fl δ2 =>
          rw [q2] at p
          cases fl with
          | nx => exact fun σ2 H2 F2 e4 => p _ H2 F2 (nx e4)
          | brk => exact fun σ2 H2 F2 e4 => p _ H2 F2 (nx e4)
          | cnt => exact fun σ2 H2 F2 e4 => p _ H2 F2 (nx e4)
          | ret d => exact fun v σ2 H2 F2 e4 => p v σ2 H2 F2 (e4.forget rfl fun j hj => rfl)
end
/-- isinstance(n, T), n the caught exception -/
def rIsX (K : PySem.W.Frag) (D a d : Addr) : List V → Hp → VK → Prop := fun ys H Q => ∃ (c : V) (cv : Value) (b : Bool), ys = [.ref a, c] ∧ (∀ u, RelV c u → u = cv) ∧ PySem.W.kitOne K (.ref D) cv = some b ∧ (∃ fs, H d = some (.xd fs)) ∧ Q (.bl b) H
theorem call_isX {X : Cx} {a D d : Addr} {oe : Obj} {pn : List (Addr × Obj)} (C : ExcC X.K D) (hz : Zc (.ref D) (some d) oe) (hf : ∃ vs, oe.data = .fields vs) : CallR (X.suite a ((a, oe) :: pn)) (.builtin "isinstance") (rIsX X.K D a d) := by
  intro pins s σ H ys us Q I r h
  obtain ⟨c, cv, b, rfl, hcv, e, ⟨fs, hd⟩, q⟩ := h
  cases r with
  | cons rx rr =>
    cases rr with
    | cons rt rr =>
      cases rr
      cases rx
      have ec := hcv _ rt
      subst ec
      obtain ⟨hget, _⟩ := I.pin (a, oe) (List.mem_append.mpr (.inl List.mem_cons_self))
      obtain ⟨vs, hv⟩ := hf
      have hx : ObjOk X.prog X.w H s.heap d (.xd fs) := I.hok d _ hd
      obtain ⟨mA, hns, _⟩ := hx
      obtain ⟨od, ho, _⟩ := lookIn_ns hns
      have J : PySem.W.InstAt s.heap a oe D (some od) := ⟨hget, hz.1, by unfold PySem.W.notCls; rw [hv] <;> rfl, by rw [hz.2]; exact ho⟩
      obtain ⟨cd, hcd, _⟩ := PySem.W.any_some C.hd
      exact PySem.W.kia_one (PySem.W.kitx_exc (by rw [hcd]; rfl) C.hg C.hk C.hs C.ha C.hn C.ht C.hm) I.kIn J e (fun z => nomatch z) fun tk => ⟨.bl b, H, I.kept (t' := tk) fun _ _ z => z, rfl, q⟩
def eIsX (a d : Addr) (b : Bool) (ge : M D) : M D := M.bind ge fun v δ => match v with
  | .exc a' d' _ => if a' = a ∧ d' = d then .ok (.bl b) δ else .bad
  | _ => .bad
def eFldX (a d : Addr) (f : Str) (ge : M D) : M D := M.bind ge fun v δ => match v with
  | .exc a' d' fs => if a' = a ∧ d' = d then opt (fs.lookup f) δ else .bad
  | _ => .bad
theorem look_put {α : Type} (f g : Str) (y : α) (fs : List (Str × α)) : ((f, y) :: fs).lookup g = if g = f then some y else fs.lookup g := by
  by_cases h : g = f
  · subst h; simp [List.lookup]
  · rw [if_neg h]
    have e : (g == f) = false := by simpa using h
    simp [List.lookup, e]
theorem lookup_has {K : PySem.W.Frag} {F : Hp} {f : Str} {d : D} : ∀ {fs : List (Str × D)} {vs : List (Str × V)}, fs.map (·.1) = vs.map (·.1) → HasL K F (fs.map (·.2)) (vs.map (·.2)) → fs.lookup f = some d → ∃ v, vs.lookup f = some v ∧ Has K F d v
  | [], [], _, _, h => by cases h
  | [], _ :: _, h, _, _ => by cases h
  | _ :: _, [], h, _, _ => by cases h
  | (g, d1) :: fs, (g', v1) :: vs, h, hh, hl => by
    simp only [List.map_cons, List.cons.injEq] at h hh
    cases hh with
    | cons a b =>
      obtain ⟨rfl, h2⟩ := h
      rw [look_put] at hl
      rw [look_put]
      by_cases z : f = g
      · rw [if_pos z] at hl ⊢
        cases hl
        exact ⟨v1, rfl, a⟩
      · rw [if_neg z] at hl ⊢
        exact lookup_has h2 b hl
section
variable {X : Cx} {a Dc d : Addr} {oe : Obj} {pn : List (Addr × Obj)} {W : WX} {e t : Expr} {ge : M D} {p pos : Pos} {c : V} {cv : Value} {b : Bool}
theorem de_isX (C : ExcC X.K Dc) (hz : Zc (.ref Dc) (some d) oe) (hf : ∃ vs, oe.data = .fields vs) (hg : Gl (X.suite a ((a, oe) :: pn)) "isinstance") (hm : X.mg "isinstance" = none) (he : DE (X.suite a ((a, oe) :: pn)) W e ge) (ht : PE (X.suite a ((a, oe) :: pn)) t (tC c)) (hcv : ∀ u, RelV c u → u = cv)
    (hk : PySem.W.kitOne X.K (.ref Dc) cv = some b) (hst : starEach [e, t] X.env = (false, eval e X.env) :: starEach [t] X.env := by rfl) (hst2 : starEach [t] X.env = (false, eval t X.env) :: starEach [] X.env := by rfl) (hpl : (backTo pos (starEach [t] X.env)).any (·.1) = false := by rfl) :
    DE (X.suite a ((a, oe) :: pn)) W (.Call (.Name "isinstance" p) [e, t] [] pos) (eIsX a d b ge) := by
  refine PE.imp (pe_callB (X := X.suite a ((a, oe) :: pn)) (call_isX C hz hf) hg hm (by decide +kernel) (pa_cons he (pa_cons ht pa_nil hst2) hst) (by decide) (by decide) hst hpl) fun σ H Q ⟨P, B, F0, F, δ, τ, e, p⟩ => ?_
  refine seqE (mg := X.mg) e p fun v u H1 F1 δ1 e1 p1 => ?_
  split at p1
  · rename_i a' d' fs
    split at p1
    · rename_i hh
      obtain ⟨rfl, rfl⟩ := hh
      cases e1.top with
      | exc h1 h2 h3 => exact ⟨c, cv, b, rfl, hcv, hk, ⟨_, e1.sf _ _ h1⟩, p1 _ H1 F1 (e1.pop.push (.bl b))⟩
    · exact p1.elim
  · exact p1.elim
theorem de_fldX {f : Str} (T : XfC X.K Dc) (hno : PySem.W.findIn X.K (.ref Dc) f = some none) (hz : Zc (.ref Dc) (some d) oe) (hf : ∃ vs, oe.data = .fields vs) (he : DE (X.suite a ((a, oe) :: pn)) W e ge) (hb : attributeBase e f X.env (eval e X.env) = eval e X.env := by rfl) :
    DE (X.suite a ((a, oe) :: pn)) W (.Attribute e f pos) (eFldX a d f ge) := by
  refine PE.imp (pe_xf T hno hz hf he hb) fun σ H Q ⟨P, B, F0, F, δ, τ, e, p⟩ => ?_
  refine seqE (mg := X.mg) e p fun v u H1 F1 δ1 e1 p1 => ?_
  split at p1
  · rename_i a' d' fs
    split at p1
    · rename_i hh
      obtain ⟨rfl, rfl⟩ := hh
      unfold opt at p1
      split at p1
      · rename_i r q
        cases e1.top with
        | exc h1 h2 h3 =>
          obtain ⟨w, w1, w2⟩ := lookup_has h2 h3 q
          exact ⟨rfl, rfl, d', _, w, rfl, e1.sf _ _ h1, w1, p1 w H1 F1 (e1.pop.push w2)⟩
      · exact p1.elim
    · exact p1.elim
  · exact p1.elim
end
end PL
set_option Elab.async false
set_option linter.all false
set_option maxRecDepth 100000
namespace PL
open PySem PySem.Spec PyProof.Rows L2 LamX
variable [Tbls]
theorem wipe_wipe (vl : List Nat) (σ : L2.St) : wipe (wipe σ vl) vl = wipe σ vl := by
  have key : ∀ (vs us : List Nat) (σ : L2.St), (∀ v ∈ us, v ∈ vs) → wipe (wipe σ vs) us = wipe σ vs := by
    intro vs us
    induction us with
    | nil => intro σ _; rfl
    | cons u us ih =>
      intro σ hs
      show (wipe (wipe σ vs) us).set u none = wipe σ vs
      rw [ih σ fun v hv => hs v (List.mem_cons_of_mem _ hv)]
      refine List.ext_getElem? fun j => ?_
      by_cases hj : u = j
      · subst hj
        by_cases hz : u < (wipe σ vs).length
        · rw [List.getElem?_set_self hz]
          cases z : (wipe σ vs)[u]? with
          | none => rw [List.getElem?_eq_none_iff] at z; omega
          | some o =>
            cases o with
            | none => rfl
            | some w => exact absurd (hs u List.mem_cons_self) (wipe_some z).2
        · rw [List.getElem?_eq_none (by rw [List.length_set]; omega), List.getElem?_eq_none (by omega)]
      · rw [List.getElem?_set_ne hj]
  exact key vl vl σ fun _ h => h
def loopC2 (bd : Bd) (gt : M Bool) (gi1 : M (List D)) (bd1 : Bd) (gt1 : M Bool) (ge : M D) (vl vl1 : List Nat) : List D → List D → M (List D)
  | [], acc, δ => .ok acc δ
  | d :: ds, acc, δ => match bd d δ with
    | none => .bad
    | some δ1 => match gt δ1 with
      | .ok false δ2 => loopC2 bd gt gi1 bd1 gt1 ge vl vl1 ds acc (wipeD δ2 vl)
      | .ok true δ2 => match gi1 δ2 with
        | .ok es δ3 => match loopC bd1 gt1 ge vl1 es acc (wipeD δ3 vl1) with
          | .ok acc2 δ4 => loopC2 bd gt gi1 bd1 gt1 ge vl vl1 ds acc2 (wipeD δ4 vl)
          | _ => .bad
        | _ => .bad
      | _ => .bad
def mComp2 (gi : M (List D)) (bd : Bd) (gt : M Bool) (gi1 : M (List D)) (bd1 : Bd) (gt1 : M Bool) (ge : M D) (vl vl1 : List Nat) : M (List D) := M.bind gi fun ds δ => loopC2 bd gt gi1 bd1 gt1 ge vl vl1 ds [] (wipeD δ vl)
def eComp2 (gi : M (List D)) (bd : Bd) (gt : M Bool) (gi1 : M (List D)) (bd1 : Bd) (gt1 : M Bool) (ge : M D) (vl vl1 : List Nat) : M D := M.bind (mComp2 gi bd gt gi1 bd1 gt1 ge vl vl1) fun l => M.pure (.lst l)
section
variable {K : PySem.W.Frag} {mg : Mg} {P B F1 H F : Hp} {δ : En} {σ : L2.St} {τ : List (D × V)} {bd : Bd} {gt : M Bool} {ge : M D} {vl : List Nat}
/-- the clause that fills the list -/
theorem inner_read {L : Addr} {acc : List D} {accV : List V} {o₁ : HO} {ds : List D} {J : It} {R : Hp → Prop} (e : EO K (upd P L o₁) (upd B L (.lst accV)) F1 H F δ σ (acc.zip accV ++ τ)) (len : acc.length = accV.length) (fL : F L = none) (y : Yields K F ds J)
    (h : match loopC bd gt ge vl ds acc (wipeD δ vl) with
      | .ok acc2 δ2 => ∀ accV2 H' F', EO K (upd P L o₁) (upd B L (.lst accV2)) F1 H' F' δ2 (wipe σ vl) (acc2.zip accV2 ++ τ) → F' L = none → acc2.length = accV2.length → R H'
      | _ => False) :
    ∃ W1 : Nat → Nat → Hp → Prop, (∃ m, W1 0 m H) ∧ ∀ j k H, W1 j k H →
      (J.stop j H ∧ R H) ∨ (J.go j H ∧ ∃ Nx1 : Hp → Prop, (∀ H', Nx1 H' → ∃ k', k' < k ∧ W1 (j + 1) k' H') ∧ ∀ x H', J.yld j H x H' → tGt K vl bd x (wipe σ vl) H' fun σ3 H5 => wipe σ3 vl = wipe σ vl ∧ tT K mg (fun _ _ _ _ => False) gt σ3 H5 fun b H6 =>
        if b = true then tE K mg (fun _ _ _ _ => False) ge σ3 H6 fun y H7 => ∃ acc, H7 L = some (.lst acc) ∧ acc.length < sizeLine ∧ Nx1 (upd H7 L (.lst (acc ++ [y]))) else Nx1 H6) := by
  have e0 : EO K (upd P L o₁) (upd B L (.lst accV)) F H F (wipeD δ vl) (wipe σ vl) (acc.zip accV ++ τ) := e.rebase.wipe vl
  have back : ∀ {H' F' : Hp} {δ' : En} {accV2 : List V} {τ' : List (D × V)}, EO K (upd P L o₁) (upd B L (.lst accV2)) F H' F' δ' (wipe σ vl) τ' → EO K (upd P L o₁) (upd B L (.lst accV2)) F1 H' F' δ' (wipe σ vl) τ' := fun {H' F' δ' accV2 τ'} e' =>
    { e' with s0 := e.s0.trans e'.s0, nw := fun a q1 q2 => (Classical.em (F a = none)).elim (fun q => e'.nw a q q2) fun q => e.nw a q1 q }
  have fl : ∀ {H' F' : Hp} {δ' : En} {σ' : L2.St} {τ' : List (D × V)} {o : HO}, EO K (upd P L o₁) (upd B L o) F H' F' δ' σ' τ' → F' L = none := fun {H' F' δ' σ' τ' o} e' => by
    cases z : F' L with
    | none => rfl
    | some u =>
      have := e'.nw L fL (by rw [z]; exact fun y => nomatch y)
      rw [upd_same] at this
      cases this
  refine ⟨fun i m H => m = ds.length - i ∧ ∃ F' δ acc accV, EO K (upd P L o₁) (upd B L (.lst accV)) F H F' δ (wipe σ vl) (acc.zip accV ++ τ) ∧ acc.length = accV.length ∧ match loopC bd gt ge vl (ds.drop i) acc δ with
    | .ok acc2 δ2 => ∀ accV2 H' F', EO K (upd P L o₁) (upd B L (.lst accV2)) F1 H' F' δ2 (wipe σ vl) (acc2.zip accV2 ++ τ) → F' L = none → acc2.length = accV2.length → R H'
    | _ => False, ⟨_, rfl, F, _, acc, accV, e0, len, h⟩, ?_⟩
  clear h e0 len
  rintro i m H2 ⟨rfl, F2, δ2, acc, accV, e2, len, h⟩
  have sf : Same F H2 := e2.s0.trans e2.sf
  by_cases hlt : i < ds.length
  · refine .inr ⟨y.go i H2 sf hlt, fun H => ∃ F' δ acc accV, EO K (upd P L o₁) (upd B L (.lst accV)) F H F' δ (wipe σ vl) (acc.zip accV ++ τ) ∧ acc.length = accV.length ∧ match loopC bd gt ge vl (ds.drop (i + 1)) acc δ with
      | .ok acc2 δ2 => ∀ accV2 H' F', EO K (upd P L o₁) (upd B L (.lst accV2)) F1 H' F' δ2 (wipe σ vl) (acc2.zip accV2 ++ τ) → F' L = none → acc2.length = accV2.length → R H'
      | _ => False, fun H' h => ⟨ds.length - (i + 1), by omega, rfl, h⟩, fun x H' hy => ?_⟩
    have hd : ds[i]? = some ds[i] := List.getElem?_eq_getElem hlt
    obtain ⟨F3, e3⟩ := EO.item y e2 hd hy
    refine ⟨_, _, F, F3, δ2, acc.zip accV ++ τ, ds[i], e3, ?_⟩
    rw [drop_cons hd] at h
    unfold loopC at h
    cases q : bd ds[i] δ2 with
    | none => rw [q] at h; exact h
    | some δ3 =>
      rw [q] at h
      dsimp only at h ⊢
      intro σ4 hw e4
      have hw' : wipe σ4 vl = wipe σ vl := hw.trans (wipe_wipe vl σ)
      refine ⟨hw', _, _, F, F3, δ3, _, e4, ?_⟩
      cases q2 : gt δ3 with
      | bad => rw [q2] at h; exact h
      | err x δ5 => rw [q2] at h; exact h.elim
      | ok b δ5 =>
        rw [q2] at h
        cases b with
        | false =>
          intro H5 F5 e5
          show if false = true then _ else _
          rw [if_neg Bool.false_ne_true]
          refine ⟨F5, _, acc, accV, ?_, len, h⟩
          have := e5.wipe vl
          rw [hw'] at this
          exact this
        | true =>
          intro H5 F5 e5
          show if true = true then _ else _
          rw [if_pos rfl]
          refine ⟨_, _, F, F5, δ5, _, e5, ?_⟩
          dsimp only at h
          cases q3 : ge δ5 with
          | bad => rw [q3] at h; exact h
          | err x δ6 => rw [q3] at h; exact h.elim
          | ok r δ6 =>
            rw [q3] at h
            dsimp only at h
            intro v H6 F6 e6
            by_cases hlim : acc.length < LIM
            · rw [if_pos hlim] at h
              refine ⟨accV, e6.sb _ _ upd_same, lim_lt (by rw [← len]; exact hlim), F6, _, acc ++ [r], accV ++ [v], ?_, by rw [List.length_append, List.length_append, len]; rfl, h⟩
              have e7 := (e6.fill (o' := .lst (accV ++ [v])) (fl e6)).wipe vl
              rw [hw'] at e7
              refine e7.sub fun p hp => ?_
              rw [List.zip_append len] at hp
              simp only [List.zip_cons_cons, List.zip_nil_right, List.mem_append, List.mem_cons, List.not_mem_nil, or_false] at hp ⊢
              rcases hp with (hp | hp) | hp
              · exact .inr (.inl hp)
              · exact .inl hp
              · exact .inr (.inr hp)
            · rw [if_neg hlim] at h
              exact h.elim
  · refine .inl ⟨y.stop i H2 sf (by omega), ?_⟩
    rw [List.drop_eq_nil_of_le (by omega)] at h
    exact h accV H2 F2 (back e2) (fl e2) len
theorem comp2_read {W : WX} {F0 : Hp} {gi gi1 : M (List D)} {bd1 : Bd} {gt1 : M Bool} {vl1 : List Nat} {Q : VK} (e : EO K P B F0 H F δ σ τ) (hsub : ∀ v ∈ vl1, v ∈ vl)
    (hbad : gi δ = .bad → False) (herr : ∀ x δ', gi δ = .err x δ' → ∀ cls dx H' F', EO K P B F0 H' F' δ' σ τ → XIs K mg P F' H' x cls dx → W cls dx σ H')
    (hok : ∀ ds δ', gi δ = .ok ds δ' → match loopC2 bd gt gi1 bd1 gt1 ge vl vl1 ds [] (wipeD δ' vl) with
      | .ok acc δ2 => ∀ L accV H' F', P L = none → H' L = some (.lst accV) → F' L = none → (∀ (i : Nat) (a : Addr), ((∃ l, δ2[i]? = some (Sl.ow l)) ∨ ∃ l, δ2[i]? = some (Sl.io l)) → σ[i]? = some (some (V.ref a)) → a ≠ L) → EO K P B F0 H' F' δ2 σ τ → HasL K F' acc accV → Q (.ref L) H'
      | _ => False) :
    tLc2 (tI K mg W gi) (tGt K vl bd) (tT K mg (fun _ _ _ _ => False) gt) (tI K mg (fun _ _ _ _ => False) gi1) (tGt K vl1 bd1) (tT K mg (fun _ _ _ _ => False) gt1) (tE K mg (fun _ _ _ _ => False) ge) vl vl1 σ H Q := by
  refine ⟨P, B, F0, F, δ, τ, e, ?_⟩
  cases q : gi δ with
  | bad => exact (hbad q).elim
  | err x δ' => exact herr x δ' q
  | ok ds δ1 =>
    intro J H1 F1 e1 y L hL
    have h := hok ds δ1 q
    clear hbad herr hok q e
    have pL : P L = none := e1.dm L hL
    have bL : B L = none := e1.bp L pL
    have f1L : F1 L = none := e1.fresh hL
    have e2 : EO K (upd P L (.lst [])) (upd B L (.lst [])) F1 (upd H1 L (.lst [])) F1 (wipeD δ1 vl) (wipe σ vl) (([] : List D).zip ([] : List V) ++ τ) := (e1.rebase.aside hL).wipe vl
    refine ⟨fun i m H => m = ds.length - i ∧ ∃ F δ acc accV, EO K (upd P L (.lst [])) (upd B L (.lst accV)) F1 H F δ (wipe σ vl) (acc.zip accV ++ τ) ∧ acc.length = accV.length ∧ match loopC2 bd gt gi1 bd1 gt1 ge vl vl1 (ds.drop i) acc δ with
      | .ok acc δ2 => ∀ L accV H' F', P L = none → H' L = some (.lst accV) → F' L = none → (∀ (i : Nat) (a : Addr), ((∃ l, δ2[i]? = some (Sl.ow l)) ∨ ∃ l, δ2[i]? = some (Sl.io l)) → σ[i]? = some (some (V.ref a)) → a ≠ L) → EO K P B F0 H' F' δ2 σ τ → HasL K F' acc accV → Q (.ref L) H'
      | _ => False, ⟨_, rfl, F1, _, [], [], e2, rfl, h⟩, ?_⟩
    clear h e2
    rintro i m H2 ⟨rfl, F2, δ2, acc, accV, e2, len, h⟩
    have sf : Same F1 H2 := e2.s0.trans e2.sf
    have hDL : H2 L = some (.lst accV) := e2.sb _ _ upd_same
    have fL : ∀ {H F : Hp} {δ : En} {σ : L2.St} {τ : List (D × V)} {o : HO}, EO K (upd P L (.lst [])) (upd B L o) F1 H F δ σ τ → F L = none := fun {H F δ σ τ o} e => by
      cases z : F L with
      | none => rfl
      | some u =>
        have := e.nw L f1L (by rw [z]; exact fun y => nomatch y)
        rw [upd_same] at this
        cases this
    by_cases hlt : i < ds.length
    · refine .inr ⟨y.go i H2 sf hlt, fun H => ∃ F δ acc accV, EO K (upd P L (.lst [])) (upd B L (.lst accV)) F1 H F δ (wipe σ vl) (acc.zip accV ++ τ) ∧ acc.length = accV.length ∧ match loopC2 bd gt gi1 bd1 gt1 ge vl vl1 (ds.drop (i + 1)) acc δ with
        | .ok acc δ2 => ∀ L accV H' F', P L = none → H' L = some (.lst accV) → F' L = none → (∀ (i : Nat) (a : Addr), ((∃ l, δ2[i]? = some (Sl.ow l)) ∨ ∃ l, δ2[i]? = some (Sl.io l)) → σ[i]? = some (some (V.ref a)) → a ≠ L) → EO K P B F0 H' F' δ2 σ τ → HasL K F' acc accV → Q (.ref L) H'
        | _ => False, fun H' h => ⟨ds.length - (i + 1), by omega, rfl, h⟩, fun x H' hy => ?_⟩
      have hd : ds[i]? = some ds[i] := List.getElem?_eq_getElem hlt
      obtain ⟨F3, e3⟩ := EO.item y e2 hd hy
      refine ⟨_, _, F1, F3, δ2, acc.zip accV ++ τ, ds[i], e3, ?_⟩
      rw [drop_cons hd] at h
      unfold loopC2 at h
      cases q : bd ds[i] δ2 with
      | none => rw [q] at h; exact h
      | some δ3 =>
        rw [q] at h
        dsimp only at h ⊢
        intro σ4 hw e4
        have hw' : wipe σ4 vl = wipe σ vl := hw.trans (wipe_wipe vl σ)
        refine ⟨hw', _, _, F1, F3, δ3, _, e4, ?_⟩
        cases q2 : gt δ3 with
        | bad => rw [q2] at h; exact h
        | err x δ5 => rw [q2] at h; exact h.elim
        | ok b δ5 =>
          rw [q2] at h
          cases b with
          | false =>
            intro H5 F5 e5
            show if false = true then _ else _
            rw [if_neg Bool.false_ne_true]
            refine ⟨F5, _, acc, accV, ?_, len, h⟩
            have := e5.wipe vl
            rw [hw'] at this
            exact this
          | true =>
            intro H5 F5 e5
            show if true = true then _ else _
            rw [if_pos rfl]
            refine ⟨_, _, F1, F5, δ5, _, e5, ?_⟩
            dsimp only at h
            cases q3 : gi1 δ5 with
            | bad => rw [q3] at h; exact h
            | err x δ6 => rw [q3] at h; exact h.elim
            | ok es δ6 =>
              rw [q3] at h
              dsimp only at h
              intro J1 H6 F6 e6 y1
              refine inner_read e6 len (fL e6) y1 ?_
              cases q4 : loopC bd1 gt1 ge vl1 es acc (wipeD δ6 vl1) with
              | bad => rw [q4] at h; exact h
              | err x δ7 => rw [q4] at h; exact h.elim
              | ok acc2 δ7 =>
                rw [q4] at h
                dsimp only at h ⊢
                intro accV2 H7 F7 e7 _ len2
                have e8 := e7.unwipe.wipe vl
                rw [hw'] at e8
                exact ⟨F7, _, acc2, accV2, e8, len2, h⟩
    · refine .inl ⟨y.stop i H2 sf (by omega), ?_⟩
      rw [List.drop_eq_nil_of_le (by omega)] at h
      have e3 := (e2.unaside pL bL e1.bp).unwipe
      have e4 := e1.unbase (e3.sub (τ' := τ) fun p q => List.mem_append_right _ q)
      refine h L accV H2 F2 pL hDL (fL e2) (fun j a ho hs => ?_) e4 (e2.topL len)
      rcases ho with ⟨l, ho⟩ | ⟨l, ho⟩
      · obtain ⟨b, vs, h1, h2, _⟩ := e2.ow j l ho
        have := (wipe_some h1).1
        rw [hs] at this
        cases this
        intro z
        subst z
        rw [upd_same] at h2
        cases h2
      · obtain ⟨b, vs, h1, h2, _⟩ := e2.io j l ho
        have := (wipe_some h1).1
        rw [hs] at this
        cases this
        intro z
        subst z
        have h6 := h2.1
        rw [upd_same] at h6
        cases h6
end
section
variable {X : Cx} {W : WX} {tg iter tg1 iter1 elt : Expr} {ifs ifs1 : List Expr} {scope : Scope} {own : List (Str × Nat)} {gi gi1 : M (List D)} {bd bd1 : Bd} {gt gt1 : M Bool} {ge : M D} {vl1 : List Nat} {pos : Pos}
theorem de_comp2 (hc : X.calm = true) (hN : X.N.Nodup) (hi : DI X W tg iter gi) (ok : BlkOk X.N X.env.scope scope own) (hv : ∀ i ∈ vl1, i ∈ own.map (·.2))
    (hg : ∀ (s : Shared) (H : Hp) (C : Addr) (cl : List (Str × Addr)) (fp : List Addr), DG (X.blk s H scope (compEnvC scope cl C X.env) fp) (own.map (·.2)) tg bd) (ht : ∀ (s : Shared) (H : Hp) (C : Addr) (cl : List (Str × Addr)) (fp : List Addr), DTs (X.blk s H scope (compEnvC scope cl C X.env) fp) W0 ifs gt)
    (hi1 : ∀ (s : Shared) (H : Hp) (C : Addr) (cl : List (Str × Addr)) (fp : List Addr), DI (X.blk s H scope (compEnvC scope cl C X.env) fp) W0 tg1 iter1 gi1)
    (hg1 : ∀ (s : Shared) (H : Hp) (C : Addr) (cl : List (Str × Addr)) (fp : List Addr), DG (X.blk s H scope (compEnvC scope cl C X.env) fp) vl1 tg1 bd1) (ht1 : ∀ (s : Shared) (H : Hp) (C : Addr) (cl : List (Str × Addr)) (fp : List Addr), DTs (X.blk s H scope (compEnvC scope cl C X.env) fp) W0 ifs1 gt1)
    (he : ∀ (s : Shared) (H : Hp) (C : Addr) (cl : List (Str × Addr)) (fp : List Addr), DE (X.blk s H scope (compEnvC scope cl C X.env) fp) W0 elt ge) (hs : ∀ x, foldedSetIterable iter X.env x = pure x := by intro _; rfl) (hs1 : ∀ env x, foldedSetIterable iter1 env x = pure x := by intro _ _; rfl) :
    DE X W (.ListComp elt [⟨tg, iter, ifs, 0⟩, ⟨tg1, iter1, ifs1, 0⟩] scope pos) (eComp2 gi bd gt gi1 bd1 gt1 ge (own.map (·.2)) vl1) := by
  refine PE.imp (pe_lc2 (g := tGt X.K (own.map (·.2)) bd) (tt := tT X.K X.mg W0 gt) (wi1 := tI X.K X.mg W0 gi1) (g1 := tGt X.K vl1 bd1) (tt1 := tT X.K X.mg W0 gt1) (te := tE X.K X.mg W0 ge) hc hN hi ok hv hg ht hi1 hg1 ht1 he hs hs1) fun σ H Q ⟨P, B, F0, F, δ, τ, e, p⟩ => ?_
  unfold eComp2 mComp2 M.bind at p
  refine comp2_read e hv (fun q => ?_) (fun x δ' q => ?_) fun ds δ' q => ?_
  · rw [q] at p; exact p
  · rw [q] at p; exact p
  · rw [q] at p
    dsimp only at p
    cases q2 : loopC2 bd gt gi1 bd1 gt1 ge (own.map (·.2)) vl1 ds [] (wipeD δ' (own.map (·.2))) with
    | bad => rw [q2] at p; exact p
    | err x δ2 =>
      exfalso
      have key : ∀ (ds acc : List D) (δ : En) (x : Exn) (δ2 : En), loopC2 bd gt gi1 bd1 gt1 ge (own.map (·.2)) vl1 ds acc δ ≠ .err x δ2 := by
        intro ds
        induction ds with
        | nil => intro acc δ x δ2 z; cases z
        | cons d ds ih =>
          intro acc δ x δ2 z
          unfold loopC2 at z
          split at z
          · cases z
          · split at z
            · exact ih _ _ _ _ z
            · split at z
              · split at z
                · exact ih _ _ _ _ z
                · cases z
              · cases z
            · cases z
      exact key _ _ _ _ _ q2
    | ok acc δ2 =>
      rw [q2] at p
      exact fun L accV H' F' pL hL fL hn e' hl => p _ H' _ ((e'.adopt hL pL fL hn).push (.lst upd_same (hl.mono (same_new fL))))
end
end PL
set_option Elab.async false
set_option linter.all false
set_option maxRecDepth 100000
namespace PL
open PySem PySem.Spec PyProof.Rows L2 LamX
variable [Tbls]
def noL (F : Hp) : Hp := fun b => match F b with
  | some (.lst _) => none
  | o => o
inductive LL (K : PySem.W.Frag) (F Z : Hp) : List Addr → List (List D) → Prop
  | nil : LL K F Z [] []
  | cons {b : Addr} {ws : List V} {l : List D} {bs : List Addr} {ls : List (List D)} : Z b = some (.lst ws) → HasL K F l ws → LL K F Z bs ls → LL K F Z (b :: bs) (l :: ls)
theorem LL.mono {K : PySem.W.Frag} {F F' Z Z' : Hp} (f : Same F F') (z : Same Z Z') {bs : List Addr} {ls : List (List D)} (h : LL K F Z bs ls) : LL K F' Z' bs ls := by
  induction h with
  | nil => exact .nil
  | cons h1 h2 _ ih => exact .cons (z _ _ h1) (h2.mono f) ih
theorem LL.has {K : PySem.W.Frag} {F Z G : Hp} {bs : List Addr} {ls : List (List D)} (h : LL K F Z bs ls) (f : Same F G) (z : Same Z G) : HasL K G (ls.map D.lst) (bs.map V.ref) := by
  induction h with
  | nil => exact .nil
  | cons h1 h2 _ ih => exact .cons (.lst (z _ _ h1) (h2.mono f)) ih
theorem LL.len {K : PySem.W.Frag} {F Z : Hp} {bs : List Addr} {ls : List (List D)} (h : LL K F Z bs ls) : bs.length = ls.length := by
  induction h with
  | nil => rfl
  | cons h1 h2 _ ih => simp [ih]
theorem LL.at {K : PySem.W.Frag} {F Z : Hp} {bs : List Addr} {ls : List (List D)} (h : LL K F Z bs ls) : ∀ b ∈ bs, ∃ ws, Z b = some (.lst ws) := by
  induction h with
  | nil => exact fun b z => nomatch z
  | @cons b ws l bs ls h1 h2 _ ih => exact fun c hc => (List.mem_cons.mp hc).elim (fun z => by subst z; exact ⟨ws, h1⟩) (ih c)
end PL
set_option Elab.async false
set_option linter.all false
set_option maxRecDepth 100000
namespace PL
open PySem PySem.Spec PyProof.Rows L2 LamX
variable [Tbls]
structure CodeF (mg : Mg) (base : Heap) (cdv : Value) (qual : Str) : Prop where
  ex : ∃ c P, cdv = .ref c ∧ TabB base mg c P ∧ (P, (qual ++ ".<locals>.") ++ "<lambda>") ∈ Tbls.tb ∧ ∀ p ∈ Tbls.tb, p.1 = P → p.2 = (qual ++ ".<locals>.") ++ "<lambda>"
section
variable {P : Program} {w : World} {K : PySem.W.Frag} {mg : Str → Option Value} {base : Heap}
theorem fn_okT {x qual : Str} {st : Stmt} {f : Addr} {fd : FuncData} {N ps : List Str} {k n m : Nat} {g : S} (F : Fun K x qual st f fd) (cf : CodeF mg base fd.code qual) (Sc : FnScope N ps (defScope st)) (hn : ps.length = n) (hm : N.length = m)
    (hbody : ∀ (cdv : Value) (A : Around) (outer : List Env) (s : Shared) (H : Hp) (E : XK), Room k (A.deeper (envOfC qual (defScope st) s.heap.objs.size f cdv)) →
      Takes (cxOf (L2.CX P w) P w K mg base N qual (defScope st) f cdv A outer s H E) (WofE E) → TabM (cxOf (L2.CX P w) P w K mg base N qual (defScope st) f cdv A outer s H E) → DSs (cxOf (L2.CX P w) P w K mg base N qual (defScope st) f cdv A outer s H E) (WofE E) (defBody st) g) :
    FnOk P w K mg base (L2.CX P w) (k + 1) f fd ps (spD K mg n (runF n m g)) := by
  obtain ⟨oc, od, kV, doc, pm, an, cdv, ct, osl, rfl, lk, hcd⟩ := F.ex
  refine fn_of lk hcd Sc (fun vs H Q E h => by rw [hn]; exact spD_len h) fun A outer s H vs Q E hr ⟨ds, F1, hlen, sf, nt, tb, hl, p⟩ => ?_
  refine ⟨_, hbody cdv A outer s H E hr (takes_of rfl rfl rfl rfl) ⟨by
    obtain ⟨c, P, h1, h2, h3, h4⟩ := cf.ex
    exact ⟨c, P, h1, h2, h3, h4⟩⟩, noT H, noT H, F1, F1, _, [], EO.start hl sf nt tb hlen hm, ?_⟩
  unfold runF at p
  cases q : g (ds.map Sl.im ++ List.replicate (m - n) Sl.no) with
  | bad => rw [q] at p; exact p
  | err x δ' =>
    rw [q] at p
    exact fun cls dx σ' H' F' e z => p cls dx H' F' e.behs z
  | ok fl δ' =>
    rw [q] at p
    cases fl with
    | nx => exact fun σ' H' F' e => p .non H' F' e.behs .non
    | ret d => exact fun v σ' H' F' e => p v H' F' e.behs e.top
    | brk => exact p.elim
    | cnt => exact p.elim
/-- a def that is handed a lambda -/
theorem fnL_of {x a : Str} {st : Stmt} {f : Addr} {fd : FuncData} {N : List Str} {k : Nat} {gR : D → RR → S} {m : RR → RR} (F : Fun K x x st f fd) (hmg : mg x = some (.ref f)) (hb : Binds K fd [a] []) (Sc : FnScope N [a] (defScope st)) (h0 : N[0]? = some a) (hv : Vis (defScope st) a)
    (hd : (a == ("__debug__" : Str)) = false) (hcd : (a == ("__classdict__" : Str)) = false) (hG : ∀ cdv, GivesL P w K mg base N x (defScope st) f cdv (defBody st) a k gR) (hm : ∀ d0 r, runF 1 N.length (gR d0 r) [d0] = m r ∨ m r = .bad) : FnL P w K mg base x k m := by
  obtain ⟨oc, od, kV, doc, pm, an, cdv, ct, osl, rfl, lk, hc⟩ := F.ex
  exact ⟨f, defArgs st, defBody st, defScope st, .none, kV, doc, pm, cdv, ct, oc, an, od, osl, N, a, gR, hmg, F.kp, lk, hc, hb, Sc, h0, hv, hd, hcd, hG cdv, hm⟩
end
structure XFacts (K : PySem.W.Frag) (mg : Mg) (known : Str → Bool) (isaB : Str → Str → Bool) (Ts fs : List Str) : Prop where
  all : ∀ nm, known nm = true → ∃ D, mg nm = some (.ref D) ∧ ExcC K D ∧ XfC K D ∧ (∀ f ∈ fs, PySem.W.findIn K (.ref D) f = some none) ∧ PySem.W.kitOne K (.ref D) (.type "ValueError") = some (isaB nm "ValueError") ∧
    ∀ T ∈ Ts, ∃ C, mg T = some (.ref C) ∧ PySem.W.kitOne K (.ref D) (.ref C) = some (isaB nm T)
section
variable {X : Cx} {a Dc d : Addr} {oe : Obj} {pn : List (Addr × Obj)} {W : WX} {e : Expr} {ge : M D} {p p2 pos : Pos} {known : Str → Bool} {isaB : Str → Str → Bool} {Ts fs : List Str} {T f : Str} {ex : Exn}
theorem de_isXo (xf : XFacts X.K X.mg known isaB Ts fs) (hkn : known ex.cls = true) (hD : X.mg ex.cls = some (.ref Dc)) (hz : Zc (.ref Dc) (some d) oe) (hf : ∃ vs, oe.data = .fields vs) (hg : Gl (X.suite a ((a, oe) :: pn)) "isinstance") (hm : X.mg "isinstance" = none) (he : DE (X.suite a ((a, oe) :: pn)) W e ge)
    (hT : T ∈ Ts) (hgT : Gl (X.suite a ((a, oe) :: pn)) T) (hdT : (T == ("__debug__" : Str)) = false := by decide) (hst : starEach [e, .Name T p2] X.env = (false, eval e X.env) :: starEach [.Name T p2] X.env := by rfl) :
    DE (X.suite a ((a, oe) :: pn)) W (.Call (.Name "isinstance" p) [e, .Name T p2] [] pos) (eIsX a d (isaB ex.cls T) ge) := by
  obtain ⟨D2, h1, h2, h3, h4, h5, h6⟩ := xf.all _ hkn
  rw [hD] at h1
  cases h1
  obtain ⟨C, k1, k2⟩ := h6 T hT
  exact de_isX (cv := .ref C) (c := .ref C) h2 hz hf hg hm he (pe_glob (X := X.suite a ((a, oe) :: pn)) hgT k1 (v := .ref C) rfl hdT) (fun u r => r) k2 hst
theorem de_isXv (xf : XFacts X.K X.mg known isaB Ts fs) (hkn : known ex.cls = true) (hD : X.mg ex.cls = some (.ref Dc)) (hz : Zc (.ref Dc) (some d) oe) (hf : ∃ vs, oe.data = .fields vs) (hg : Gl (X.suite a ((a, oe) :: pn)) "isinstance") (hm : X.mg "isinstance" = none) (he : DE (X.suite a ((a, oe) :: pn)) W e ge)
    (hgT : Gl (X.suite a ((a, oe) :: pn)) "ValueError") (hmT : X.mg "ValueError" = none) (hst : starEach [e, .Name "ValueError" p2] X.env = (false, eval e X.env) :: starEach [.Name "ValueError" p2] X.env := by rfl) :
    DE (X.suite a ((a, oe) :: pn)) W (.Call (.Name "isinstance" p) [e, .Name "ValueError" p2] [] pos) (eIsX a d (isaB ex.cls "ValueError") ge) := by
  obtain ⟨D2, h1, h2, h3, h4, h5, h6⟩ := xf.all _ hkn
  rw [hD] at h1
  cases h1
  exact de_isX (cv := .type "ValueError") (c := .ty "ValueError") h2 hz hf hg hm he (pe_bltn (X := X.suite a ((a, oe) :: pn)) hgT hmT PyProof.Rows.Boot.«ValueError» (v := .ty "ValueError") rfl (by decide) (by decide)) (fun u r => r) h5 hst
theorem de_fldXo (xf : XFacts X.K X.mg known isaB Ts fs) (hkn : known ex.cls = true) (hD : X.mg ex.cls = some (.ref Dc)) (hz : Zc (.ref Dc) (some d) oe) (hf : ∃ vs, oe.data = .fields vs) (he : DE (X.suite a ((a, oe) :: pn)) W e ge) (hF : f ∈ fs)
    (hb : attributeBase e f X.env (eval e X.env) = eval e X.env := by rfl) : DE (X.suite a ((a, oe) :: pn)) W (.Attribute e f pos) (eFldX a d f ge) := by
  obtain ⟨D2, h1, h2, h3, h4, h5, h6⟩ := xf.all _ hkn
  rw [hD] at h1
  cases h1
  exact de_fldX h3 (h4 f hF) hz hf he hb
end
end PL
namespace PL
open PySem PySem.Spec PyProof.Rows L2 LamX
variable [Tbls]
theorem dt_isN {X : Cx} {W : WX} {a : Expr} {ga : M D} {j : Nat} {p1 p2 : Pos} (ha : DE X W a ga) : DT X W (.Compare a [.Is] [.Constant .none j p1] p2) (asB (M.bind ga fun d => opt (dIsN d))) := by
  refine PT.imp (pt_cmp (pc_isN ha) rfl) fun σ H Q ⟨P, B, F0, F, δ, τ, e, p⟩ => ?_
  unfold asB at p
  have hb : ∀ (k : D → M D) (k2 : D → M Bool) (δ : En), M.bind (M.bind ga k) k2 δ = M.bind ga (fun d => M.bind (k d) k2) δ := fun k k2 δ => by
    unfold M.bind
    cases ga δ <;> rfl
  rw [hb] at p
  refine seqEB (k := fun d => M.bind (opt (dIsN d)) _) e p fun d v H1 F1 δ1 e1 p1 => ?_
  have hd := e1.top
  have hs : ∀ {d3 : D}, dIsN d = some d3 → d3 = .bl (decide (v = V.non)) := fun {d3} q => by cases hd <;> cases q <;> rfl
  unfold M.bind opt at p1
  cases q : dIsN d with
  | none => rw [q] at p1; exact p1.elim
  | some d3 =>
    rw [q, hs q] at p1
    exact ⟨_, rfl, p1 H1 F1 e1.pop⟩
end PL
set_option Elab.async false
set_option linter.all false
set_option maxRecDepth 100000
namespace PL
open PySem PySem.Spec PyProof.Rows L2 LamX He
variable [Tbls]
def oexB (C : Addr) (K : PySem.W.Frag) : Bool := (match K.lookup C with
  | some ⟨.type "type", _, .cls cd, sl⟩ => (match cd.mro, sl.toList with
    | .ref C' :: bm, [_, _, _, _, some (.builtin n), _] => decide (C' = C) && (decide (n = "ValueError.__new__") && (!cd.hasDel && (cd.hasDict && PySem.HandSPX.refsVE bm)))
    | _, _ => false)
  | _ => false) && (decide (PySem.W.findIn K (.ref C) "__setattr__" = some (some (.builtin "object.__setattr__"))) && (decide (PySem.W.subIn K (.ref C) (.type "BaseException") = some true) &&
    (decide (PySem.W.typeIn K (.ref C) = some (.type "type")) && PySem.W.keepIn K (.ref C))))
theorem oexB_ok {K : PySem.W.Frag} {C : Addr} (h : oexB C K = true) : OexC K C := by
  obtain ⟨h1, h⟩ := ba h
  obtain ⟨h2, h⟩ := ba h
  obtain ⟨h3, h⟩ := ba h
  obtain ⟨h4, h5⟩ := ba h
  refine ⟨?_, of_decide_eq_true h2, of_decide_eq_true h3, of_decide_eq_true h4, h5⟩
  split at h1
  · rename_i dd cd sl ho
    split at h1
    · rename_i C' bm k0 k1 k2 k3 n k5 hm hs
      obtain ⟨q1, h1⟩ := ba h1
      obtain ⟨q2, h1⟩ := ba h1
      obtain ⟨q3, h1⟩ := ba h1
      obtain ⟨q4, q5⟩ := ba h1
      obtain ⟨nm, bs, mro, ns, qn, hd, sn, sub, ab, col, del⟩ := cd
      dsimp only at hm q3 q4
      obtain rfl := of_decide_eq_true q1
      obtain rfl := of_decide_eq_true q2
      have q3' : del = false := by simpa using q3
      subst hm q3' q4
      have hsl : sl = #[k0, k1, k2, k3, some (.builtin "ValueError.__new__"), k5] := by
        obtain ⟨l⟩ := sl
        simp only at hs
        rw [hs]
      subst hsl
      exact ⟨nm, qn, ns, bs, bm, sn, sub, ab, col, dd, k0, k1, k2, k3, k5, ho, q5⟩
    · cases h1
  · cases h1
def exccB (C : Addr) (K : PySem.W.Frag) : Bool := decide (PySem.W.findIn K (.ref C) "__getattribute__" = some (some (.builtin "BaseException.__getattribute__"))) && (decide (PySem.W.findIn K (.ref C) "__getattr__" = some none) && (decide (PySem.W.subIn K (.ref C) (.type "BaseException") = some true) &&
  (PySem.W.hasDictIn K C && (decide (PySem.W.findIn K (.ref C) "__class__" = some (some (.builtin "object.__class__"))) && (decide (PySem.W.specialIn K (.builtin "object.__class__") "__get__" = some (some (.builtin "getset_descriptor.__get__"))) &&
  (decide (PySem.W.takesIn K (.builtin "object.__class__") = some true) && decide (PySem.W.mroIn K C (.type "object") = some true)))))))
theorem exccB_ok {K : PySem.W.Frag} {C : Addr} (h : exccB C K = true) : ExcC K C ∧ XfC K C := by
  obtain ⟨h1, h⟩ := ba h
  obtain ⟨h2, h⟩ := ba h
  obtain ⟨h3, h⟩ := ba h
  obtain ⟨h4, h⟩ := ba h
  obtain ⟨h5, h⟩ := ba h
  obtain ⟨h6, h⟩ := ba h
  obtain ⟨h7, h8⟩ := ba h
  exact ⟨⟨of_decide_eq_true h1, of_decide_eq_true h2, of_decide_eq_true h3, h4, of_decide_eq_true h5, of_decide_eq_true h6, of_decide_eq_true h7, of_decide_eq_true h8⟩, ⟨of_decide_eq_true h1, of_decide_eq_true h2, of_decide_eq_true h3, h4⟩⟩
/-- all classes: Cs, the known ones; Ts, what they are held against; fs, the fields -/
def xfB' (Cs Ts fs : List Str) (isaB : Str → Str → Bool) (K : PySem.W.Frag) : Bool := Cs.all fun x => exccB (ga K x) K && (fs.all (fun f => decide (PySem.W.findIn K (.ref (ga K x)) f = some none)) && (decide (PySem.W.kitOne K (.ref (ga K x)) (.type "ValueError") = some (isaB x "ValueError")) &&
  Ts.all fun T => decide (PySem.W.kitOne K (.ref (ga K x)) (.ref (ga K T)) = some (isaB x T))))
theorem xfB'_ok {K : PySem.W.Frag} {h : Heap} {mg : Str → Option Value} {Cs Ts fs : List Str} {isaB : Str → Str → Bool} {known : Str → Bool} (X : K.In h) (G : h.Ns mainGlobals mg) (hk : ∀ nm, known nm = true → nm ∈ Cs) (gc : ∀ x ∈ Cs, (Fa.glo x).ok K = true) (gt : ∀ x ∈ Ts, (Fa.glo x).ok K = true)
    (c : xfB' Cs Ts fs isaB K = true) : XFacts K mg known isaB Ts fs := by
  refine ⟨fun nm q => ?_⟩
  have hm := hk nm q
  obtain ⟨c1, c2⟩ := ba (List.all_eq_true.mp c nm hm)
  obtain ⟨c2, c3⟩ := ba c2
  obtain ⟨c3, c4⟩ := ba c3
  obtain ⟨k1, k2⟩ := exccB_ok c1
  exact ⟨ga K nm, He.glo_ok X G (gc nm hm), k1, k2, fun f hf => of_decide_eq_true (List.all_eq_true.mp c2 f hf), of_decide_eq_true c3, fun T hT => ⟨ga K T, He.glo_ok X G (gt T hT), of_decide_eq_true (List.all_eq_true.mp c4 T hT)⟩⟩
def catB (Cs : List Str) (B : Str) (K : PySem.W.Frag) : Bool := Cs.all fun x => decide (PySem.W.exmOne K (.ref (ga K x)) (.ref (ga K B)) = some true)
theorem catB_ok {K : PySem.W.Frag} {h : Heap} {mg : Str → Option Value} {Cs : List Str} {B : Str} {known : Str → Bool} (X : K.In h) (G : h.Ns mainGlobals mg) (hk : ∀ nm, known nm = true → nm ∈ Cs) (gc : ∀ x ∈ Cs, (Fa.glo x).ok K = true) (c : catB Cs B K = true) : Catches K mg (.ref (ga K B)) known := fun nm q =>
  ⟨ga K nm, He.glo_ok X G (gc nm (hk nm q)), of_decide_eq_true (List.all_eq_true.mp c nm (hk nm q))⟩
section
variable {P : Program} {w : World} {K : PySem.W.Frag} {mg : Str → Option Value} {base : Heap} {x q : Str} {st : Stmt} {f : Addr} {fd : FuncData}
theorem fun_of_D (F : FunD K x q (defArgs st) (defBody st) (defScope st) [] [] f fd) : Fun K x q st f fd := by
  obtain ⟨oc, od, dV, kV, doc, pm, an, cdv, ct, osl, rfl, lk, hcd, hD, hK⟩ := F.ex
  rcases hD with ⟨_, rfl⟩ | ⟨e, _⟩
  · exact ⟨⟨oc, od, kV, doc, pm, an, cdv, ct, osl, rfl, lk, hcd⟩, F.kp⟩
  · exact absurd rfl e
theorem bindsK {ks ps : List Str} {np : Nat} {ix : List Nat} (F : Fun K x q st f fd)
    (h : ∀ (kV doc pm : Value) (an : Option Addr) (cdv ct : Value) (us ws : List Value), us.length = np → ws.length = ks.length → bindArgs (PySem.W.fnOf x q (defArgs st) (defBody st) (defScope st) .none kV doc pm an cdv ct) ⟨us, ks.zip ws⟩ = pure (ps.zip (us ++ pick ix ws))) :
    ∀ (s : Shared) (us ws : List Value), K.In s.heap → us.length = np → ws.length = ks.length → BindsTo s fd ⟨us, ks.zip ws⟩ (ps.zip (us ++ pick ix ws)) := by
  obtain ⟨oc, od, kV, doc, pm, an, cdv, ct, osl, rfl, lk, hcd⟩ := F.ex
  exact fun s us ws _ h1 h2 => .of_eq (h kV doc pm an cdv ct us ws h1 h2)
def clsM (st : Stmt) (i : Nat) : Stmt := match st with
  | .ClassDef _ _ _ b _ _ _ _ _ _ _ => b.getD i (.Pass ⟨0, 0, 0, 0⟩)
  | _ => .Pass ⟨0, 0, 0, 0⟩
theorem init1 {C : Addr} {f1 : Str} {fI : Addr} {fdI : FuncData} {qn : Str} (T : OexC K C) (hno : PySem.W.findIn K (.ref C) f1 = some none) (F : Fun K "__init__" qn st fI fdI) (Sc : FnScope [("self" : Str), f1] [("self" : Str), f1] (defScope st))
    (hb : ∀ (X : Cx), X.env.scope = defScope st → X.N = [("self" : Str), f1] → PSs X (defBody st) (tSeq (tOst X.K f1 (tVar 0) (tVar 1)) tNext)) : FnOk P w K mg base CX0 1 fI fdI [("self" : Str), f1] (sp1 C f1) := by
  refine F.ok Sc (fun vs H Q E h => ?_) fun cdv A outer s H vs Q E hr h => ⟨_, hb _ rfl rfl, ?_⟩
  · obtain ⟨a, v, rfl, _⟩ := h; rfl
  · obtain ⟨a, v, rfl, ha, k⟩ := h
    exact ⟨v, rfl, .ref a, rfl, a, C, rfl, T, hno, .inl ⟨ha, k⟩⟩
theorem fnG_of {ps : List Str} {lev n : Nat} {m : List D → RR} (ok : FnOk P w K mg base (L2.CX P w) lev f fd ps (spD K mg n m)) (F : Fun K x q st f fd) (g : mg x = some (.ref f))
    (h : ∀ (kV doc pm : Value) (an : Option Addr) (cdv ct : Value) (us : List Value), us.length = ps.length → bindArgs (PySem.W.fnOf x q (defArgs st) (defBody st) (defScope st) .none kV doc pm an cdv ct) ⟨us, []⟩ = pure (ps.zip us)) : FnG P w K mg base x lev n ps m :=
  ⟨f, fd, ok, g, F.kp, F.binds h⟩
theorem fnO_of {ps : List Str} {lev n : Nat} {m : MO → List D → RO} (ok : FnOk P w K mg base (L2.CX P w) lev f fd ps (spO K n m)) (F : Fun K x q st f fd) (g : mg x = some (.ref f))
    (h : ∀ (kV doc pm : Value) (an : Option Addr) (cdv ct : Value) (us : List Value), us.length = ps.length → bindArgs (PySem.W.fnOf x q (defArgs st) (defBody st) (defScope st) .none kV doc pm an cdv ct) ⟨us, []⟩ = pure (ps.zip us)) : FnO P w K mg base x lev n ps m :=
  ⟨f, fd, ok, g, F.kp, F.binds h⟩
theorem fnK_of {ps ks : List Str} {lev n np : Nat} {ix : List Nat} {m : List D → RR} (ok : FnOk P w K mg base (L2.CX P w) lev f fd ps (spD K mg n m)) (F : Fun K x q st f fd) (g : mg x = some (.ref f))
    (h : ∀ (kV doc pm : Value) (an : Option Addr) (cdv ct : Value) (us ws : List Value), us.length = np → ws.length = ks.length → bindArgs (PySem.W.fnOf x q (defArgs st) (defBody st) (defScope st) .none kV doc pm an cdv ct) ⟨us, ks.zip ws⟩ = pure (ps.zip (us ++ pick ix ws))) : FnK P w K mg base x lev n ps m np ks ix :=
  ⟨f, fd, ok, g, F.kp, bindsK F h⟩
theorem of_isFn {K : PySem.W.Frag} {v : Value} (h : PySem.W.isFn K v = true) : PySem.W.typeIn K v = some (.type "function") := eq_of_beq h
theorem fnOk_bad {ps : List Str} {n : Nat} (hn : ps.length = n) : FnOk P w K mg base (L2.CX P w) 1 f fd ps (spD K mg n fun _ => .bad) :=
  ⟨fun vs H Q E h => by rw [hn]; exact spD_len h, fun A outer s H args us vs Q E hr e hb hv h => by
    obtain ⟨ds, F, _, _, _, _, _, p⟩ := h
    exact p.elim⟩
theorem FnG.mono {nm : Str} {lev lev2 n : Nat} {ps : List Str} {m : List D → RR} (G : FnG P w K mg base nm lev n ps m) (h : lev ≤ lev2) : FnG P w K mg base nm lev2 n ps m := by
  obtain ⟨f, fd, h1, h2, h3, h4⟩ := G.ex
  exact ⟨f, fd, h1.mono h, h2, h3, h4⟩
def lamN (x : Str) : Str := (x ++ ".<locals>.") ++ "<lambda>"
def tbOf (K : PySem.W.Frag) (tf : List Defn) : List (Addr × Str) := tf.map fun p => ((cT K p).2, lamN p.1)
def csOf (K : PySem.W.Frag) (tf : List Defn) : List (Addr × Addr) := tf.map fun p => cT K p
def nodupB (tf : List Defn) (K : PySem.W.Frag) : Bool := tf.all fun p => tf.all fun q => decide ((cT K p).2 = (cT K q).2 → p.1 = q.1)
theorem codeF_of {tf : List Defn} {nm : Str} (hI : Tbls.tb = tbOf K tf) (hm : (nm, none) ∈ tf) (nd : nodupB tf K = true) (F : Fun K nm nm st (fAd K (nm, none)) fd) (hT : ∀ p ∈ csOf K tf, TabB base mg p.1 p.2) : CodeF mg base fd.code nm := by
  obtain ⟨oc, od, kV, doc, pm, an, cdv, ct, osl, rfl, lk, hcd⟩ := F.ex
  obtain ⟨c, hc⟩ := codeIn_ref hcd
  have e : codeOf K (nm, none) = c := codeOf_eq lk hc
  have h1 : cT K (nm, none) ∈ csOf K tf := List.mem_map.mpr ⟨_, hm, rfl⟩
  have h2 := hT _ h1
  refine ⟨c, (cT K (nm, none)).2, hc, ?_, ?_, fun p hp hq => ?_⟩
  · have e2 : (cT K (nm, none)).1 = c := e
    rw [← e2]; exact h2
  · rw [hI]; exact List.mem_map.mpr ⟨_, hm, rfl⟩
  · rw [hI] at hp
    obtain ⟨z, hz, rfl⟩ := List.mem_map.mp hp
    have h3 := of_decide_eq_true (List.all_eq_true.mp (List.all_eq_true.mp nd z hz) _ hm) hq
    show lamN z.1 = lamN nm
    rw [h3]
theorem scr_of {H : Hp} {a : Addr} {ns : List Int} (h : SqL K H a (ns.map V.int)) : Has K (noT H) (.scr ns) (.ref a) := by
  refine .scr ?_
  rcases h with (h | ⟨o, h⟩) | h
  · exact .inl (.inl (noT_some.mpr ⟨h, (fun _ z => nomatch z), fun _ z => nomatch z⟩))
  · exact .inl (.inr ⟨o, noT_some.mpr ⟨h, (fun _ z => nomatch z), fun _ z => nomatch z⟩⟩)
  · exact .inr h
theorem law_sp {tf : List Defn} {m : List D → RR} {H : Hp} {a : Addr} {ns : List Int} (hI : Tbls.tb = tbOf K tf) (hm : m [.scr ns] = .ok (.bl true)) (ht : ∀ p ∈ csOf K tf, H p.2 = some (.tbl #[])) (hS : SqL K H a (ns.map V.int)) :
    spD K mg 1 m [.ref a] H (fun v _ => v = .bl true) fun _ _ _ => False := by
  refine ⟨[.scr ns], noT H, rfl, noT_same H, NT.noT H, fun p hp => ?_, .cons (scr_of hS) .nil, ?_⟩
  · rw [hI] at hp
    obtain ⟨z, hz, rfl⟩ := List.mem_map.mp hp
    exact TabS.nil (ht _ (List.mem_map.mpr ⟨z, hz, rfl⟩))
  · rw [hm]
    intro v H' F' _ h
    cases h; rfl
end
end PL
set_option Elab.async false
set_option linter.all false
set_option maxRecDepth 100000
namespace PL
open PySem PySem.Spec PyProof.Rows L2 LamX
section
variable {P : Program} {w : World} {K : PySem.W.Frag} {elts : List Expr} {kk : Nat} {tpos : Pos} {a b n : Addr}
/-- an iterator that is through draws nothing more -/
theorem drawsEndT {A : Around} (hh : A.handled = none) {it t : Addr} {items : Array Value} {i : Nat} (e : items[i]? = none) :
    Draws P w A it [it, t] i (fun _ _ => False) fun j h => j = i ∧ h.IsTupleIter it t j ∧ h.IsTuple t items :=
  ⟨fun _ _ st => let ⟨o, ho, _⟩ := st.2.1; ⟨o, ho⟩, fun _ _ _ st k => ⟨st.1, st.2.1.at fun o => k it (by simp) o, st.2.2.at fun o => k t (by simp) o⟩,
    fun j _ _ _ hj st _ => absurd st.1 (Nat.ne_of_lt hj), fun _ _ _ st q => wpAny_nextOf_tuple_end hh st.2.1 st.2.2 e q⟩
end
section
variable {X : Cx} {W : WX} {e e2 : Expr} {p pos tpos : Pos} {elts : List Expr} {kk : Nat}
def zipD (l m : List D) : List D := (l.zip m).map fun q => .tup [q.1, q.2]
theorem zip_get {l m : List D} {i : Nat} {d : D} (h : (zipD l m)[i]? = some d) : ∃ x y, l[i]? = some x ∧ m[i]? = some y ∧ d = .tup [x, y] := by
  unfold zipD at h
  rw [List.getElem?_map] at h
  cases q : (l.zip m)[i]? with
  | none => rw [q] at h; cases h
  | some z =>
    rw [q] at h
    cases h
    have := List.getElem?_zip_eq_some.mp q
    exact ⟨z.1, z.2, this.1, this.2, rfl⟩
variable [Tbls]
variable [Tbls]
end
end PL
set_option Elab.async false
set_option linter.all false
set_option maxRecDepth 100000
namespace PL
open PySem PySem.Spec PyProof.Rows L2 LamX
end PL
set_option Elab.async false
set_option linter.all false
set_option maxRecDepth 100000
namespace PL
open PySem PySem.Spec PyProof.Rows L2 LamX
end PL
set_option Elab.async false
set_option linter.all false
set_option maxRecDepth 100000
namespace PL
open PySem PySem.Spec PyProof.Rows L2 LamX
variable [Tbls]
/-- what is asked of a class to read the attribute f of its instances -/
structure AttrG (K : PySem.W.Frag) (n f : Str) : Prop where
  cls : Cls K (Tbls.adr n)
  no : NoAttr K (Tbls.adr n) f
def dFld (n f : Str) (d : D) : Option D := match d with
  | .obj m l => if m = n then l.lookup f else none
  | _ => none
def eFld (n f : Str) (ga : M D) : M D := M.bind ga fun d => opt (dFld n f d)
theorem has_lookup {K : PySem.W.Frag} {F : Hp} {f : Str} : ∀ {l : List (Str × D)} {vs : List (Str × V)} {d : D}, l.map (·.1) = vs.map (·.1) → HasL K F (l.map (·.2)) (vs.map (·.2)) → l.lookup f = some d → ∃ v, vs.lookup f = some v ∧ Has K F d v
  | [], _, d, _, _, h => by cases h
  | (a, x) :: l, [], d, k, _, _ => by cases k
  | (a, x) :: l, (b, y) :: vs, d, k, .cons h hl, e => by
    simp only [List.map_cons, List.cons.injEq] at k
    obtain ⟨k1, k2⟩ := k
    have k1 : a = b := k1
    subst k1
    rw [List.lookup_cons] at e
    rw [List.lookup_cons]
    cases q : f == a with
    | true =>
      rw [q] at e
      dsimp only at e ⊢
      cases e
      exact ⟨y, rfl, h⟩
    | false =>
      rw [q] at e
      dsimp only at e ⊢
      exact has_lookup k2 hl e
section
variable {X : Cx} {W : WX} {e : Expr} {f n : Str} {ga : M D} {pos : Pos}
theorem de_fld (G : AttrG X.K n f) (he : DE X W e ga) (hb : attributeBase e f X.env (eval e X.env) = eval e X.env) : DE X W (.Attribute e f pos) (eFld n f ga) := by
  refine PE.imp (pe_fld he hb) fun σ H Q ⟨P, B, F0, F, δ, τ, e0, p⟩ => ?_
  refine ⟨P, B, F0, F, δ, τ, e0, ?_⟩
  unfold eFld M.bind at p
  cases q : ga δ with
  | bad => rw [q] at p; exact p
  | err x δ' => rw [q] at p; exact p
  | ok d δ1 =>
    rw [q] at p
    dsimp only at p
    intro v H1 F1 e1
    cases hd : dFld n f d with
    | none =>
      unfold opt at p
      rw [hd] at p
      exact p.elim
    | some r =>
      unfold opt at p
      rw [hd] at p
      have h1 := e1.tm (d, v) List.mem_cons_self
      unfold dFld at hd
      split at hd
      · split at hd
        · rename_i l hm
          subst hm
          cases h1 with
          | obj h k hl =>
            obtain ⟨w, h2, h3⟩ := has_lookup k hl hd
            refine ⟨_, _, _, _, w, rfl, e1.sf _ _ h, G.cls, G.no, h2, ?_⟩
            exact p w H1 F1 ((e1.sub fun q hq => List.mem_cons_of_mem _ hq).push h3)
        · cases hd
      · cases hd
end
end PL
set_option Elab.async false
set_option linter.all false
set_option maxRecDepth 100000
namespace PL
open PySem PySem.Spec PyProof.Rows L2 LamX
variable [Tbls]
def putA (f : Str) (d : D) : List (Str × D) → List (Str × D)
  | [] => [(f, d)]
  | (g, x) :: r => if g = f then (g, d) :: r else (g, x) :: putA f d r
def sSetF (i : Nat) (n f : Str) (ga : M D) : S := M.bind ga fun d δ => match ownD δ i with
  | some (.obj m l) => if m = n ∧ l.length < 1000 then .ok .nx (putD δ i (.obj n (putA f d l))) else .bad
  | _ => .bad
theorem put_has {K : PySem.W.Frag} {F : Hp} {f : Str} {d : D} {v : V} (h : Has K F d v) : ∀ {l : List (Str × D)} {vs : List (Str × V)}, l.map (·.1) = vs.map (·.1) → HasL K F (l.map (·.2)) (vs.map (·.2)) →
    (putA f d l).map (·.1) = (putF f v vs).map (·.1) ∧ HasL K F ((putA f d l).map (·.2)) ((putF f v vs).map (·.2))
  | [], [], _, _ => ⟨rfl, .cons h .nil⟩
  | [], _ :: _, k, _ => by cases k
  | _ :: _, [], k, _ => by cases k
  | (a, x) :: l, (b, y) :: vs, k, .cons hx hl => by
    simp only [List.map_cons, List.cons.injEq] at k
    obtain ⟨k1, k2⟩ := k
    have k1 : a = b := k1
    subst k1
    unfold putA putF
    by_cases q : a = f
    · rw [if_pos q, if_pos q]
      exact ⟨by rw [List.map_cons, List.map_cons, k2], .cons h hl⟩
    · rw [if_neg q, if_neg q]
      obtain ⟨h1, h2⟩ := put_has h k2 hl
      exact ⟨by rw [List.map_cons, List.map_cons, h1], .cons hx h2⟩
section
variable {X : Cx} {W : WX} {x f n : Str} {i : Nat} {value : Expr} {ga : M D} {pos pos' p1 : Pos}
theorem ds_setF (G : AttrG X.K n f) (hv : PE X (.Name x p1) (tVar i)) (ha : DE X W value ga) (hs : swapsWith value (some (.Attribute (.Name x p1) f pos')) pos.line X.env = pure false := by rfl) :
    DS X W (.Assign [.Attribute (.Name x p1) f pos'] value pos) (sSetF i n f ga) := by
  refine PS.imp (ps_fld hv ha hs) fun Dn σ H ⟨P, B, F0, F, δ, τ, e, p⟩ => ?_
  refine seqES e p fun d v H1 F1 δ1 e1 p1 => ?_
  split at p1
  · rename_i m l ho
    obtain ⟨a, h, h1, h2, h3, h4, h5⟩ := own_at e1 ho
    split at p1
    · rename_i hc
      obtain ⟨rfl, hlen⟩ := hc
      refine ⟨_, h1, ?_⟩
      cases h with
      | ins C dx fs =>
        obtain ⟨k1, k2, k3⟩ := h5
        subst k1
        have hl : fs.length < 1000 := by
          have := congrArg List.length k2
          rw [List.length_map, List.length_map] at this
          omega
        refine ⟨a, _, dx, fs, rfl, h4, G.cls, G.no, hl, ?_⟩
        obtain ⟨q1, q2⟩ := put_has (f := f) e1.top k2 k3
        exact p1 σ _ F1 ((e1.update ho h1 (o' := .obj m (putA f d l)) (h' := .ins (Tbls.adr m) dx (putF f v fs)) ⟨rfl, q1, q2⟩).pop)
      | _ => exact h5.elim
    · exact p1.elim
  · exact p1.elim
end
end PL
set_option Elab.async false
set_option linter.all false
set_option maxRecDepth 100000
namespace PL
open PySem PySem.Spec PyProof.Rows L2 LamX
variable [Tbls]
/-- what __init__ made -/
def madeD (nm : Str) : RO → Option (List (Str × D))
  | .ok .non (.obj n l) => if n = nm then some l else none
  | _ => none
theorem madeD_ok {nm : Str} {r : RO} {l : List (Str × D)} (h : madeD nm r = some l) : r = .ok .non (.obj nm l) := by
  unfold madeD at h
  split at h
  · split at h
    · rename_i e
      cases h
      subst e
      rfl
    · cases h
  · cases h
section
variable {K : PySem.W.Frag} {mg : Mg} {W : WX} {P B F0 H1 F1 : Hp} {δ1 : En} {σ : L2.St} {τ : List (D × V)} {Q : VK} {nm : Str} {n : Nat} {m : MO → List D → RO} {ds : List D} {vs : List V} {E : XK}
/-- the promise of __init__ at the new instance -/
theorem make_sp (e1 : EO K P B F0 H1 F1 δ1 σ τ) (hl : HasL K F1 ds vs) (p : PostE K mg W P B F0 σ τ ((if ds.length = n then (match madeD nm (m (.obj nm []) ds) with | some l => .ok (.obj nm l) δ1 | none => .bad) else .bad : Rs D)) Q) {x dx : Addr} (hx : H1 x = none) (hdx : H1 dx = none) (ne : dx ≠ x) :
    spO K n m (.ref x :: vs) (upd (upd H1 dx (.own x)) x (.ins (Tbls.adr nm) dx [])) (fun v H2 => v = .non ∧ Q (.ref x) H2) E := by
  split at p
  · rename_i hn
    split at p
    · rename_i l hm
      have hm := madeD_ok hm
      have e2 := (e1.allocU (o := .own x) hdx).allocU (p := x) (o := .ins (Tbls.adr nm) dx []) (by rw [upd_ne (Ne.symm ne)]; exact hx)
      refine ⟨x, _, .obj nm [], vs, ds, F1, rfl, hn, e2.sf, e2.nt, e2.tb, e1.fresh hx, upd_same, ⟨rfl, rfl, .nil⟩, hl, ?_⟩
      rw [hm]
      intro v H' F' h' b hH hM hv
      cases hv
      refine ⟨rfl, ?_⟩
      have old : ∀ c u, H1 c = some u → c ≠ x ∧ c ≠ dx := fun c u q => by
        refine ⟨fun z => ?_, fun z => ?_⟩
        · rw [z, hx] at q; cases q
        · rw [z, hdx] at q; cases q
      have up : ∀ c u, noT H1 c = some u → noT (upd (upd H1 dx (.own x)) x (.ins (Tbls.adr nm) dx [])) c = some u := fun c u q => by
        obtain ⟨q1, q2⟩ := noT_some.mp q
        obtain ⟨z1, z2⟩ := old c u q1
        exact noT_some.mpr ⟨by rw [upd_ne z1, upd_ne z2]; exact q1, q2⟩
      have e3 : EO K P B F0 H' F' δ1 σ τ := e1.grow (fun c u q => b.h c u (old c u (noT_some.mp q).1).1 (up c u q)) b.t b.f b.fh b.nt fun c q1 q2 => by
        have z := b.n c q1 q2
        cases y : noT H1 c with
        | none => rfl
        | some u => rw [up c u y] at z; cases z
      have fx : F' x = none := by
        cases z : F' x with
        | none => rfl
        | some u =>
          have y := b.n x (e1.fresh hx) (by rw [z]; exact fun y => nomatch y)
          rw [noT_some.mpr ⟨upd_same, (by intro ps z; cases z), by intro ps z; cases z⟩] at y
          cases y
      cases h' with
      | ins C d2 fs =>
        obtain ⟨k1, k2, k3⟩ := hM
        subst k1
        refine p _ H' _ ((e3.adopt hH (e1.dm x hx) fx (fun i a ho hs z => ?_) (by intro ps z; cases z)).push (.obj upd_same k2 (k3.mono (same_new fx))))
        subst z
        exact e1.noown hx i ho hs
      | _ => exact hM.elim
    · exact p.elim
  · exact p.elim
end
end PL
set_option Elab.async false
set_option linter.all false
set_option maxRecDepth 100000
namespace PL
open PySem PySem.Spec PyProof.Rows L2 LamX
variable [Tbls]
structure MethG (P : Program) (w : World) (K : PySem.W.Frag) (mg : Mg) (base : Heap) (nm m : Str) (lev n : Nat) (ps : List Str) (g : List D → RR) : Prop where
  cls : Cls K (Tbls.adr nm)
  ex : ∃ (f : Addr) (fd : FuncData), Meth K (Tbls.adr nm) m f ∧ FnOk P w K mg base (L2.CX P w) lev f fd ps (spD K mg n g) ∧ Binds K fd ps []
def methD (nm m : Str) (d : D) : Bool := match d with
  | .obj c l => decide (c = nm) && (l.lookup m).isNone
  | _ => false
def eMeth (nm m : Str) (n : Nat) (g : List D → RR) (ga : M D) (gs : M (List D)) : M D := M.bind ga fun d => if methD nm m d = true then M.bind gs fun ds => callN n g (d :: ds) else M.bad
theorem lookup_no {m : Str} : ∀ {l : List (Str × D)} {vs : List (Str × V)}, l.map (·.1) = vs.map (·.1) → l.lookup m = none → vs.lookup m = none
  | [], [], _, _ => rfl
  | [], _ :: _, k, _ => by cases k
  | _ :: _, [], k, _ => by cases k
  | (a, x) :: l, (b, y) :: vs, k, h => by
    simp only [List.map_cons, List.cons.injEq] at k
    obtain ⟨k1, k2⟩ := k
    have k1 : a = b := k1
    subst k1
    rw [List.lookup_cons] at h ⊢
    cases q : m == a with
    | true => rw [q] at h; cases h
    | false =>
      rw [q] at h
      exact lookup_no k2 h
/-- o.m(e, ..), the wish by the slots -/
def tMethW (C : Addr) (m : Str) (sp : Sp) (E : L2.St → XK) (ta : TE) (t : TA) : TE := fun σ H Q => ta σ H fun x H1 => ∃ a dx fs, x = .ref a ∧ H1 a = some (.ins C dx fs) ∧ fs.lookup m = none ∧ t σ H1 fun vs H2 => sp (x :: vs) H2 Q (E σ)
section
variable {X : Cx} {CX : CXT} {k : Nat} {C f : Addr} {fd : FuncData} {m : Str} {ps : List Str} {sp : Sp} {E : L2.St → XK} {o e : Expr} {es : List Expr} {ta : TE} {t : TA} {apos pos : Pos}
theorem pe_methW0 {pl : Sem Bool} (he : PE X o ta) (c : Cls X.K C) (hm : Meth X.K C m f) (F : FnOk X.prog X.w X.K X.mg X.base CX k f fd ps sp) (hr : Room k X.A) (hb : Binds X.K fd ps []) (hx : ∀ σ, PassesAt CX X σ (E σ))
    (ht : eval (.Call (.Attribute o m apos) [] [] pos) X.env = (do
      let ov ← eval o X.env
      standAt apos.atName
      let (f, first) ← holding [ov] (getMethod ov m pl)
      callWith pos f first (backTo pos (starEach [] X.env)) (backToKw pos (keywordEach [] X.env))) := by rfl) :
    PE X (.Call (.Attribute o m apos) [] [] pos) (tMethW C m sp E ta tNil) := by
  refine ⟨fun pins s σ H Q I h => PySem.W.methodCall_KW (pl := pl) (thn (he.run pins s σ H _ I h) fun u s1 z => ?_) ht⟩
  obtain ⟨x, H1, I1, rx, a, dx, fs, ex, ea, l, q⟩ := z
  subst ex
  obtain rfl : u = Value.ref a := rx
  exact getmeth_ok I1 ea c hm l (PySem.W.callWith_K0 (first := [.ref a]) I1.kIn hm.kp (run_fnS (us := [.ref a]) (vs := [.ref a]) F hr hb (hx σ) I1 (.cons rfl .nil) q))
end
section
variable {X : Cx} {W : WX} {nm m : Str} {lev k n : Nat} {ps : List Str} {g : List D → RR} {o a : Expr} {es : List Expr} {ga : M D} {gs : M (List D)} {apos pos : Pos}
theorem meth_d {K : PySem.W.Frag} {F H : Hp} {d : D} {v : V} (sf : Same F H) (h : Has K F d v) (hm : methD nm m d = true) : ∃ a dx fs, v = .ref a ∧ H a = some (.ins (Tbls.adr nm) dx fs) ∧ fs.lookup m = none := by
  unfold methD at hm
  split at hm
  · rename_i c l
    simp only [Bool.and_eq_true, decide_eq_true_eq, Option.isNone_iff_eq_none] at hm
    obtain ⟨rfl, hl⟩ := hm
    cases h with
    | obj h1 h2 h3 => exact ⟨_, _, _, rfl, sf _ _ h1, lookup_no h2 hl⟩
  · cases hm
theorem de_meth0 (G : MethG X.prog X.w X.K X.mg X.base nm m lev n ps g) (tk : Takes X W) (hr : Room k X.A) (hlk : lev ≤ k) (ho : DE X W o ga) {pl : Sem Bool}
    (ht : eval (.Call (.Attribute o m apos) [] [] pos) X.env = (do
      let ov ← eval o X.env
      standAt apos.atName
      let (f, first) ← holding [ov] (getMethod ov m pl)
      callWith pos f first (backTo pos (starEach [] X.env)) (backToKw pos (keywordEach [] X.env))) := by rfl) :
    DE X W (.Call (.Attribute o m apos) [] [] pos) (eMeth nm m n g ga (M.pure [])) := by
  obtain ⟨f, fd, h1, h2, h3⟩ := G.ex
  refine PE.imp (pe_methW0 (E := WE W) ho G.cls h1 h2 (hr.mono hlk) h3 (passAt tk) ht) fun σ H Q ⟨P, B, F0, F, δ, τ, e, p⟩ => ?_
  refine seqE e p fun d v H1 F1 δ1 e1 p1 => ?_
  split at p1
  · rename_i hm
    obtain ⟨b, dx, fs, z1, z2, z3⟩ := meth_d e1.sf e1.top hm
    subst z1
    exact ⟨b, dx, fs, rfl, z2, z3, call_sp e1.pop (.cons e1.top .nil) p1⟩
  · exact p1.elim
end
end PL
set_option Elab.async false
set_option linter.all false
set_option maxRecDepth 100000
namespace PL
open PySem PySem.Spec PyProof.Rows L2 LamX
variable [Tbls]
structure PropG (P : Program) (w : World) (K : PySem.W.Frag) (mg : Mg) (base : Heap) (nm pn : Str) (lev : Nat) (ps : List Str) (g : List D → RR) : Prop where
  cls : Cls K (Tbls.adr nm)
  ex : ∃ (p f : Addr) (fd : FuncData), PropOf K (Tbls.adr nm) pn p f ∧ FnOk P w K mg base (L2.CX P w) lev f fd ps (spD K mg 1 g) ∧ Binds K fd ps []
def isObj (nm : Str) : D → Bool
  | .obj c _ => decide (c = nm)
  | _ => false
def okD : RR → Option D
  | .ok d => some d
  | _ => none
theorem okD_some {r : RR} {d : D} (h : okD r = some d) : r = .ok d := by
  cases r with
  | ok d => cases h; rfl
  | err x => cases h
  | bad => cases h
def eProp (nm : Str) (g : List D → RR) (ga : M D) : M D := M.bind ga fun d => if isObj nm d = true then opt (okD (g [d])) else M.bad
section
variable {X : Cx} {W : WX} {nm pn : Str} {lev k : Nat} {ps : List Str} {g : List D → RR} {o : Expr} {ga : M D} {pos : Pos}
theorem obj_d {K : PySem.W.Frag} {F H : Hp} {d : D} {v : V} (sf : Same F H) (h : Has K F d v) (hm : isObj nm d = true) : ∃ a dx fs, v = .ref a ∧ H a = some (.ins (Tbls.adr nm) dx fs) := by
  unfold isObj at hm
  split at hm
  · have hm := of_decide_eq_true hm
    subst hm
    cases h with
    | obj h1 h2 h3 => exact ⟨_, _, _, rfl, sf _ _ h1⟩
  · cases hm
theorem de_prop (G : PropG X.prog X.w X.K X.mg X.base nm pn lev ps g) (hr : Room (k + 1) X.A) (hlk : lev ≤ k) (ho : DE X W o ga) (hab : attributeBase o pn X.env (eval o X.env) = eval o X.env := by rfl) :
    DE X W (.Attribute o pn pos) (eProp nm g ga) := by
  obtain ⟨p0, f, fd, h1, h2, h3⟩ := G.ex
  refine PE.imp (pe_prop (dvs := []) (E := fun _ _ _ => False) ho G.cls h1 (h2.mono hlk) hr h3 .nil (fun _ _ _ _ _ _ _ c => ?_) hab) fun σ H Q ⟨P, B, F0, F, δ, τ, e, p⟩ => ?_
  · obtain ⟨_, _, _, _, _, _, _, _, _, _, _, _, z⟩ := c
    exact z.elim
  · refine seqE e p fun d v H1 F1 δ1 e1 p1 => ?_
    split at p1
    · rename_i hm
      obtain ⟨b, dx, fs, z1, z2⟩ := obj_d e1.sf e1.top hm
      subst z1
      unfold opt at p1
      split at p1
      · rename_i r hg
        have hg := okD_some hg
        have p2 : PostE X.K X.mg (fun _ _ _ _ => False) P B F0 σ τ (callN 1 g [d] δ1) Q := by
          unfold callN callF
          rw [if_pos (show [d].length = 1 from rfl), hg]
          exact p1
        exact ⟨b, dx, fs, rfl, z2, call_sp e1.pop (.cons e1.top .nil) p2⟩
      · exact p1.elim
    · exact p1.elim
end
end PL
set_option Elab.async false
set_option linter.all false
set_option maxRecDepth 100000
namespace PL
open PySem PySem.Spec PyProof.Rows L2 LamX
end PL
set_option Elab.async false
set_option linter.all false
set_option maxRecDepth 100000
namespace PL
open PySem PySem.Spec PyProof.Rows L2 LamX
variable [Tbls]
def intsD : List D → Option (List Int)
  | [] => some []
  | .int i :: l => (intsD l).map (i :: ·)
  | _ => none
theorem ints_of {K : PySem.W.Frag} {F : Hp} : ∀ {l : List D} {vs : List V} {ns : List Int}, HasL K F l vs → intsD l = some ns → vs = ns.map V.int
  | [], _, _, .nil, h => by cases h; rfl
  | d :: l, _, ns, .cons h1 h2, h => by
    cases d with
    | int i =>
      unfold intsD at h
      cases q : intsD l with
      | none => rw [q] at h; cases h
      | some ms =>
        rw [q] at h
        cases h
        cases h1
        rw [ints_of h2 q]
        rfl
    | _ => cases h
def fTupl : List D → Option D
  | [.lst l] => some (.tup l)
  | [.tup l] => some (.tup l)
  | _ => none
theorem s_tupl {K : PySem.W.Frag} : CallS K (fun xs H Q => ∃ p ys, xs = [V.ref p] ∧ ((SqL K H p ys ∧ ∀ l, H l = none → Q (V.ref l) (upd H l (.tup ys))) ∨ (SqT K H p ys ∧ Q (V.ref p) H))) fTupl := by
  intro ds d vs P B F0 H F δ σ τ Q q e hl k
  unfold fTupl at q
  split at q
  · cases q
    cases hl with
    | cons h1 h2 =>
      cases h2
      cases h1 with
      | lst hF hL =>
        refine ⟨_, _, rfl, .inl ⟨SqL.of (e.sf _ _ hF), fun p hp => ?_⟩⟩
        exact k _ _ _ ((e.alloc (o := .tup _) hp).push (.tup (SqT.of upd_same) (hL.mono (same_new (e.fresh hp)))))
  · cases q
    cases hl with
    | cons h1 h2 =>
      cases h2
      cases h1 with
      | tup hF hL => exact ⟨_, _, rfl, .inr ⟨Same.seqT e.sf hF, k _ H F (e.push (.tup hF hL))⟩⟩
  · cases q
section
variable {X : Cx} {W : WX} {p pos : Pos} {a : Expr} {es : List Expr} {gs : M (List D)}
theorem de_tupC (hg : Gl X "tuple") (hm : X.mg "tuple" = none) (ha : DA X W (a :: es) gs) (he : starEach (a :: es) X.env = (false, eval a X.env) :: starEach es X.env := by rfl) (hpl : (backTo pos (starEach es X.env)).any (·.1) = false := by rfl) :
    DE X W (.Call (.Name "tuple" p) (a :: es) [] pos) (eCall fTupl gs) := de_callTy call_tuple_of s_tupl hg hm (by decide +kernel) ha (by decide) (by decide) he hpl
end
end PL
set_option Elab.async false
set_option linter.all false
set_option maxRecDepth 100000
namespace PL
open PySem PySem.Spec PyProof.Rows L2 LamX
variable [Tbls]
def fMax1 : List D → Option D
  | [.lst l] => match intsD l with
    | some ns => ns.max?.map D.int
    | none => none
  | _ => none
def fMin1 : List D → Option D
  | [.lst l] => match intsD l with
    | some ns => ns.min?.map D.int
    | none => none
  | _ => none
theorem s_max1 {K : PySem.W.Frag} : CallS K (rMax K) fMax1 := by
  intro ds d vs P B F0 H F δ σ τ Q q e hl k
  unfold fMax1 at q
  split at q
  · rename_i l
    cases hn : intsD l with
    | none => rw [hn] at q; cases q
    | some ns =>
      rw [hn] at q
      dsimp only at q
      cases hm : ns.max? with
      | none => rw [hm] at q; cases q
      | some m =>
        rw [hm] at q
        cases q
        cases hl with
        | cons h1 h2 =>
          cases h2
          cases h1 with
          | lst hF hL =>
            have z := ints_of hL hn
            subst z
            obtain ⟨m1, m2⟩ := List.max?_eq_some_iff.mp hm
            refine ⟨_, ns, rfl, SqL.of (e.sf _ _ hF), List.length_pos_of_mem m1, fun y hy hu => ?_⟩
            have : y = m := Int.le_antisymm (m2 y hy) (hu m m1)
            subst this
            exact k _ H F (e.push (.int _))
  · cases q
theorem s_min1 {K : PySem.W.Frag} : CallS K (rMin K) fMin1 := by
  intro ds d vs P B F0 H F δ σ τ Q q e hl k
  unfold fMin1 at q
  split at q
  · rename_i l
    cases hn : intsD l with
    | none => rw [hn] at q; cases q
    | some ns =>
      rw [hn] at q
      dsimp only at q
      cases hm : ns.min? with
      | none => rw [hm] at q; cases q
      | some m =>
        rw [hm] at q
        cases q
        cases hl with
        | cons h1 h2 =>
          cases h2
          cases h1 with
          | lst hF hL =>
            have z := ints_of hL hn
            subst z
            obtain ⟨m1, m2⟩ := List.min?_eq_some_iff.mp hm
            refine ⟨_, ns, rfl, SqL.of (e.sf _ _ hF), List.length_pos_of_mem m1, fun y hy hu => ?_⟩
            have : y = m := Int.le_antisymm (hu m m1) (m2 y hy)
            subst this
            exact k _ H F (e.push (.int _))
  · cases q
section
variable {X : Cx} {W : WX} {p pos : Pos} {a b : Expr} {es : List Expr} {gs : M (List D)}
theorem de_max1 (hc : X.calm = true) (hg : Gl X "max") (hm : X.mg "max" = none) (ha : DA X W (a :: es) gs) (he : starEach (a :: es) X.env = (false, eval a X.env) :: starEach es X.env := by rfl) (hpl : (backTo pos (starEach es X.env)).any (·.1) = false := by rfl) :
    DE X W (.Call (.Name "max" p) (a :: es) [] pos) (eCall fMax1 gs) := de_callB (cr_max hc) s_max1 hg hm (by decide +kernel) ha (by decide) (by decide) he hpl
theorem de_min1 (hc : X.calm = true) (hg : Gl X "min") (hm : X.mg "min" = none) (ha : DA X W (a :: es) gs) (he : starEach (a :: es) X.env = (false, eval a X.env) :: starEach es X.env := by rfl) (hpl : (backTo pos (starEach es X.env)).any (·.1) = false := by rfl) :
    DE X W (.Call (.Name "min" p) (a :: es) [] pos) (eCall fMin1 gs) := de_callB (cr_min hc) s_min1 hg hm (by decide +kernel) ha (by decide) (by decide) he hpl
end
end PL
set_option Elab.async false
set_option linter.all false
set_option maxRecDepth 100000
namespace PL
open PySem PySem.Spec PyProof.Rows L2 LamX
variable [Tbls]
structure StatG (P : Program) (w : World) (K : PySem.W.Frag) (mg : Mg) (base : Heap) (nm m : Str) (lev n : Nat) (ps : List Str) (g : List D → RR) : Prop where
  mg_ : mg nm = some (.ref (Tbls.adr nm))
  ex : ∃ (mc : Value) (p f : Addr) (fd : FuncData) (rest : List Value), ClX.CRead K (Tbls.adr nm) mc ∧ PySem.W.findCls K (.ref (Tbls.adr nm)) mc m = some (.get (.builtin "staticmethod.__get__") (.ref p) .none (.ref (Tbls.adr nm))) ∧
    PySem.W.recIn K p "staticmethod" = some (.ref f :: rest) ∧ PySem.W.keepIn K (.ref f) = true ∧ FnOk P w K mg base (L2.CX P w) lev f fd ps (spD K mg n g) ∧ Binds K fd ps []
section
variable {X : Cx} {W : WX} {nm m : Str} {lev k n : Nat} {ps : List Str} {g : List D → RR} {a : Expr} {es : List Expr} {gs : M (List D)} {p1 apos pos : Pos}
theorem de_stat (G : StatG X.prog X.w X.K X.mg X.base nm m lev n ps g) (tk : Takes X W) (hr : Room k X.A) (hlk : lev ≤ k) (hg : Gl X nm) (ha : DA X W (a :: es) gs) {pl : Sem Bool} (hdb : (nm == ("__debug__" : Str)) = false := by decide)
    (hst : starEach (a :: es) X.env = (false, eval a X.env) :: starEach es X.env := by rfl) (hpl : (backTo pos (starEach es X.env)).any (·.1) = false := by rfl)
    (ht : eval (.Call (.Attribute (.Name nm p1) m apos) (a :: es) [] pos) X.env = (do
      let ov ← eval (.Name nm p1) X.env
      standAt apos.atName
      let (f, first) ← holding [ov] (getMethod ov m pl)
      callWith pos f first (backTo pos (starEach (a :: es) X.env)) (backToKw pos (keywordEach [] X.env))) := by rfl) :
    DE X W (.Call (.Attribute (.Name nm p1) m apos) (a :: es) [] pos) (M.bind gs (callN n g)) := by
  obtain ⟨mc, q, f, fd, rest, h1, h2, h3, h4, h5, h6⟩ := G.ex
  refine PE.imp (t := fun σ H Q => tL X.K X.mg W gs σ H fun vs H1 => spD X.K X.mg n g vs H1 Q (WE W σ)) ⟨fun pins s σ H Q I h => PySem.W.methodCall_KW (pl := pl) (thn ((pe_glob (v := V.ref (Tbls.adr nm)) hg G.mg_ rfl hdb).run pins s σ H (fun x H1 => x = V.ref (Tbls.adr nm) ∧ H1 = H) I ⟨rfl, rfl⟩) fun u s1 z => ?_) ht⟩ fun σ H Q ⟨P, B, F0, F, δ, τ, e, p⟩ => ?_
  · obtain ⟨x, H1, I1, rx, ex, eh⟩ := z
    subst ex
    subst eh
    obtain rfl : u = Value.ref (Tbls.adr nm) := rx
    refine PySem.W.method_cls I1.kIn h1.ga (PySem.W.cls_bind I1.kIn h1.rd h2 (wpAny_call (PySem.W.sm_get (s := { s1 with toks := s1.toks + 1 }) I1.kIn h3 (PySem.W.handed_on rfl ?_))))
    have I2 := I1.tok (s1.toks + 1)
    refine PySem.W.callWith_K (first := []) (h₀ := X.base) I.ok.mod.kin h4 (thn (ha.run pos pins _ σ _ _ I2 h) fun us s2 z => ?_) hst hpl
    obtain ⟨vs, H2, I3, r, q2⟩ := z
    exact ⟨I3.kIn, run_fnS (E := WE W) h5 (hr.mono hlk) h6 (passAt tk σ) I3 r q2⟩
  · exact seqL e p fun ds vs H1 F1 δ1 e1 hl p1 => call_sp e1 hl p1
end
end PL
set_option Elab.async false
set_option linter.all false
set_option maxRecDepth 100000
namespace PL
open PySem PySem.Spec PyProof.Rows L2 LamX
end PL
set_option Elab.async false
set_option linter.all false
set_option maxRecDepth 100000
namespace PL
open PySem PySem.Spec PyProof.Rows L2 LamX
variable [Tbls]
def eMethK (nm m : Str) (ks : List Str) (ix : List Nat) (n : Nat) (g : List D → RR) (ga : M D) (gk : M (List D)) : M D := M.bind ga fun d => if methD nm m d = true then M.bind gk fun es => (if [d].length = 1 ∧ es.length = ks.length then callN n g ([d] ++ pick ix es) else M.bad) else M.bad
end PL
set_option Elab.async false
set_option linter.all false
set_option maxRecDepth 100000
namespace PL
open PySem PySem.Spec PyProof.Rows L2 LamX He
variable [Tbls]
mutual
def nkD : D → Option NestedKey
  | .int i => some (.num i)
  | .tup l => (nkDs l).map .tup
  | _ => none
def nkDs : List D → Option (List NestedKey)
  | [] => some []
  | d :: l => match nkD d, nkDs l with
    | some k, some ks => some (k :: ks)
    | _, _ => none
end
def tGet0 (t : List (D × D)) (d : D) : Option D := (t.find? fun q => decide (nkD q.1 = nkD d) && (nkD d).isSome).map (·.2)
def isTp : D → Bool
  | .tup _ => true
  | _ => false
def tGet (t : List (D × D)) (d : D) : Option D := if isTp d = true then tGet0 t d else none
def eTup (t : List (D × D)) (gb : M D) : M D := M.bind gb fun d => opt (tGet t d)
end PL
set_option Elab.async false
set_option linter.all false
set_option maxRecDepth 100000
namespace PL
open PySem PySem.Spec PyProof.Rows L2 LamX
end PL
set_option Elab.async false
set_option linter.all false
set_option maxRecDepth 100000
namespace PL
open PySem PySem.Spec PyProof.Rows L2 LamX
variable [Tbls]
structure MkN (P : Program) (w : World) (K : PySem.W.Frag) (mg : Mg) (base : Heap) (nm : Str) (lev n np : Nat) (ps ks : List Str) (pl : List D → List D → List D) (m : MO → List D → RO) : Prop where
  ex : ∃ (f : Addr) (fd : FuncData) (g : List Value → List Value → List Value) (gV : List V → List V → List V), Mk K (Tbls.adr nm) f ∧ FnOk P w K mg base (L2.CX P w) lev f fd ps (spO K n m) ∧ mg nm = some (.ref (Tbls.adr nm)) ∧ KBn K fd ps (np + 1) ks g gV ∧
    ∀ (F : Hp) (x : V) (vs zs : List V) (ds es : List D), ds.length = np → es.length = ks.length → HasL K F ds vs → HasL K F es zs → ∃ ws, gV (x :: vs) zs = x :: ws ∧ HasL K F (pl ds es) ws
def eMakeN (nm : Str) (n np nk : Nat) (pl : List D → List D → List D) (m : MO → List D → RO) (gs gk : M (List D)) : M D := M.bind gs fun ds => M.bind gk fun es δ => if ds.length = np ∧ es.length = nk then (if (pl ds es).length = n then (match madeD nm (m (.obj nm []) (pl ds es)) with
  | some l => .ok (.obj nm l) δ
  | none => .bad) else .bad) else .bad
section
variable {X : Cx} {W : WX} {nm : Str} {lev k n np : Nat} {ps ks : List Str} {pl : List D → List D → List D} {m : MO → List D → RO} {p pos : Pos} {a : Expr} {es : List Expr} {kws : List Keyword} {gs gk : M (List D)}
/-- the wish of the call, by the wishes of the values and of the keywords -/
theorem mkn_sp {σ : L2.St} {H : Hp} {Q : VK} {gV : List V → List V → List V} (h5 : ∀ (F : Hp) (x : V) (vs zs : List V) (ds es : List D), ds.length = np → es.length = ks.length → HasL X.K F ds vs → HasL X.K F es zs → ∃ ws, gV (x :: vs) zs = x :: ws ∧ HasL X.K F (pl ds es) ws)
    (p0 : tE X.K X.mg W (eMakeN nm n np ks.length pl m gs gk) σ H Q) : tMakeK (Tbls.adr nm) np ks.length (spO X.K n m) gV (fun _ _ _ => False) (tL X.K X.mg W gs) (tL X.K X.mg W gk) σ H Q := by
  obtain ⟨P, B, F0, F, δ, τ, e, p0⟩ := p0
  unfold eMakeN at p0
  refine seqL e p0 fun ds vs H1 F1 δ1 e1 hl p1 => ?_
  have e1' := e1.pushL hl
  have p1' : PostE X.K X.mg W P B F0 σ (ds.zip vs ++ τ) ((M.bind gk fun es δ => if ds.length = np ∧ es.length = ks.length then (if (pl ds es).length = n then (match madeD nm (m (.obj nm []) (pl ds es)) with
    | some l => .ok (.obj nm l) δ
    | none => .bad) else .bad) else .bad) δ1) Q := by
    generalize (M.bind gk _ δ1) = r at p1 ⊢
    cases r with
    | ok d δ' => exact fun v H' F' e' => p1 v H' F' (e'.sub fun q hq => (List.mem_cons.mp hq).elim (fun z => by rw [z]; exact List.mem_cons_self) fun z => List.mem_cons_of_mem _ (List.mem_append_right _ z))
    | err x δ' => exact fun cls dx H' F' e' z => p1 cls dx H' F' (e'.sub fun q hq => List.mem_append_right _ hq) z
    | bad => exact p1
  refine seqL e1' p1' fun es zs H2 F2 δ2 e2 hz p2 => ?_
  have hl2 := EO.topL hl.length e2
  split at p2
  · rename_i hc
    refine ⟨by rw [← hl2.length]; exact hc.1, by rw [← hz.length]; exact hc.2, fun x dx hx hdx ne => ?_⟩
    obtain ⟨ws, w1, w2⟩ := h5 F2 (.ref x) vs zs ds es hc.1 hc.2 hl2 hz
    rw [w1]
    exact make_sp e2 w2 p2 hx hdx ne
  · exact p2.elim
theorem noE {X : Cx} : Passes (L2.CX X.prog X.w) X (fun _ _ _ => False) := fun _ _ _ _ _ _ _ c => by
  obtain ⟨_, _, _, _, _, _, _, _, _, _, _, _, z⟩ := c
  exact z.elim
/-- C(e, ..), some parameters by their defaults -/
theorem de_makeD (tk : Takes X W) (G : MkN X.prog X.w X.K X.mg X.base nm lev n np ps [] pl m) (hr : Room (k + 1) X.A) (hlk : lev ≤ k) (hg : Gl X nm) (ha : DA X W (a :: es) gs) (hdb : (nm == ("__debug__" : Str)) = false := by decide)
    (he : starEach (a :: es) X.env = (false, eval a X.env) :: starEach es X.env := by rfl) (hpl : (backTo pos (starEach es X.env)).any (·.1) = false := by rfl) :
    DE X W (.Call (.Name nm p) (a :: es) [] pos) (eMakeN nm n np 0 pl m gs (M.pure [])) := by
  obtain ⟨f, fd, g, gV, h1, h2, h3, h4, h5⟩ := G.ex
  refine ⟨fun pins s σ H Q I h => ?_⟩
  have z := mkn_sp (X := X) (W := W) (ks := []) h5 h
  refine wpAny_Call_Name_kw (ld_glob I hg h3 ?_ hdb)
  refine PySem.W.callWith_K (h₀ := X.base) I.ok.mod.kin h1.kp (thn (ha.run pos pins s σ H _ I z) fun us s1 zz => ?_) he hpl
  obtain ⟨vs, H1, I1, r, P, B, F0, F, δ, τ, e, q⟩ := zz
  obtain ⟨l1, l2, q2⟩ := q [] H1 F e .nil
  exact ⟨I1.kIn, run_makeK (us := us) (ws := []) (ks := []) h1 (h2.mono hlk) hr h4 noE I1 r .nil l1 l2 q2⟩
end
def eStatK (nk n : Nat) (ix : List Nat) (g : List D → RR) (gk : M (List D)) : M D := M.bind gk fun es => if ([] : List D).length = 0 ∧ es.length = nk then callN n g ([] ++ pick ix es) else M.bad
end PL
set_option Elab.async false
set_option linter.all false
set_option maxRecDepth 100000
namespace PL
open PySem PySem.Spec PyProof.Rows L2 LamX He
/-- what an object names, keys among it -/
def namesOf (o : Obj) : List Addr := match o.data with
  | .dict es _ => refsD o ++ es.toList.flatMap (fun e => refV e.key)
  | _ => refsD o
def widen (g : Addr → Option Obj) (as : List Addr) : List Addr := List.eraseDups (as ++ as.flatMap fun a => ((g a).map namesOf).getD [])
def reachY (g : Addr → Option Obj) : Nat → List Addr
  | 0 => [mainGlobals, PySem.cStatics]
  | k + 1 => widen g (reachY g k)
/-- the function that a record at p holds first -/
def recFn (K : PySem.W.Frag) (p : Addr) (T : String) : Addr := match PySem.W.recIn K p T with
  | some (.ref f :: _) => f
  | _ => 0
/-- a def: where it stands, its text, its defaults -/
structure DefY where
  loc : PySem.W.Frag → Addr
  nm : Str
  ql : Str
  par : Arguments
  bod : List Stmt
  sco : Scope
  dfs : List V := []
  kds : List (Str × V) := []
def textAt (K : PySem.W.Frag) (a : Addr) : FnW := (K.lookup a).bind fun o => match o.data with
  | .func fd => some (fd.name, fd.qualname, fd.params, fd.body, fd.scope, fd.globals, fd.closure, fd.builtins)
  | _ => none
def DefY.text (d : DefY) : FnW := some (d.nm, d.ql, d.par, .stmts d.bod, d.sco, mainGlobals, [], builtinsNs)
def DefY.fine (K : PySem.W.Frag) (d : DefY) : Bool := PySem.W.keepIn K (.ref (d.loc K)) && (((K.lookup (d.loc K)).map fun o => match o.data with
  | .func fd => PySem.W.codeIn K fd.code d.ql && (dflB K fd.defaults d.dfs && kwdB K fd.kwdefaults d.kds)
  | _ => false).getD false)
theorem DefY.fun_ {K : PySem.W.Frag} {d : DefY} (e : textAt K (d.loc K) = d.text) (c : d.fine K = true) : ∃ fd, FunD K d.nm d.ql d.par d.bod d.sco d.dfs d.kds (d.loc K) fd := by
  obtain ⟨kp, c2⟩ := ba c
  unfold textAt at e
  cases q : K.lookup (d.loc K) with
  | none => rw [q] at c2; cases c2
  | some o =>
    obtain ⟨oc, od, dt, osl⟩ := o
    rw [q] at c2 e
    cases dt with
    | func fd =>
      obtain ⟨n1, n2, n3, n4, n5, n6, n7, n8, n9, n10, n11, n12, n13, n14, n15⟩ := fd
      have e2 : (some (n1, n2, n3, n4, n5, n6, n7, n15) : FnW) = d.text := e
      unfold DefY.text at e2
      simp only [Option.some.injEq, Prod.mk.injEq] at e2
      obtain ⟨h1, h2, h3, h4, h5, h6, h7, h8⟩ := e2
      subst h1 h2 h3 h4 h5 h6 h7 h8
      obtain ⟨k1, k2⟩ := ba (show (PySem.W.codeIn K n13 d.ql && (dflB K n8 d.dfs && kwdB K n9 d.kds)) = true from c2)
      obtain ⟨k3, k4⟩ := ba k2
      exact ⟨_, ⟨oc, od, n8, n9, n10, n11, n12, n13, n14, osl, rfl, q, k1, dflB_ok k3, kwdB_ok k4⟩, kp⟩
    | _ => cases c2
structure SaysY (fa : List Fa) (fn : List DefY) (ts : List Tab) (tf : List Defn) (ex : PySem.W.Frag → Bool) (w : World) (h : Heap) (K : PySem.W.Frag) : Prop where
  x : SaysX fa [] ts tf ex w h K
  ok : (fn.all fun d => d.fine K) = true
  tx : (fn.map fun d => textAt K (d.loc K)) = fn.map DefY.text
theorem SaysY.def_ {fa : List Fa} {fn : List DefY} {ts : List Tab} {tf : List Defn} {ex : PySem.W.Frag → Bool} {w : World} {h : Heap} {K : PySem.W.Frag} (c : SaysY fa fn ts tf ex w h K) (i : Nat) {d : DefY} (hi : fn[i]? = some d := by rfl) : ∃ fd, FunD K d.nm d.ql d.par d.bod d.sco d.dfs d.kds (d.loc K) fd := by
  refine DefY.fun_ ?_ (List.all_eq_true.mp c.ok d (List.mem_of_getElem? hi))
  have e : (fn.map fun d => textAt K (d.loc K))[i]? = (fn.map DefY.text)[i]? := by rw [c.tx]
  rw [List.getElem?_map, List.getElem?_map, hi] at e
  exact Option.some.inj e
abbrev AlY : Type := AlX × (Bool × List FnW)
def lookY (n : Nat) (fa : List Fa) (fn : List DefY) (ts : List Tab) (tf : List Defn) (ex : PySem.W.Frag → Bool) (g : Addr → Option Obj) : AlY :=
  let K := frT g (reachY g n)
  ((obsT fa [] ts K, ex K && tabsB g tf K), (fn.all fun d => d.fine K), fn.map fun d => textAt K (d.loc K))
theorem saysY_of {n : Nat} {fa : List Fa} {fn : List DefY} {ts : List Tab} {tf : List Defn} {ex : PySem.W.Frag → Bool} {w : World} {h : Heap} (e : lookY n fa fn ts tf ex h.get? = (valX [] ts w, true, fn.map DefY.text)) : SaysY fa fn ts tf ex w h (frT h.get? (reachY h.get? n)) := by
  have e1 := congrArg (fun z : AlY => z.1.1) e
  have e2 := congrArg (fun z : AlY => z.1.2) e
  obtain ⟨m1, m2⟩ := ba (show (ex (frT h.get? (reachY h.get? n)) && tabsB h.get? tf (frT h.get? (reachY h.get? n))) = true from e2)
  have key : ∀ p ∈ tf, _ ∧ ∃ o, h.get? (cT (frT h.get? (reachY h.get? n)) p).2 = some o ∧ emptyTab o = true := fun p hp => by
    obtain ⟨z1, z2⟩ := ba (List.all_eq_true.mp m2 p hp)
    refine ⟨z1, ?_⟩
    split at z2
    · rename_i o q; exact ⟨o, q, z2⟩
    · cases z2
  refine ⟨⟨e1, m1, fun p hp => (key p hp).1, fun p hp => ?_, fun p hp => ?_⟩, congrArg (fun z : AlY => z.2.1) e, congrArg (fun z : AlY => z.2.2) e⟩
  · obtain ⟨_, o, q, z⟩ := key p hp
    exact frT_none q z
  · obtain ⟨_, o, q, z⟩ := key p hp
    rw [q, emptyTab_eq z]
def hookY (n : Nat) (fa : List Fa) (fn : List DefY) (ts : List Tab) (tf : List Defn) (ex : PySem.W.Frag → Bool) : PySem.W.Hook where
  α := AlY
  obs s := lookY n fa fn ts tf ex s.heap.get?
  val w := (valX [] ts w, true, fn.map DefY.text)
  says w h := ∃ K : PySem.W.Frag, K.In h ∧ SaysY fa fn ts tf ex w h K
  of _ _ e := ⟨_, frT_in, saysY_of e⟩
  keeps _ _ _ := fun ⟨K, i, c⟩ k => ⟨K, i.keeps k, ⟨⟨c.x.t, c.x.more, c.x.hd, c.x.out, fun p hp => k _ _ (c.x.empty p hp)⟩, c.ok, c.tx⟩⟩
theorem lookY_eq {n : Nat} {fa : List Fa} {fn : List DefY} {ts : List Tab} {tf : List Defn} {ex : PySem.W.Frag → Bool} {g : Addr → Option Obj} {s : Shared} (h : ∀ a, g a = s.heap.get? a) : lookY n fa fn ts tf ex g = (hookY n fa fn ts tf ex).obs s := by
  obtain rfl : g = s.heap.get? := funext h
  rfl
variable [Tbls]
section
variable {P : Program} {w : World} {K : PySem.W.Frag} {mg : Mg} {base : Heap} {n m f : Str} {C : Addr}
theorem attrG_of (hA : Tbls.adr n = C) (c : Cls K C) (h : NoAttr K C f) : AttrG K n f := by subst hA; exact ⟨c, h⟩
def propB (n m : Str) (K : PySem.W.Frag) : Bool := decide (PySem.W.findIn K (.ref (ga K n)) m = some (some (.ref (ma K (ga K n) m)))) && (decide (PySem.W.specialIn K (.ref (ma K (ga K n) m)) "__get__" = some (some (.builtin "property.__get__"))) &&
  (decide (PySem.W.takesIn K (.ref (ma K (ga K n) m)) = some true) && (match PySem.W.recIn K (ma K (ga K n) m) "property" with
    | some (.ref f :: _) => decide (f = recFn K (ma K (ga K n) m) "property")
    | _ => false)))
theorem propB_ok (h : propB n m K = true) : PropOf K (ga K n) m (ma K (ga K n) m) (recFn K (ma K (ga K n) m) "property") := by
  obtain ⟨h1, h⟩ := ba h
  obtain ⟨h2, h⟩ := ba h
  obtain ⟨h3, h4⟩ := ba h
  refine ⟨of_decide_eq_true h1, of_decide_eq_true h2, of_decide_eq_true h3, ?_⟩
  split at h4
  · rename_i f rest q
    rw [q, of_decide_eq_true h4]
    exact ⟨rest, rfl⟩
  · cases h4
def statB (n m : Str) (K : PySem.W.Frag) : Bool := PySem.W.readsIn K (ga K n) (.type "type") && (decide (PySem.W.specialIn K (.ref (ga K n)) "__getattribute__" = some (some (.builtin "type.__getattribute__"))) && ((match PySem.W.findCls K (.ref (ga K n)) (.type "type") m with
    | some (.get a b c d) => decide (a = .builtin "staticmethod.__get__" ∧ b = .ref (ma K (ga K n) m) ∧ c = .none ∧ d = .ref (ga K n))
    | _ => false) && (match PySem.W.recIn K (ma K (ga K n) m) "staticmethod" with
    | some (.ref f :: _) => decide (f = recFn K (ma K (ga K n) m) "staticmethod") && PySem.W.keepIn K (.ref f)
    | _ => false)))
theorem statB_ok (h : statB n m K = true) : ∃ rest, ClX.CRead K (ga K n) (.type "type") ∧ PySem.W.findCls K (.ref (ga K n)) (.type "type") m = some (.get (.builtin "staticmethod.__get__") (.ref (ma K (ga K n) m)) .none (.ref (ga K n))) ∧
    PySem.W.recIn K (ma K (ga K n) m) "staticmethod" = some (.ref (recFn K (ma K (ga K n) m) "staticmethod") :: rest) ∧ PySem.W.keepIn K (.ref (recFn K (ma K (ga K n) m) "staticmethod")) = true := by
  obtain ⟨h1, h⟩ := ba h
  obtain ⟨h2, h⟩ := ba h
  obtain ⟨h3, h4⟩ := ba h
  split at h4
  · rename_i f rest q
    obtain ⟨h5, h6⟩ := ba h4
    split at h3
    · rename_i a b c d q2
      obtain ⟨rfl, rfl, rfl, rfl⟩ := of_decide_eq_true h3
      have e := of_decide_eq_true h5
      subst e
      exact ⟨rest, ⟨h1, of_decide_eq_true h2⟩, q2, q, h6⟩
    · cases h3
  · cases h4
theorem bindsD {x ql : Str} {st : Stmt} {ps : List Str} {f : Addr} {fd : FuncData} (F : FunD K x ql (defArgs st) (defBody st) (defScope st) [] [] f fd)
    (h : ∀ (kV doc pm : Value) (an : Option Addr) (cdv ct : Value) (us : List Value), us.length = ps.length → bindArgs (PySem.W.fnOf x ql (defArgs st) (defBody st) (defScope st) .none kV doc pm an cdv ct) ⟨us, []⟩ = pure (ps.zip us)) : Binds K fd ps [] := F.bindsN h
theorem methG_of {lev k : Nat} {ps : List Str} {g : List D → RR} {a : Addr} {fd : FuncData} (hA : Tbls.adr n = C) (c : Cls K C) (M : Meth K C m a) (ok : FnOk P w K mg base (L2.CX P w) lev a fd ps (spD K mg k g)) (b : Binds K fd ps []) : MethG P w K mg base n m lev k ps g := by
  subst hA
  exact ⟨c, a, fd, M, ok, b⟩
theorem propG_of {lev : Nat} {ps : List Str} {g : List D → RR} {p a : Addr} {fd : FuncData} (hA : Tbls.adr n = C) (c : Cls K C) (M : PropOf K C m p a) (ok : FnOk P w K mg base (L2.CX P w) lev a fd ps (spD K mg 1 g)) (b : Binds K fd ps []) : PropG P w K mg base n m lev ps g := by
  subst hA
  exact ⟨c, p, a, fd, M, ok, b⟩
theorem statG_of {lev k : Nat} {ps : List Str} {g : List D → RR} {fd : FuncData} (hA : Tbls.adr n = ga K n) (hg : mg n = some (.ref (ga K n))) (S : statB n m K = true) (ok : FnOk P w K mg base (L2.CX P w) lev (recFn K (ma K (ga K n) m) "staticmethod") fd ps (spD K mg k g)) (b : Binds K fd ps []) : StatG P w K mg base n m lev k ps g := by
  obtain ⟨rest, h1, h2, h3, h4⟩ := statB_ok S
  have z := And.intro hg (And.intro h1 h2)
  generalize ma K (ga K n) m = q at z h3 h4 ok
  rw [← hA] at z
  exact ⟨z.1, .type "type", q, _, fd, rest, z.2.1, z.2.2, h3, h4, ok, b⟩
/-- what a class is called by -/
theorem mkN_of {lev k np : Nat} {ps ks : List Str} {pl : List D → List D → List D} {mm : MO → List D → RO} {a : Addr} {fd : FuncData} {g : List Value → List Value → List Value} {gV : List V → List V → List V} (hA : Tbls.adr n = C) (hg : mg n = some (.ref C)) (M : Mk K C a)
    (ok : FnOk P w K mg base (L2.CX P w) lev a fd ps (spO K k mm)) (b : KBn K fd ps (np + 1) ks g gV)
    (h : ∀ (F : Hp) (x : V) (vs zs : List V) (ds es : List D), ds.length = np → es.length = ks.length → HasL K F ds vs → HasL K F es zs → ∃ ws, gV (x :: vs) zs = x :: ws ∧ HasL K F (pl ds es) ws) : MkN P w K mg base n lev k np ps ks pl mm := by
  subst hA
  exact ⟨a, fd, g, gV, M, ok, hg, b, h⟩
end
end PL
set_option Elab.async false
set_option linter.all false
set_option maxRecDepth 100000
namespace PL
open PySem PySem.Spec PyProof.Rows L2 LamX He
variable [Tbls]
section
variable {P : Program} {w : World} {K : PySem.W.Frag} {mg : Str → Option Value} {base : Heap}
theorem fn_okD {x qual : Str} {st : Stmt} {f : Addr} {fd : FuncData} {N ps : List Str} {k n m : Nat} {g : S} {dvs : List V} {kds : List (Str × V)} (F : FunD K x qual (defArgs st) (defBody st) (defScope st) dvs kds f fd) (Sc : FnScope N ps (defScope st)) (hn : ps.length = n) (hm : N.length = m)
    (hbody : ∀ (cdv : Value) (A : Around) (outer : List Env) (s : Shared) (H : Hp) (E : XK), Room k (A.deeper (envOfC qual (defScope st) s.heap.objs.size f cdv)) →
      Takes (cxOf (L2.CX P w) P w K mg base N qual (defScope st) f cdv A outer s H E) (WofE E) → DSs (cxOf (L2.CX P w) P w K mg base N qual (defScope st) f cdv A outer s H E) (WofE E) (defBody st) g) :
    FnOk P w K mg base (L2.CX P w) (k + 1) f fd ps (spD K mg n (runF n m g)) := by
  refine F.ok Sc (fun vs H Q E h => by rw [hn]; exact spD_len h) fun cdv A outer s H vs Q E hr ⟨ds, F1, hlen, sf, nt, tb, hl, p⟩ => ?_
  refine ⟨_, hbody cdv A outer s H E hr (takes_of rfl rfl rfl rfl), noT H, noT H, F1, F1, _, [], EO.start hl sf nt tb hlen hm, ?_⟩
  unfold runF at p
  cases q : g (ds.map Sl.im ++ List.replicate (m - n) Sl.no) with
  | bad => rw [q] at p; exact p
  | err x δ' =>
    rw [q] at p
    exact fun cls dx σ' H' F' e z => p cls dx H' F' e.behs z
  | ok fl δ' =>
    rw [q] at p
    cases fl with
    | nx => exact fun σ' H' F' e => p .non H' F' e.behs .non
    | ret d => exact fun v σ' H' F' e => p v H' F' e.behs e.top
    | brk => exact p.elim
    | cnt => exact p.elim
theorem fnO_okD {x qual : Str} {st : Stmt} {f : Addr} {fd : FuncData} {N ps : List Str} {k n m : Nat} {g : S} {dvs : List V} {kds : List (Str × V)} (F : FunD K x qual (defArgs st) (defBody st) (defScope st) dvs kds f fd) (Sc : FnScope N ps (defScope st)) (hn : ps.length = n + 1) (hm : N.length = m)
    (hbody : ∀ (cdv : Value) (A : Around) (outer : List Env) (s : Shared) (H : Hp) (E : XK), Room k (A.deeper (envOfC qual (defScope st) s.heap.objs.size f cdv)) →
      Takes (cxOf (L2.CX P w) P w K mg base N qual (defScope st) f cdv A outer s H E) (WofE E) → DSs (cxOf (L2.CX P w) P w K mg base N qual (defScope st) f cdv A outer s H E) (WofE E) (defBody st) g) :
    FnOk P w K mg base (L2.CX P w) (k + 1) f fd ps (spO K n (runO n m g)) := by
  refine F.ok Sc (fun vs H Q E h => ?_) fun cdv A outer s H vs Q E hr ⟨a, h, o, vs', ds, F1, e1, hlen, sf, nt, tb, fa, ha, hmo, hl, p⟩ => ?_
  · obtain ⟨a, h, o, vs', ds, F1, rfl, hlen, _, _, _, _, _, _, hl, _⟩ := h
    rw [List.length_cons, ← hl.length, hlen, hn]
  · subst e1
    refine ⟨_, hbody cdv A outer s H E hr (takes_of rfl rfl rfl rfl), noT H, _, F1, F1, _, [], EO.startO hl sf nt tb hlen fa ha hmo hm, ?_⟩
    unfold runO at p
    have fin : ∀ {δ' : En} {σ' : L2.St} {H' F' : Hp} {τ' : List (D × V)} {o' : MO}, δ'[0]? = some (Sl.io o') → EO K (noT H) (fun b => if b = a then none else noT H b) F1 H' F' δ' σ' τ' → ∃ h', BehO F1 H F' H' a ∧ H' a = some h' ∧ MOk K F' o' h' := fun {δ' σ' H' F' τ' o'} hd e => by
      obtain ⟨b, h', h1, ⟨h2, h3⟩, h4, h5, h6⟩ := e.io 0 o' hd
      have hb : b = a := by
        by_cases z : b = a
        · exact z
        · have q : (if b = a then none else noT H b) = none := h2
          rw [if_neg z] at q
          exact absurd q h3
      subst hb
      exact ⟨h', ⟨fun c u hc q => e.sb c u (by show (if c = b then none else noT H c) = some u; rw [if_neg hc]; exact q), e.tb, e.s0, e.sf, e.nt, e.nw⟩, h5, h6⟩
    cases q : g (Sl.io o :: ds.map Sl.im ++ List.replicate (m - (n + 1)) Sl.no) with
    | bad => rw [q] at p; exact p
    | err x δ' => rw [q] at p; exact p.elim
    | ok fl δ' =>
      rw [q] at p
      cases fl with
      | nx =>
        intro σ' H' F' e
        dsimp only at p
        split at p
        · rename_i d o' q2
          split at q2
          · rename_i o'' hd
            cases q2
            obtain ⟨h', k1, k2, k3⟩ := fin (io0_some hd) e
            exact p _ H' F' h' k1 k2 k3 .non
          · cases q2
        · exact p.elim
      | ret r =>
        intro v σ' H' F' e
        dsimp only at p
        split at p
        · rename_i d o' q2
          split at q2
          · rename_i o'' hd
            cases q2
            obtain ⟨h', k1, k2, k3⟩ := fin (io0_some hd) e
            exact p v H' F' h' k1 k2 k3 e.top
          · cases q2
        · exact p.elim
      | brk => exact p.elim
      | cnt => exact p.elim
end
end PL
set_option Elab.async false
set_option linter.all false
set_option maxRecDepth 100000
namespace PL
open PySem PySem.Spec PyProof.Rows L2 LamX He
variable [Tbls]
section
variable {X : Cx} {W : WX}
theorem ds_bad {st : Stmt} : DS X W st M.bad := ⟨fun _ _ _ _ _ _ ⟨_, _, _, _, _, _, _, p⟩ => p.elim⟩
end
end PL
set_option Elab.async false
set_option linter.all false
set_option maxRecDepth 100000
namespace PL
open PySem PySem.Spec PyProof.Rows L2 LamX
def ItTT (K : PySem.W.Frag) (a b : Addr) : It where
  go i H := ∃ (xs ys : List V) (x y : V), (SqT K H a xs ∧ xs[i]? = some x) ∧ SqT K H b ys ∧ ys[i]? = some y
  yld i H v H' := ∃ T x y, (v = .ref T ∧ H T = none) ∧ H' = upd H T (.tup [x, y]) ∧ (∀ xs, SqT K H a xs → xs[i]? = some x) ∧ ∀ ys, SqT K H b ys → ys[i]? = some y
  stop i H := ∃ xs ys : List V, (SqT K H a xs ∧ SqT K H b ys) ∧ (xs.length ≤ i ∨ ys.length ≤ i)
abbrev cellsTT (n : Addr) : List Addr := [n + 4, n + 2, n + 3, n, n + 1]
def StTT (n a b : Addr) (i : Nat) (h : Heap) : Prop :=
  (IsZip h (n + 4) (n + 2) (n + 3) .none ∧ IsTupOf2 h (n + 2) (.ref n) (.ref (n + 1)) ∧ ∃ x y, IsTupOf2 h (n + 3) x y) ∧ h.IsTupleIter n a i ∧ h.IsTupleIter (n + 1) b i
section
variable {P : Program} {w : World} {K : PySem.W.Frag} {elts : List Expr} {kk : Nat} {tpos : Pos} {a b n : Addr}
theorem sepTT (ha : a < n) (hb : b < n) : ZipSep2 (n + 4) (n + 2) (n + 3) n (n + 1) [n, a] [n + 1, b] :=
  zip_sep2 (N := n) (fp1 := [a]) (fp2 := [b]) (fun c hc => by rw [List.mem_singleton.mp hc]; exact ha) fun c hc => by rw [List.mem_singleton.mp hc]; exact hb
theorem turnTT (ha : a < n) (hb : b < n) : Turn P w K (.Tuple elts kk tpos) (ItTT K a b) (cellsTT n) (n + 4) (StTT n a b) := by
  have S := sepTT ha hb
  refine ⟨by simp, fun i h st c hc => ?_, fun i h h' st k => ?_, ?_, ?_, fun A i s Q E st q => wpAny_pyIter_zip st.1.1 q⟩
  · obtain ⟨⟨q1, q2, x, y, q3⟩, ⟨o4, e4, _, d4⟩, o5, e5, _, d5⟩ := st
    rcases (by simpa using hc : c = n + 4 ∨ c = n + 2 ∨ c = n + 3 ∨ c = n ∨ c = n + 1) with z | z | z | z | z <;> subst z
    · exact ⟨_, q1, fun v q => nomatch q⟩
    · exact ⟨_, q2, fun v q => nomatch q⟩
    · exact ⟨_, q3, fun v q => nomatch q⟩
    · exact ⟨o4, e4, fun v q => by rw [d4] at q; cases q⟩
    · exact ⟨o5, e5, fun v q => by rw [d5] at q; cases q⟩
  · obtain ⟨⟨q1, q2, x, y, q3⟩, q4, q5⟩ := st
    have kk := fun (c : Addr) (hc : c ∈ cellsTT n) => k c hc
    exact ⟨⟨kk _ (by simp) _ q1, kk _ (by simp) _ q2, x, y, kk _ (by simp) _ q3⟩, q4.at fun o => kk _ (by simp) o, q5.at fun o => kk _ (by simp) o⟩
  · intro X hP hw hK hcalm i pins s σ H E I fresh st g
    subst hP hw hK
    obtain ⟨⟨q1, q2, x0, y0, q3⟩, q4, q5⟩ := st
    obtain ⟨xs, ys, x, y, ⟨sx, gx⟩, sy, gy⟩ := g
    obtain ⟨l1, r1, t1, _⟩ := I.tuple sx
    obtain ⟨l2, r2, t2, _⟩ := I.tuple sy
    obtain ⟨u1, m1, v1⟩ := r1.get gx
    obtain ⟨u2, m2, v2⟩ := r2.get gy
    have hh : X.A.in1.handled = none := I.ok.hd hcalm
    have T2 : s.heap.IsTuple b l2.toArray := t2
    have D1 := Draws.tuple (prog := X.prog) (w := X.w) (A := X.A.in1) hh n a (Nat.ne_of_lt ha) l1.toArray
    have D2 := Draws.tuple (prog := X.prog) (w := X.w) (A := X.A.in1) hh (n + 1) b (Nat.ne_of_lt (Nat.lt_succ_of_lt hb)) l2.toArray
    have b1 : i < l1.toArray.size := by
      rw [List.size_toArray]; exact (List.getElem?_eq_some_iff.mp m1).1
    have b2 : i < l2.toArray.size := by
      rw [List.size_toArray]; exact (List.getElem?_eq_some_iff.mp m2).1
    refine wpAny_pyNext_zipD2_item S D1 D2 q1 q2 q3 ⟨q4, t1⟩ ⟨q5, T2⟩ b1 b2 fun w1 w2 h' tk e1 e2 z1 z2 z3 z4 z5 z6 keep => ?_
    obtain rfl : u1 = w1 := by simpa [m1] using e1
    obtain rfl : u2 = w2 := by simpa [m2] using e2
    have zlt : n + 4 < s.heap.objs.size := Heap.lt_size q1
    refine ⟨_, rfl, wpAny_letOwnedTupleGo_zip (s := { s with heap := h', toks := tk }) z1 fun h2 z1' same => ?_⟩
    have keep2 : ∀ c o, c ∉ cellsTT n → s.heap.get? c = some o → h2.get? c = some o := fun c o hc e => by
      simp only [List.mem_cons, List.not_mem_nil, or_false, not_or] at hc
      exact (same.2 c hc.1).trans (keep c o hc.1 hc.2.2.1 hc.2.2.2.1 hc.2.2.2.2 e)
    have pair : h2.get? s.heap.objs.size = some { cls := .type "tuple", data := .seq #[u1, u2] } := (same.2 _ (Nat.ne_of_gt zlt)).trans z5
    have J := I.turnedNew (t' := tk) (T := s.heap.objs.size) (ob := .tup [x, y]) keep2 fresh (Nat.le_refl _) ⟨by show 2 ≤ sizeLine; decide, [u1, u2], .cons v1 (.cons v2 .nil), _, pair, rfl, _, rfl⟩
    refine ⟨.ref s.heap.objs.size, _, J, rfl, ⟨_, x, y, ⟨rfl, I.hok.fresh (Nat.le_refl _)⟩, rfl, fun l hl => by rw [I.tuple_inj hl sx]; exact gx, fun l hl => by rw [I.tuple_inj hl sy]; exact gy⟩, ⟨⟨z1', ?_, u1, u2, ?_⟩, ?_, ?_⟩, fun c hc => ?_⟩
    · exact (same.2 _ S.TIz).trans (keep _ _ S.TIz S.TITO S.TIi1 S.TIi2 q2)
    · exact (same.2 _ S.TOz).trans z2
    · exact z3.1.at fun o e => (same.2 _ (Ne.symm S.zi1)).trans e
    · exact z4.1.at fun o e => (same.2 _ (Ne.symm S.zi2)).trans e
    · have le : ∀ k, k ≤ 4 → n + k < s.heap.objs.size := fun k hk => Nat.lt_of_le_of_lt (Nat.add_le_add_left hk n) zlt
      have hlt : c < s.heap.objs.size := by
        rcases (by simpa using hc : c = n + 4 ∨ c = n + 2 ∨ c = n + 3 ∨ c = n ∨ c = n + 1) with z | z | z | z | z <;> subst z
        · exact le 4 (by decide)
        · exact le 2 (by decide)
        · exact le 3 (by decide)
        · exact le 0 (by decide)
        · exact le 1 (by decide)
      rw [upd_ne (Nat.ne_of_lt hlt)]
      exact (fresh c hc).1
  · intro X hP hw hK hcalm i pins s σ H E I fresh st g
    subst hP hw hK
    obtain ⟨⟨q1, q2, x0, y0, q3⟩, q4, q5⟩ := st
    obtain ⟨xs, ys, ⟨sx, sy⟩, g⟩ := g
    obtain ⟨l1, r1, t1, _⟩ := I.tuple sx
    obtain ⟨l2, r2, t2, _⟩ := I.tuple sy
    have hh : X.A.in1.handled = none := I.ok.hd hcalm
    have T2 : s.heap.IsTuple b l2.toArray := t2
    have ne2 : b ≠ n + 1 := Nat.ne_of_lt (Nat.lt_succ_of_lt hb)
    have fin : ∀ (h' : Heap) (tk : Nat), (∀ c o, c ≠ n + 4 → c ≠ n + 3 → c ≠ n → c ≠ n + 1 → s.heap.get? c = some o → h'.get? c = some o) → L2.Inv X pins σ H { s with heap := h', toks := tk } := fun h' tk keep =>
      I.turnedL (t' := tk) (ch := cellsTT n) (fun c o hc e => by
        simp only [List.mem_cons, List.not_mem_nil, or_false, not_or] at hc
        exact keep c o hc.1 hc.2.2.1 hc.2.2.2.1 hc.2.2.2.2 e) fresh
    have len1 : l1.length = xs.length := r1.length.symm
    have len2 : l2.length = ys.length := r2.length.symm
    by_cases c1 : l1.length ≤ i
    · have D1 := drawsEndT (P := X.prog) (w := X.w) (A := X.A.in1) hh (it := n) (t := a) (items := l1.toArray) (i := i) (by simpa using c1)
      by_cases c2 : l2.length ≤ i
      · have D2 := drawsEndT (P := X.prog) (w := X.w) (A := X.A.in1) hh (it := n + 1) (t := b) (items := l2.toArray) (i := i) (by simpa using c2)
        exact wpAny_pyNext_zipD2_end S D1 D2 q1 q2 q3 ⟨rfl, q4, t1⟩ ⟨rfl, q5, T2⟩ (Nat.le_refl _) (Nat.le_refl _) (.inl rfl) fun h' tk keep => ⟨rfl, fin h' tk keep⟩
      · have D2 := Draws.tuple (prog := X.prog) (w := X.w) (A := X.A.in1) hh (n + 1) b ne2 l2.toArray
        exact wpAny_pyNext_zipD2_end S D1 D2 q1 q2 q3 ⟨rfl, q4, t1⟩ ⟨q5, T2⟩ (Nat.le_refl _) (by rw [List.size_toArray]; omega) (.inl rfl) fun h' tk keep => ⟨rfl, fin h' tk keep⟩
    · have c2 : l2.length ≤ i := by
        rcases g with g | g <;> omega
      have D1 := Draws.tuple (prog := X.prog) (w := X.w) (A := X.A.in1) hh n a (Nat.ne_of_lt ha) l1.toArray
      have D2 := drawsEndT (P := X.prog) (w := X.w) (A := X.A.in1) hh (it := n + 1) (t := b) (items := l2.toArray) (i := i) (by simpa using c2)
      exact wpAny_pyNext_zipD2_end S D1 D2 q1 q2 q3 ⟨q4, t1⟩ ⟨rfl, q5, T2⟩ (by rw [List.size_toArray]; omega) (Nat.le_refl _) (.inr rfl) fun h' tk keep => ⟨rfl, fin h' tk keep⟩
end
/-- zip(e, e2), e a tuple, e2 a list -/
def iZipTT (K : PySem.W.Frag) (ta : TA) : TI := fun σ H R => ta σ H fun vs H1 => ∃ (a b : Addr) (xs ys : List V), vs = [.ref a, .ref b] ∧ (SqT K H1 a xs ∧ SqT K H1 b ys) ∧ R (ItTT K a b) H1
section
variable {X : Cx} {W : WX} {e e2 : Expr} {p pos tpos : Pos} {elts : List Expr} {kk : Nat}
theorem pi_zipTT {ta : TA} (hg : Gl X "zip") (hm : X.mg "zip" = none) (ha : PA X [e, e2] ta) (hs : starEach [e, e2] X.env = (false, eval e X.env) :: starEach [e2] X.env := by rfl)
    (hpl : (backTo pos (starEach [e2] X.env)).any (·.1) = false := by rfl) : PI X (.Tuple elts kk tpos) (.Call (.Name "zip" p) [e, e2] [] pos) (iZipTT X.K ta) := by
  constructor
  intro pins s σ H R I h
  have args := ha.run pos pins s σ H _ I h
  refine Call_ (ld_blt I hg hm PyProof.Rows.boot_zip (PyProof.Rows.callWith_type1 (thn args ?_) hs hpl))
  rintro us s1 ⟨_, H1, I1, rel, a, b, xs, ys, rfl, ⟨sx, sy⟩, q⟩
  cases rel with
  | cons ra rr =>
    cases rr with
    | cons rb rr =>
      cases rr; cases ra; cases rb
      obtain ⟨l1, _, t1, _⟩ := I1.tuple sx
      obtain ⟨l2, _, t2, _⟩ := I1.tuple sy
      have T2 : s1.heap.IsTuple b l2.toArray := t2
      have lb : b < s1.heap.objs.size := let ⟨_, ho, _⟩ := t2; Heap.lt_size ho
      have T1 : s1.heap.IsTuple a l1.toArray := t1
      have la : a < s1.heap.objs.size := let ⟨_, ho, _⟩ := t1; Heap.lt_size ho
      refine zip_begins2 (begins_tuple a l1.toArray) (begins_tuple b l2.toArray) T1 T2 fun h' z1 z2 z3 z4 z5 _ keep => wpAny_pyIter_zip z1 ?_
      refine ⟨_, cellsTT s1.heap.objs.size, StTT s1.heap.objs.size a b, ItTT X.K a b, H1, rfl, I1.kept (t' := s1.toks) keep, turnTT la lb, ⟨⟨z1, z2, _, _, z3⟩, ⟨_, z4, rfl, rfl⟩, _, z5, rfl, rfl⟩, fun c hc => ?_, q⟩
      have young : s1.heap.objs.size ≤ c := by
        rcases (by simpa using hc : c = s1.heap.objs.size + 4 ∨ c = s1.heap.objs.size + 2 ∨ c = s1.heap.objs.size + 3 ∨ c = s1.heap.objs.size ∨ c = s1.heap.objs.size + 1) with z | z | z | z | z <;> rw [z]
        · exact Nat.le_add_right _ _
        · exact Nat.le_add_right _ _
        · exact Nat.le_add_right _ _
        · exact Nat.le_refl _
        · exact Nat.le_add_right _ _
      exact I1.fpOk young (I1.hok.fresh young)
def iZipP (gs : M (List D)) : M (List D) := M.bind gs fun ds δ => match ds with
  | [.tup l, .tup m] => .ok (zipD l m) δ
  | _ => .bad
variable [Tbls]
theorem yieldsTT {K : PySem.W.Frag} {F : Hp} {a b : Addr} {vs ws : List V} {l m : List D} (s1 : SqT K F a vs) (h1 : HasL K F l vs) (s2 : SqT K F b ws) (h2 : HasL K F m ws) : Yields K F (zipD l m) (ItTT K a b) := by
  have e1 := h1.length
  have e2 := h2.length
  have el : (zipD l m).length = min l.length m.length := by unfold zipD; rw [List.length_map, List.length_zip]
  refine ⟨fun i H sf hi => ⟨vs, ws, vs[i]'(by omega), ws[i]'(by omega), ⟨Same.seqT sf s1, List.getElem?_eq_getElem _⟩, Same.seqT sf s2, List.getElem?_eq_getElem _⟩, fun i H sf hi => ⟨vs, ws, ⟨Same.seqT sf s1, Same.seqT sf s2⟩, by omega⟩, fun i H x H' d sf hd yl => ?_⟩
  obtain ⟨T, x1, y1, ⟨rfl, hT⟩, rfl, g1, g2⟩ := yl
  obtain ⟨dx, dy, k1, k2, rfl⟩ := zip_get hd
  obtain ⟨v, a1, a2⟩ := h1.get k1
  obtain ⟨u, b1, b2⟩ := h2.get k2
  have c1 := g1 vs (Same.seqT sf s1)
  have c2 := g2 ws (Same.seqT sf s2)
  rw [a1] at c1; rw [b1] at c2
  cases c1; cases c2
  exact .inr ⟨T, _, _, hT, rfl, rfl, rfl, .cons (a2.mono ft_same) (.cons (b2.mono ft_same) .nil)⟩
variable [Tbls]
theorem di_zipT {gs : M (List D)} (hg : Gl X "zip") (hm : X.mg "zip" = none) (ha : DA X W [e, e2] gs) (hs : starEach [e, e2] X.env = (false, eval e X.env) :: starEach [e2] X.env := by rfl)
    (hpl : (backTo pos (starEach [e2] X.env)).any (·.1) = false := by rfl) : DI X W (.Tuple elts kk tpos) (.Call (.Name "zip" p) [e, e2] [] pos) (iZipP gs) := by
  refine PI.imp (pi_zipTT hg hm ha hs hpl) fun σ H R ⟨P, B, F0, F, δ, τ, eo, pr⟩ => ?_
  refine ⟨P, B, F0, F, δ, τ, eo, ?_⟩
  unfold iZipP M.bind at pr
  cases q : gs δ with
  | bad => rw [q] at pr; exact pr.elim
  | err x δ' => rw [q] at pr; exact pr
  | ok ds δ' =>
    rw [q] at pr
    dsimp only at pr
    intro vs H1 F1 e1 hl
    split at pr
    · rename_i ds2 δ2 q2
      split at q2
      · rename_i l m
        cases q2
        cases hl with
        | cons ht hl =>
          cases hl with
          | cons hL hl =>
            cases hl
            cases ht with
            | tup s1 h1 =>
              cases hL with
              | tup s2 h2 => exact ⟨_, _, _, _, rfl, ⟨Same.seqT e1.sf s1, Same.seqT e1.sf s2⟩, pr _ H1 F1 e1 (yieldsTT s1 h1 s2 h2)⟩
      · cases q2
    · rename_i x δ2 q2
      split at q2 <;> cases q2
    · exact pr.elim
end
def enumO (a : Addr) : Obj := { cls := .type "enumerate", data := .fields #[.none, .bool false, .ref a, rawInt 0, .none, .none] }
set_option maxHeartbeats 1000000 in
theorem enum1_new {v : Value} {o : Obj} {H : Heap → Prop} (B : Begins v o H) : Meets (Builtin.«enumerate.__new__» ⟨[.type "enumerate", v], []⟩) (fun _ R s => H s.heap ∧ R (.ok (.ret (.ref (s.heap.push o).objs.size))) { s with heap := (s.heap.push o).push (enumO s.heap.objs.size) }) := by
  refine Meets.of_wp fun prog w A R s hh => ?_
  obtain ⟨hp, gg, dd, tk, os⟩ := s
  obtain ⟨c1, c2⟩ := hh
  have subE := sub_enumerate
  have step : ∀ {A' : Around} {E : Value → Shared → Prop} {Q : Value → Shared → Prop}, Q (.ref hp.objs.size) ⟨hp.push o, gg, dd, tk, os⟩ → wpAny (model prog w) A' (pyIter v) Q E ⟨hp, gg, dd, tk, os⟩ := fun q => B.iter prog w _ _ ⟨hp, gg, dd, tk, os⟩ _ c1 q
  wp_walk using step
  refine wpAny_stack_any fun st => wpAny_pure ?_
  split
  · rename_i c _ _ _ _ _
    cases (c == Value.type "enumerate") <;> (wp_walk using step; exact ⟨_, rfl, c2⟩)
  · wp_walk using step
    exact ⟨_, rfl, c2⟩
theorem enum1_begins {prog : Program} {w : World} {A : Around} {E : Value → Shared → Prop} {s : Shared} {v : Value} {o : Obj} {H : Heap → Prop} {Q : Value → Shared → Prop} (B : Begins v o H) (h1 : H s.heap)
    (h : ∀ h', IsEnum h' (s.heap.objs.size + 1) s.heap.objs.size 0 .none → h'.get? s.heap.objs.size = some o → (∀ b u, s.heap.get? b = some u → h'.get? b = some u) → Q (.ref (s.heap.objs.size + 1)) { s with heap := h' }) : wpAny (model prog w) A (call (.type "enumerate") [v]) Q E s := by
  refine callType_new F.called_enumerate (by decide) (F.typeCall_enumerate_1 _) (F.newCall_enumerate_1 _) (fun obj => F.args_object_init_2 obj _) F.entry_enumerate_new (enum1_new B) ⟨h1, ?_⟩
  have size : (s.heap.push o).objs.size = s.heap.objs.size + 1 := Heap.size_push ..
  show _ ∧ _
  rw [size]
  have at1 : IsEnum ((s.heap.push o).push (enumO s.heap.objs.size)) (s.heap.objs.size + 1) s.heap.objs.size 0 .none := by
    have z := Heap.get?_push_size (s.heap.push o) (o := enumO s.heap.objs.size) rfl
    rw [size] at z
    exact z
  exact ⟨⟨_, at1, rfl⟩, h _ at1 (Heap.get?_push_of_some _ (Heap.get?_push_size _ B.free)) fun b u x => Heap.get?_push_of_some _ (Heap.get?_push_of_some _ x)⟩
def ItE (K : PySem.W.Frag) (a : Addr) : It where
  go i H := ∃ (xs : List V) (x : V), SqT K H a xs ∧ xs[i]? = some x
  yld i H v H' := ∃ T x, (v = .ref T ∧ H T = none) ∧ H' = upd H T (.tup [.int (i : Nat), x]) ∧ ∀ xs, SqT K H a xs → xs[i]? = some x
  stop i H := ∃ xs : List V, SqT K H a xs ∧ xs.length ≤ i
abbrev cellsE (n : Addr) : List Addr := [n + 1, n]
def StE (n a : Addr) (i : Nat) (h : Heap) : Prop := (∃ old, IsEnum h (n + 1) n ((i : Nat) : Int) old) ∧ h.IsTupleIter n a i
section
variable {P : Program} {w : World} {K : PySem.W.Frag} {elts : List Expr} {kk : Nat} {tpos : Pos} {a n : Addr}
theorem turnE (ha : a < n) : Turn P w K (.Tuple elts kk tpos) (ItE K a) (cellsE n) (n + 1) (StE n a) := by
  have n1 : n + 1 ≠ n := Nat.succ_ne_self n
  have n2 : n + 1 ∉ [n, a] := by
    simp only [List.mem_cons, List.not_mem_nil, or_false, not_or]
    exact ⟨Nat.succ_ne_self n, Nat.ne_of_gt (Nat.lt_succ_of_lt ha)⟩
  refine ⟨by simp, fun i h st c hc => ?_, fun i h h' st k => ?_, ?_, ?_, fun A i s Q E st q => ?_⟩
  · obtain ⟨⟨old, q1⟩, o4, e4, _, d4⟩ := st
    rcases (by simpa using hc : c = n + 1 ∨ c = n) with z | z <;> subst z
    · exact ⟨_, q1, fun v q => nomatch q⟩
    · exact ⟨o4, e4, fun v q => by rw [d4] at q; cases q⟩
  · obtain ⟨⟨old, q1⟩, q4⟩ := st
    exact ⟨⟨old, k _ (by simp) _ q1⟩, q4.at fun o => k _ (by simp) o⟩
  · intro X hP hw hK hcalm i pins s σ H E I fresh st g
    subst hP hw hK
    obtain ⟨⟨old, q1⟩, q4⟩ := st
    obtain ⟨xs, x, sx, gx⟩ := g
    obtain ⟨l1, r1, t1, _⟩ := I.tuple sx
    obtain ⟨u1, m1, v1⟩ := r1.get gx
    have hh : X.A.in1.handled = none := I.ok.hd hcalm
    have D1 := Draws.tuple (prog := X.prog) (w := X.w) (A := X.A.in1) hh n a (Nat.ne_of_lt ha) l1.toArray
    have b1 : i < l1.toArray.size := by
      rw [List.size_toArray]; exact (List.getElem?_eq_some_iff.mp m1).1
    refine wpAny_pyNext_enum_itemD D1 q1 ⟨q4, t1⟩ b1 n1 n2 fun w1 h' tk e1 z1 z3 z5 z6 keep => ?_
    obtain rfl : u1 = w1 := by simpa [m1] using e1
    have zlt : n + 1 < s.heap.objs.size := Heap.lt_size q1
    refine ⟨_, rfl, wpAny_letOwnedTupleGo_enum (s := { s with heap := h', toks := tk + 1 }) z1 fun h2 z1' same => ?_⟩
    have keep2 : ∀ c o, c ∉ cellsE n → s.heap.get? c = some o → h2.get? c = some o := fun c o hc e => by
      simp only [List.mem_cons, List.not_mem_nil, or_false, not_or] at hc
      exact (same.2 c hc.1).trans (keep c o hc.1 hc.2 e)
    have pair : h2.get? s.heap.objs.size = some { cls := .type "tuple", data := .seq #[.int i tk, u1] } := (same.2 _ (Nat.ne_of_gt zlt)).trans z5
    have J := I.turnedNew (t' := tk + 1) (T := s.heap.objs.size) (ob := .tup [.int (i : Nat), x]) keep2 fresh (Nat.le_refl _) ⟨by show 2 ≤ sizeLine; decide, [.int i tk, u1], .cons ⟨_, rfl⟩ (.cons v1 .nil), _, pair, rfl, _, rfl⟩
    refine ⟨.ref s.heap.objs.size, _, J, rfl, ⟨_, x, ⟨rfl, I.hok.fresh (Nat.le_refl _)⟩, rfl, fun l hl => by rw [I.tuple_inj hl sx]; exact gx⟩, ⟨⟨u1, ?_⟩, ?_⟩, fun c hc => ?_⟩
    · have e1 : ((i + 1 : Nat) : Int) = (i : Int) + 1 := by omega
      rw [e1]; exact z1'
    · exact z3.1.at fun o e => (same.2 _ (Ne.symm n1)).trans e
    · have hlt : c < s.heap.objs.size := by
        rcases (by simpa using hc : c = n + 1 ∨ c = n) with z | z <;> subst z
        · exact zlt
        · exact Nat.lt_trans (Nat.lt_succ_self _) zlt
      rw [upd_ne (Nat.ne_of_lt hlt)]
      exact (fresh c hc).1
  · intro X hP hw hK hcalm i pins s σ H E I fresh st g
    subst hP hw hK
    obtain ⟨⟨old, q1⟩, q4⟩ := st
    obtain ⟨xs, sx, g⟩ := g
    obtain ⟨l1, r1, t1, _⟩ := I.tuple sx
    have hh : X.A.in1.handled = none := I.ok.hd hcalm
    have len1 : l1.length = xs.length := r1.length.symm
    have D1 := drawsEndT (P := X.prog) (w := X.w) (A := X.A.in1) hh (it := n) (t := a) (items := l1.toArray) (i := i) (by simpa using (by omega : l1.length ≤ i))
    exact wpAny_pyNext_enum_endD D1 q1 ⟨rfl, q4, t1⟩ fun h' eb => ⟨rfl, I.turnedL (t' := s.toks) (ch := cellsE n) (fun c o hc e => by
      simp only [List.mem_cons, List.not_mem_nil, or_false, not_or] at hc
      exact eb c o hc.2 e) fresh⟩
  · obtain ⟨⟨old, q1⟩, _⟩ := st
    exact wpAny_pyIter_enum q1 q
end
def iEnumT (K : PySem.W.Frag) (ta : TA) : TI := fun σ H R => ta σ H fun vs H1 => ∃ (a : Addr) (xs : List V), vs = [.ref a] ∧ SqT K H1 a xs ∧ R (ItE K a) H1
section
variable {X : Cx} {W : WX} {e : Expr} {p pos tpos : Pos} {elts : List Expr} {kk : Nat}
theorem pi_enumT {ta : TA} (hg : Gl X "enumerate") (hm : X.mg "enumerate" = none) (ha : PA X [e] ta) (hs : starEach [e] X.env = [(false, eval e X.env)] := by rfl) :
    PI X (.Tuple elts kk tpos) (.Call (.Name "enumerate" p) [e] [] pos) (iEnumT X.K ta) := by
  constructor
  intro pins s σ H R I h
  have args := ha.run pos pins s σ H _ I h
  refine Call_ (ld_blt I hg hm boot_enumerate (PyProof.Rows.callWith_type1 (thn args ?_) hs rfl))
  rintro us s1 ⟨_, H1, I1, rel, a, xs, rfl, sx, q⟩
  cases rel with
  | cons ra rr =>
    cases rr; cases ra
    obtain ⟨l1, _, t1, _⟩ := I1.tuple sx
    have T1 : s1.heap.IsTuple a l1.toArray := t1
    have la : a < s1.heap.objs.size := let ⟨_, ho, _⟩ := t1; Heap.lt_size ho
    refine enum1_begins (begins_tuple a l1.toArray) T1 fun h' z1 z4 keep => wpAny_pyIter_enum z1 ?_
    refine ⟨_, cellsE s1.heap.objs.size, StE s1.heap.objs.size a, ItE X.K a, H1, rfl, I1.kept (t' := s1.toks) keep, turnE la, ⟨⟨_, z1⟩, _, z4, rfl, rfl⟩, fun c hc => ?_, q⟩
    have young : s1.heap.objs.size ≤ c := by
      rcases (by simpa using hc : c = s1.heap.objs.size + 1 ∨ c = s1.heap.objs.size) with z | z <;> rw [z]
      · exact Nat.le_add_right _ _
      · exact Nat.le_refl _
    exact I1.fpOk young (I1.hok.fresh young)
def enumD : Nat → List D → List D
  | _, [] => []
  | i, d :: l => .tup [.int (i : Nat), d] :: enumD (i + 1) l
def iEnumD (gs : M (List D)) : M (List D) := M.bind gs fun ds δ => match ds with
  | [.tup l] => .ok (enumD 0 l) δ
  | _ => .bad
theorem enum_get {l : List D} : ∀ {k i : Nat} {d : D}, (enumD k l)[i]? = some d → ∃ x, l[i]? = some x ∧ d = .tup [.int ((k + i : Nat) : Int), x] := by
  induction l with
  | nil => intro k i d h; simp [enumD] at h
  | cons y l ih =>
    intro k i d h
    cases i with
    | zero =>
      rw [enumD, List.getElem?_cons_zero] at h
      exact ⟨y, rfl, (Option.some.inj h).symm⟩
    | succ i =>
      rw [enumD, List.getElem?_cons_succ] at h
      obtain ⟨x, h1, h2⟩ := ih h
      exact ⟨x, by rw [List.getElem?_cons_succ]; exact h1, by rw [h2, show k + 1 + i = k + (i + 1) by omega]⟩
theorem enum_len {l : List D} : ∀ {k : Nat}, (enumD k l).length = l.length := by
  induction l with
  | nil => intro k; rfl
  | cons y l ih => intro k; rw [enumD, List.length_cons, List.length_cons, ih]
variable [Tbls]
theorem yieldsE {K : PySem.W.Frag} {F : Hp} {a : Addr} {vs : List V} {l : List D} (s1 : SqT K F a vs) (h1 : HasL K F l vs) : Yields K F (enumD 0 l) (ItE K a) := by
  have e1 := h1.length
  have el : (enumD 0 l).length = l.length := enum_len
  refine ⟨fun i H sf hi => ⟨vs, vs[i]'(by omega), Same.seqT sf s1, List.getElem?_eq_getElem _⟩, fun i H sf hi => ⟨vs, Same.seqT sf s1, by omega⟩, fun i H x H' d sf hd yl => ?_⟩
  obtain ⟨T, x1, ⟨rfl, hT⟩, rfl, g1⟩ := yl
  obtain ⟨dx, k1, rfl⟩ := enum_get hd
  obtain ⟨v, a1, a2⟩ := h1.get k1
  have c1 := g1 vs (Same.seqT sf s1)
  rw [a1] at c1
  cases c1
  rw [Nat.zero_add]
  exact .inr ⟨T, _, _, hT, rfl, rfl, rfl, .cons (.int _) (.cons (a2.mono ft_same) .nil)⟩
theorem di_enumT {gs : M (List D)} (hg : Gl X "enumerate") (hm : X.mg "enumerate" = none) (ha : DA X W [e] gs) (hs : starEach [e] X.env = [(false, eval e X.env)] := by rfl) : DI X W (.Tuple elts kk tpos) (.Call (.Name "enumerate" p) [e] [] pos) (iEnumD gs) := by
  refine PI.imp (pi_enumT hg hm ha hs) fun σ H R ⟨P, B, F0, F, δ, τ, eo, pr⟩ => ?_
  refine ⟨P, B, F0, F, δ, τ, eo, ?_⟩
  unfold iEnumD M.bind at pr
  cases q : gs δ with
  | bad => rw [q] at pr; exact pr.elim
  | err x δ' => rw [q] at pr; exact pr
  | ok ds δ' =>
    rw [q] at pr
    dsimp only at pr
    intro vs H1 F1 e1 hl
    split at pr
    · rename_i ds2 δ2 q2
      split at q2
      · rename_i l
        cases q2
        cases hl with
        | cons ht hl =>
          cases hl
          cases ht with
          | tup s1 h1 => exact ⟨_, _, rfl, Same.seqT e1.sf s1, pr _ H1 F1 e1 (yieldsE s1 h1)⟩
      · cases q2
    · rename_i x δ2 q2
      split at q2 <;> cases q2
    · exact pr.elim
end
end PL
set_option Elab.async false
set_option linter.all false
set_option maxRecDepth 100000
namespace PL
open PySem PySem.Spec PyProof.Rows L2 LamX
variable [Tbls]
def rSum2 (K : PySem.W.Frag) : List V → Hp → VK → Prop := fun vs H Q => ∃ (a : Addr) (ns : List Int), vs = [V.ref a] ∧ (SqL K H a (ns.map V.int) ∨ SqT K H a (ns.map V.int)) ∧ Q (.int ns.sum) H
theorem cr_sum2 {X : Cx} (hc : X.calm = true) : CallR X (.builtin "sum") (rSum2 X.K) := by
  intro pins s σ H vs us Q I r h
  obtain ⟨a, ns, rfl, hs | hs, q⟩ := h
  · exact cr_sum hc pins s σ H _ us Q I r ⟨a, ns, rfl, hs, q⟩
  · obtain ⟨its, rv, t, _⟩ := I.tuple hs
    rw [Vals.ref1 r]
    have t2 : s.heap.IsTuple a its.toArray := t
    have hi := rv.ints
    obtain ⟨xs, e⟩ := hi.allInts.items
    have hn : numsOf (intItems xs).toList = ns := by rw [← e]; exact hi.numsOf
    rw [nums_intItems] at hn
    rw [e] at t2
    refine PySem.W.ktm_sumG (I.ok.hd hc) t2 fun h' tk t' hk => ?_
    rw [preSum_eq, List.take_of_length_le (by simp), hn]
    exact ⟨.int _, H, I.kept hk, ⟨_, rfl⟩, q⟩
def fSum2 : List D → Option D
  | [.lst l] => (intsD l).map fun ns => .int ns.sum
  | [.tup l] => (intsD l).map fun ns => .int ns.sum
  | _ => none
theorem s_sum2 {K : PySem.W.Frag} : CallS K (rSum2 K) fSum2 := by
  intro ds d vs P B F0 H F δ σ τ Q q e hl k
  unfold fSum2 at q
  split at q
  · rename_i l
    cases hn : intsD l with
    | none => rw [hn] at q; cases q
    | some ns =>
      rw [hn] at q
      cases q
      cases hl with
      | cons h1 h2 =>
        cases h2
        cases h1 with
        | lst hF hL =>
          refine ⟨_, ns, rfl, .inl ?_, k _ H F (e.push (.int _))⟩
          have z := ints_of hL hn
          subst z
          exact SqL.of (e.sf _ _ hF)
  · rename_i l
    cases hn : intsD l with
    | none => rw [hn] at q; cases q
    | some ns =>
      rw [hn] at q
      cases q
      cases hl with
      | cons h1 h2 =>
        cases h2
        cases h1 with
        | tup hF hL =>
          refine ⟨_, ns, rfl, .inr ?_, k _ H F (e.push (.int _))⟩
          have z := ints_of hL hn
          subst z
          exact Same.seqT e.sf hF
  · cases q
section
variable {X : Cx} {W : WX} {p pos : Pos} {a : Expr} {es : List Expr} {gs : M (List D)}
theorem de_sum2 (hc : X.calm = true) (hg : Gl X "sum") (hm : X.mg "sum" = none) (ha : DA X W (a :: es) gs) (he : starEach (a :: es) X.env = (false, eval a X.env) :: starEach es X.env := by rfl) (hpl : (backTo pos (starEach es X.env)).any (·.1) = false := by rfl) :
    DE X W (.Call (.Name "sum" p) (a :: es) [] pos) (eCall fSum2 gs) := de_callB (cr_sum2 hc) s_sum2 hg hm (by decide +kernel) ha (by decide) (by decide) he hpl
end
section
variable {X : Cx} {W : WX} {pos : Pos} {i : Nat}
theorem ds_compC {y : Str} {py : Pos} {elt tg iter : Expr} {ifs : List Expr} {scope : Scope} {own : List (Str × Nat)} {gi : M (List D)} {bd : Bd} {gt : M Bool} {ge : M D} {spos : Pos}
    (hy : X.N[i]? = some y) (hyl : Loc X.env.scope y)
    (hc : X.calm = true) (hN : X.N.Nodup) (hi : DI X W tg iter gi) (ok : BlkOk X.N X.env.scope scope own)
    (hg : ∀ (s : Shared) (H : Hp) (C : Addr) (cl : List (Str × Addr)) (fp : List Addr), DG (X.blk s H scope (compEnvC scope cl C X.env) fp) (own.map (·.2)) tg bd) (ht : ∀ (s : Shared) (H : Hp) (C : Addr) (cl : List (Str × Addr)) (fp : List Addr), DTs (X.blk s H scope (compEnvC scope cl C X.env) fp) W0 ifs gt)
    (he : ∀ (s : Shared) (H : Hp) (C : Addr) (cl : List (Str × Addr)) (fp : List Addr), DE (X.blk s H scope (compEnvC scope cl C X.env) fp) W0 elt ge) (hs : ∀ x, foldedSetIterable iter X.env x = pure x := by intro _; rfl)
    (hsw : swapsWith (.ListComp elt [⟨tg, iter, ifs, 0⟩] scope pos) (some (.Name y py)) spos.line X.env = pure false := by rfl) (hf : X.fn y = true ∨ X.env.scope.names.lookup y = some .local := by first | exact .inl rfl | exact .inr rfl | assumption) :
    DS X W (.Assign [.Name y py] (.ListComp elt [⟨tg, iter, ifs, 0⟩] scope pos) spos) (sComp i gi bd gt ge (own.map (·.2))) := by
  refine PS.imp (ps_set hN hy hyl (pe_lc (g := tGt X.K (own.map (·.2)) bd) (tt := tT X.K X.mg W0 gt) (te := tE X.K X.mg W0 ge) hc hN hi ok hg ht he hs) hsw hf) fun Dn σ H ⟨P, B, F0, F, δ, τ, e, p⟩ => ?_
  unfold sComp mComp M.bind at p
  refine comp_read (W0 := W0) e (fun q => ?_) (fun x δ' q => ?_) fun ds δ' q => ?_
  · rw [q] at p; exact p
  · rw [q] at p; exact fun cls dx H' F' e' z => p cls dx σ H' F' e' z
  · rw [q] at p
    dsimp only at p
    cases q2 : loopC bd gt ge (own.map (·.2)) ds [] (wipeD δ' (own.map (·.2))) with
    | bad => rw [q2] at p; exact p
    | err x δ2 => exact absurd q2 (loopC_err _ _ _ _ _)
    | ok acc δ2 =>
      rw [q2] at p
      dsimp only at p
      intro L accV H' F' pL hL fL hn e' hl
      by_cases hc : i < δ2.length
      · rw [if_pos hc] at p
        exact p _ _ F' (e'.storeOw (by rw [← e'.len]; exact hc) pL fL hL hl fun j h z => hn j L h z rfl)
      · rw [if_neg hc] at p; exact p.elim
end
def wideOk (i j : Int) : Bool := decide ((Builtin.Int.intBits i : Int) + (Builtin.Int.intBits j : Int) ≤ 134217728)
def dMulX := iOpC wideOk fun i j => .int (i * j)
theorem s_mulX {K : PySem.W.Frag} : OpS K (rI CMulX fun i j => .int (i * j)) dMulX := ops_I (fun i j h => of_decide_eq_true h) fun _ _ _ _ => .int _
theorem wideOk_of {i j : Int} (h1 : -(10 ^ 200) ≤ i) (h2 : i ≤ 10 ^ 200) (h3 : -(10 ^ 200) ≤ j) (h4 : j ≤ 10 ^ 200) : wideOk i j = true := by
  have b : (10 : Nat) ^ 200 < 2 ^ 700 := by decide +kernel
  have e : ((10 : Int) ^ 200) = ((10 ^ 200 : Nat) : Int) := by norm_cast
  rw [e] at h1 h2 h3 h4
  generalize (10 : Nat) ^ 200 = B at *
  exact decide_eq_true (mulx_ok (a := 700) (b := 700) (by omega) (by omega) (by decide))
def dRep : D → D → Option D
  | .lst l, .int k => if 0 ≤ k ∧ k ≤ 1000 ∧ l.length * k.toNat ≤ LIM then some (.lst (List.replicate k.toNat l).flatten) else none
  | _, _ => none
theorem HasL.rep {K : PySem.W.Frag} {F : Hp} {l : List D} {vs : List V} (h : HasL K F l vs) : ∀ n : Nat, HasL K F (List.replicate n l).flatten (List.replicate n vs).flatten
  | 0 => .nil
  | n + 1 => by
    rw [List.replicate_succ, List.replicate_succ, List.flatten_cons, List.flatten_cons]
    exact h.append (HasL.rep h n)
theorem s_rep {K : PySem.W.Frag} : OpS K rRep dRep := by
  intro d1 d2 d3 x y P B F0 H F δ σ τ Q q e h1 h2 k
  unfold dRep at q
  split at q
  · rename_i l n
    split at q
    · rename_i hc
      cases q
      cases h2
      cases h1 with
      | lst hF hL =>
        refine ⟨_, n, _, rfl, rfl, e.sf _ _ hF, by omega, by omega, ?_, fun p hp => ?_⟩
        · rw [← hL.length]
          exact Nat.le_trans hc.2.2 (by decide +kernel)
        · exact k _ _ _ ((e.alloc (o := .lst _) hp).push (.lst upd_same ((HasL.rep hL _).mono (same_new (e.fresh hp)))))
    · cases q
  · cases q
end PL
set_option Elab.async false
set_option linter.all false
set_option maxRecDepth 100000
namespace PL
open PySem PySem.Spec PyProof.Rows L2 LamX
section
variable {α β : Type} {δ δ1 δ2 δ3 : En} {d d1 d2 d3 : D} {ds es : List D} {b : Bool}
def bnd (r : Rs α) (k : α → M β) : Rs β := match r with
  | .ok a δ => k a δ
  | .err x δ => .err x δ
  | .bad => .bad
theorem r_bind {m : M α} {k : α → M β} : M.bind m k δ = bnd (m δ) k := rfl
theorem bnd_ok {a : α} {k : α → M β} : bnd (.ok a δ) k = k a δ := rfl
theorem bnd_err {x : Exn} {k : α → M β} : bnd (.err x δ) k = .err x δ := rfl
theorem r_pure {a : α} : M.pure a δ = .ok a δ := rfl
theorem r_c : eC d δ = .ok d δ := rfl
def ifb (b : Bool) (g h : M α) : M α := fun δ => match b with
  | true => g δ
  | false => h δ
theorem ifb_t {g h : M α} : ifb true g h δ = g δ := rfl
theorem ifb_f {g h : M α} : ifb false g h δ = h δ := rfl
def ifk (r : Rs Bool) (g h : M α) : Rs α := match r with
  | .ok b δ => ifb b g h δ
  | .err x δ => .err x δ
  | .bad => .bad
theorem ifk_ok {g h : M α} : ifk (.ok b δ) g h = ifb b g h δ := rfl
theorem ifk_of {c : M Bool} {g h : M α} : M.bind c (fun b => if b = true then g else h) δ = ifk (c δ) g h := by
  unfold M.bind ifk
  cases c δ with
  | ok b δ' => cases b <;> rfl
  | err x δ' => rfl
  | bad => rfl
theorem r_eif {c : M Bool} {g h : M D} : eIf c g h δ = ifk (c δ) g h := ifk_of
theorem r_if {c : M Bool} {g h : S} : sIf c g h δ = ifk (c δ) g h := ifk_of
theorem r_or {g h : M Bool} : bOr g h δ = ifk (g δ) (M.pure true) h := ifk_of
theorem r_and {g h : M Bool} : bAnd g h δ = ifk (g δ) h (M.pure false) := ifk_of
def toB (r : Rs D) : Rs Bool := match r with
  | .ok (.bl b) δ => .ok b δ
  | .err x δ => .err x δ
  | _ => .bad
theorem toB_ok : toB (.ok (.bl b) δ) = .ok b δ := rfl
theorem r_asB {g : M D} : asB g δ = toB (g δ) := by
  unfold asB M.bind toB
  cases g δ with
  | ok d δ' => cases d <;> rfl
  | err x δ' => rfl
  | bad => rfl
def ntk (r : Rs Bool) : Rs Bool := match r with
  | .ok b δ => .ok (!b) δ
  | .err x δ => .err x δ
  | .bad => .bad
theorem ntk_ok : ntk (.ok b δ) = .ok (!b) δ := rfl
theorem r_not {g : M Bool} : bNot g δ = ntk (g δ) := by
  unfold bNot M.bind ntk
  cases g δ <;> rfl
def ntv (r : Rs D) : Rs D := match r with
  | .ok (.bl b) δ => .ok (.bl (!b)) δ
  | .err x δ => .err x δ
  | _ => .bad
theorem ntv_ok : ntv (.ok (.bl b) δ) = .ok (.bl (!b)) δ := rfl
theorem r_vnot {g : M D} : vNot g δ = ntv (g δ) := by
  unfold vNot M.bind ntv
  cases g δ with
  | ok d δ' => cases d <;> rfl
  | err x δ' => rfl
  | bad => rfl
def ifv (r : Rs D) (g h : M D) : Rs D := match r with
  | .ok (.bl b) δ => ifb b g h δ
  | .err x δ => .err x δ
  | _ => .bad
theorem ifv_ok {g h : M D} : ifv (.ok (.bl b) δ) g h = ifb b g h δ := rfl
theorem r_vand {g h : M D} : vAnd g h δ = ifv (g δ) h (M.pure (.bl false)) := by
  unfold vAnd M.bind ifv
  cases g δ with
  | ok d δ' => cases d with
    | bl b => cases b <;> rfl
    | _ => rfl
  | err x δ' => rfl
  | bad => rfl
theorem r_vor {g h : M D} : vOr g h δ = ifv (g δ) (M.pure (.bl true)) h := by
  unfold vOr M.bind ifv
  cases g δ with
  | ok d δ' => cases d with
    | bl b => cases b <;> rfl
    | _ => rfl
  | err x δ' => rfl
  | bad => rfl
def opk (o : Option D) (δ : En) : Rs D := match o with
  | some d => .ok d δ
  | none => .bad
theorem opk_ok : opk (some d) δ = .ok d δ := rfl
theorem r_opt {o : Option D} : opt o δ = opk o δ := rfl
theorem r_bin {f : D → D → Option D} {ga gb : M D} : eBin f ga gb δ = bnd (ga δ) fun a => M.bind gb fun b => opt (f a b) := rfl
def nowk (o : Option Sl) (k : D → Rs β) : Rs β := match o with
  | some (.im d) => k d
  | some (.ow o) => k o.d
  | some (.io o) => k o.d
  | _ => .bad
theorem nowk_im {k : D → Rs β} : nowk (some (.im d)) k = k d := rfl
theorem nowk_ow {k : D → Rs β} {o : MO} : nowk (some (.ow o)) k = k o.d := rfl
theorem nowk_io {k : D → Rs β} {o : MO} : nowk (some (.io o)) k = k o.d := rfl
theorem r_itemN {i : Nat} {gb : M D} : eItemN i gb δ = nowk δ[i]? fun _ => bnd (gb δ) fun b δ1 => nowk δ1[i]? fun a => opt (dIx a b) δ1 := by
  unfold eItemN nowD nowk bnd M.bind
  rcases δ[i]? with _ | (_ | _ | _ | _) <;> first | rfl | skip
  all_goals
    cases gb δ with
    | ok b δ1 =>
      dsimp only
      rcases δ1[i]? with _ | (_ | _ | _ | _) <;> rfl
    | err x δ1 => rfl
    | bad => rfl
theorem r_binN {f : D → D → Option D} {i : Nat} {gb : M D} : eBinN f i gb δ = nowk δ[i]? fun _ => bnd (gb δ) fun b δ1 => nowk δ1[i]? fun a => opt (f a b) δ1 := by
  unfold eBinN nowD nowk bnd M.bind
  rcases δ[i]? with _ | (_ | _ | _ | _) <;> first | rfl | skip
  all_goals
    cases gb δ with
    | ok b δ1 =>
      dsimp only
      rcases δ1[i]? with _ | (_ | _ | _ | _) <;> rfl
    | err x δ1 => rfl
    | bad => rfl
theorem r_acons {ga : M D} {gs : M (List D)} : aCons ga gs δ = bnd (ga δ) fun d => M.bind gs fun ds => M.pure (d :: ds) := rfl
theorem LIM_eq : LIM = 1000000 := rfl
theorem r_mkT : mkT ds δ = if ds.length ≤ LIM then .ok (.tup ds) δ else .bad := rfl
theorem r_mkL : mkL ds δ = if ds.length ≤ LIM then .ok (.lst ds) δ else .bad := rfl
def vark (o : Option Sl) (i : Nat) (δ : En) : Rs D := match o with
  | some (.im d) => .ok d δ
  | some (.ow l) => .ok l.d (δ.set i (.im l.d))
  | _ => .bad
theorem vark_im {i : Nat} : vark (some (.im d)) i δ = .ok d δ := rfl
theorem vark_ow {i : Nat} {l : MO} : vark (some (.ow l)) i δ = .ok l.d (δ.set i (.im l.d)) := rfl
theorem r_var {i : Nat} : eVar i δ = vark δ[i]? i δ := by
  unfold eVar vark
  rcases δ[i]? with _ | (_ | _ | _ | _) <;> rfl
theorem r_call0 {f : List D → Option D} {gs : M (List D)} : eCall f gs δ = bnd (gs δ) fun ds => opt (f ds) := rfl
def callk (r : RR) (δ : En) : Rs D := match r with
  | .ok d => .ok d δ
  | .err x => .err x δ
  | .bad => .bad
theorem callk_ok : callk (.ok d) δ = .ok d δ := rfl
theorem callk_err {x : Exn} : callk (.err x) δ = .err x δ := rfl
theorem r_callF {m : List D → RR} : callF m ds δ = callk (m ds) δ := by
  unfold callF
  cases m ds <;> rfl
theorem r_call1 {m : List D → RR} : callN 1 m [d] δ = callk (m [d]) δ := r_callF
theorem r_call2 {m : List D → RR} : callN 2 m [d, d1] δ = callk (m [d, d1]) δ := r_callF
theorem r_call3 {m : List D → RR} : callN 3 m [d, d1, d2] δ = callk (m [d, d1, d2]) δ := r_callF
theorem r_callK {ks : List Str} {ix : List Nat} {n : Nat} {m : List D → RR} {gk : M (List D)} : eCallK 0 ks ix n m (M.pure []) gk δ = bnd (gk δ) fun es δ1 => if es.length = ks.length then callN n m (pick ix es) δ1 else .bad := by
  unfold eCallK M.bind M.pure bnd
  dsimp only
  cases gk δ with
  | ok es δ1 =>
    simp only [List.length_nil, List.nil_append, true_and]
    split <;> rfl
  | err x δ1 => rfl
  | bad => rfl
theorem pick10 : pick [1, 0] [d, d1] = [d1, d] := rfl
theorem pick01 : pick [0, 1] [d, d1] = [d, d1] := rfl
theorem pick0 : pick [0] [d] = [d] := rfl
def ownk (o : Option Sl) (k : MO → Rs β) : Rs β := match o with
  | some (.ow o) => k o
  | some (.io o) => k o
  | _ => .bad
theorem ownk_ow {k : MO → Rs β} {o : MO} : ownk (some (.ow o)) k = k o := rfl
theorem ownk_io {k : MO → Rs β} {o : MO} : ownk (some (.io o)) k = k o := rfl
def rok (r : RO) (i : Nat) (δ : En) : Rs D := match r with
  | .ok d o => .ok d (putD δ i o)
  | .bad => .bad
theorem rok_ok {i : Nat} {o : MO} : rok (.ok d o) i δ = .ok d (putD δ i o) := rfl
theorem r_callO {i n : Nat} {m : MO → List D → RO} {gs : M (List D)} : eCallO i n m gs δ = ownk δ[i]? fun _ => bnd (gs δ) fun ds δ1 => if ds.length = n then ownk δ1[i]? fun o => rok (m o ds) i δ1 else .bad := by
  unfold eCallO ownD ownk bnd M.bind
  rcases δ[i]? with _ | (_ | _ | _ | _) <;> first | rfl | skip
  all_goals
    dsimp only
    cases gs δ with
    | ok ds δ1 =>
      dsimp only
      by_cases h : ds.length = n
      · rw [if_pos h, if_pos h]
        rcases δ1[i]? with _ | (_ | _ | o | o) <;> first | rfl | skip
        all_goals
          dsimp only
          unfold rok
          cases m o ds <;> rfl
      · rw [if_neg h, if_neg h]
    | err x δ1 => rfl
    | bad => rfl
def tabk (t : List (Str × D)) (d : D) : Option D := match d with
  | .str x => t.lookup x
  | _ => none
theorem tabk_s {t : List (Str × D)} {x : Str} : tabk t (.str x) = t.lookup x := rfl
theorem r_tab {t : List (Str × D)} {gb : M D} : eTab t gb δ = bnd (gb δ) fun d => opt (tabk t d) := rfl
def seqk (r : Rs Fl) (h : S) : Rs Fl := match r with
  | .ok .nx δ => h δ
  | r => r
theorem r_seq {g h : S} : sSeq g h δ = seqk (g δ) h := by
  unfold sSeq M.bind seqk
  cases g δ with
  | ok fl δ' => cases fl <;> rfl
  | err x δ' => rfl
  | bad => rfl
theorem seqk_nx {h : S} : seqk (.ok .nx δ) h = h δ := rfl
theorem seqk_ret {h : S} : seqk (.ok (.ret d) δ) h = .ok (.ret d) δ := rfl
theorem seqk_brk {h : S} : seqk (.ok .brk δ) h = .ok .brk δ := rfl
theorem seqk_cnt {h : S} : seqk (.ok .cnt δ) h = .ok .cnt δ := rfl
theorem seqk_err {h : S} {x : Exn} : seqk (.err x δ) h = .err x δ := rfl
theorem r_nx : sNx δ = .ok .nx δ := rfl
theorem r_ret {ga : M D} : sRet ga δ = bnd (ga δ) fun d => M.pure (.ret d) := rfl
theorem r_drop {ga : M D} : sDrop ga δ = bnd (ga δ) fun _ => M.pure .nx := rfl
def somek (o : Option En) : Rs Fl := match o with
  | some δ => .ok .nx δ
  | none => .bad
theorem somek_ok : somek (some δ) = .ok .nx δ := rfl
theorem r_asg {ga : M D} {h : Bd} : sAsg ga h δ = bnd (ga δ) fun d δ => somek (h d δ) := by
  unfold sAsg M.bind bnd somek
  cases ga δ with
  | ok d δ1 =>
    first
      | rfl
      | (dsimp only; cases h d δ1 <;> rfl)
      | (cases h d δ1 <;> rfl)
  | err x δ1 => rfl
  | bad => rfl
theorem r_name {i : Nat} : bName i d δ = if i < δ.length then some (δ.set i (.im d)) else none := rfl
theorem r_btup2 {hs : List D → En → Option En} : bTup 2 hs (.tup [d, d1]) δ = hs [d, d1] δ := rfl
theorem r_btup3 {hs : List D → En → Option En} : bTup 3 hs (.tup [d, d1, d2]) δ = hs [d, d1, d2] δ := rfl
def obk (o : Option En) (hs : List D → En → Option En) (ds : List D) : Option En := match o with
  | some δ => hs ds δ
  | none => none
theorem obk_ok {hs : List D → En → Option En} : obk (some δ) hs ds = hs ds δ := rfl
theorem r_bcons {h : Bd} {hs : List D → En → Option En} : bCons h hs (d :: ds) δ = obk (h d δ) hs ds := by
  unfold bCons obk
  first
    | rfl
    | (dsimp only; cases h d δ <;> rfl)
    | (cases h d δ <;> rfl)
theorem r_bnil : bNil [] δ = some δ := rfl
theorem r_for {gi : M (List D)} {bd : Bd} {body : S} : sFor gi bd body δ = bnd (gi δ) (loopS bd body) := rfl
def lp1 (o : Option En) (bd : Bd) (body : S) (ds : List D) : Rs Fl := match o with
  | some δ1 => match body δ1 with
    | .ok .nx δ2 => loopS bd body ds δ2
    | .ok .cnt δ2 => loopS bd body ds δ2
    | .ok .brk δ2 => .ok .nx δ2
    | .ok (.ret r) δ2 => .ok (.ret r) δ2
    | .err x δ2 => .err x δ2
    | .bad => .bad
  | none => .bad
def lp2 (r : Rs Fl) (bd : Bd) (body : S) (ds : List D) : Rs Fl := match r with
  | .ok .nx δ2 => loopS bd body ds δ2
  | .ok .cnt δ2 => loopS bd body ds δ2
  | .ok .brk δ2 => .ok .nx δ2
  | .ok (.ret r) δ2 => .ok (.ret r) δ2
  | .err x δ2 => .err x δ2
  | .bad => .bad
theorem r_loop0 {bd : Bd} {body : S} : loopS bd body [] δ = .ok .nx δ := by rw [loopS]
theorem r_loop {bd : Bd} {body : S} : loopS bd body (d :: ds) δ = lp1 (bd d δ) bd body ds := by
  rw [loopS]
  unfold lp1
  cases bd d δ <;> rfl
theorem lp1_ok {bd : Bd} {body : S} : lp1 (some δ) bd body ds = lp2 (body δ) bd body ds := rfl
theorem lp2_nx {bd : Bd} {body : S} : lp2 (.ok .nx δ) bd body ds = loopS bd body ds δ := rfl
theorem lp2_cnt {bd : Bd} {body : S} : lp2 (.ok .cnt δ) bd body ds = loopS bd body ds δ := rfl
theorem lp2_brk {bd : Bd} {body : S} : lp2 (.ok .brk δ) bd body ds = .ok .nx δ := rfl
theorem lp2_ret {bd : Bd} {body : S} : lp2 (.ok (.ret d) δ) bd body ds = .ok (.ret d) δ := rfl
theorem r_own {i : Nat} {gs : M (List D)} : sOwn i gs δ = bnd (gs δ) fun ds δ => if ds.length ≤ LIM ∧ i < δ.length then .ok .nx (δ.set i (.ow (.lst ds))) else .bad := rfl
def mutk (o : Option MO) (i : Nat) (δ : En) : Rs Fl := match o with
  | some o => .ok .nx (putD δ i o)
  | none => .bad
theorem mutk_ok {o : MO} {i : Nat} : mutk (some o) i δ = .ok .nx (putD δ i o) := rfl
theorem r_mut {i : Nat} {f : MO → List D → Option MO} {ok0 : MO → Bool} {gs : M (List D)} : sMut i f ok0 gs δ = ownk δ[i]? fun o => if ok0 o = true then bnd (gs δ) (fun ds δ1 => ownk δ1[i]? fun o1 => mutk (f o1 ds) i δ1) else .bad := by
  unfold sMut ownD ownk bnd M.bind
  rcases δ[i]? with _ | (_ | _ | o | o) <;> first | rfl | skip
  all_goals
    dsimp only
    cases hk : ok0 o with
    | false => rfl
    | true =>
      rw [if_pos rfl, if_pos rfl]
      cases gs δ with
      | ok ds δ1 =>
        dsimp only
        rcases δ1[i]? with _ | (_ | _ | o1 | o1) <;> first | rfl | skip
        all_goals
          dsimp only
          unfold mutk
          cases f o1 ds <;> rfl
      | err x δ1 => rfl
      | bad => rfl
def setk (o : Option (List D)) (i : Nat) (δ : En) : Rs Fl := match o with
  | some l => .ok .nx (putD δ i (.lst l))
  | none => .bad
theorem setk_ok {l : List D} {i : Nat} : setk (some l) i δ = .ok .nx (putD δ i (.lst l)) := rfl
def lk (o : MO) (k : List D → Rs β) : Rs β := match o with
  | .lst l => k l
  | _ => .bad
theorem lk_ok {l : List D} {k : List D → Rs β} : lk (.lst l) k = k l := rfl
theorem r_setI {i : Nat} {ga gb : M D} : sSetI i ga gb δ = bnd (ga δ) fun d δ => ownk δ[i]? fun _ => bnd (gb δ) fun j δ1 => ownk δ1[i]? fun o => lk o fun l => setk (fSetI l j d) i δ1 := by
  unfold sSetI M.bind bnd
  cases ga δ with
  | ok d δ1 =>
    dsimp only
    unfold ownD ownk
    rcases δ1[i]? with _ | (_ | _ | _ | _) <;> first | rfl | skip
    all_goals
      dsimp only
      cases gb δ1 with
      | ok j δ2 =>
        dsimp only
        rcases δ2[i]? with _ | (_ | _ | o | o) <;> first | rfl | skip
        all_goals
          dsimp only
          unfold lk
          cases o with
          | lst l =>
            dsimp only
            unfold setk
            cases fSetI l j d <;> rfl
          | _ => rfl
      | err x δ1 => rfl
      | bad => rfl
  | err x δ1 => rfl
  | bad => rfl
def olk (o : Option (List D)) (δ : En) : Rs (List D) := match o with
  | some l => .ok l δ
  | none => .bad
theorem olk_ok : olk (some ds) δ = .ok ds δ := rfl
theorem r_rng1 {gs : M (List D)} : iRange1 gs δ = bnd (gs δ) fun ds δ => olk (rng1 ds) δ := by
  unfold iRange1 M.bind bnd olk
  cases gs δ <;> rfl
def runk (r : Rs Fl) : RR := match r with
  | .ok .nx _ => .ok .non
  | .ok (.ret d) _ => .ok d
  | .err x _ => .err x
  | _ => .bad
theorem runk_ret : runk (.ok (.ret d) δ) = .ok d := rfl
theorem runk_nx : runk (.ok .nx δ) = .ok .non := rfl
theorem runk_err {x : Exn} : runk (.err x δ) = .err x := rfl
theorem r_run {n N : Nat} {g : S} : runF n N g ds = runk (g (ds.map Sl.im ++ List.replicate (N - n) Sl.no)) := by
  unfold runF
  rcases g (ds.map Sl.im ++ List.replicate (N - n) Sl.no) with ⟨fl, δ'⟩ | _ | _
  · cases fl <;> rfl
  · rfl
  · rfl
def runok (r : Rs Fl) : RO := match r with
  | .ok .nx δ => match io0 δ with
    | some o => .ok .non o
    | none => .bad
  | .ok (.ret d) δ => match io0 δ with
    | some o => .ok d o
    | none => .bad
  | _ => .bad
theorem runok_ret {o : MO} : runok (.ok (.ret d) (.io o :: δ)) = .ok d o := rfl
theorem r_runO {n N : Nat} {g : S} {o : MO} : runO n N g o ds = runok (g (Sl.io o :: ds.map Sl.im ++ List.replicate (N - (n + 1)) Sl.no)) := by
  unfold runO
  rcases g (Sl.io o :: ds.map Sl.im ++ List.replicate (N - (n + 1)) Sl.no) with ⟨fl, δ'⟩ | _ | _
  · cases fl <;> rfl
  · rfl
  · rfl
theorem eqI (a b : Int) : dEq (.int a) (.int b) = some (.bl (a == b)) := rfl
theorem neI (a b : Int) : dNe (.int a) (.int b) = some (.bl (!(a == b))) := rfl
theorem neB (a b : Bool) : dNe (.bl a) (.bl b) = some (.bl (!(a == b))) := rfl
theorem eqB (a b : Bool) : dEq (.bl a) (.bl b) = some (.bl (a == b)) := rfl
theorem catI (a b : Int) : dCat (.int a) (.int b) = some (.int (a + b)) := rfl
theorem subI (a b : Int) : dSub (.int a) (.int b) = some (.int (a - b)) := rfl
theorem gtI (a b : Int) : dGt (.int a) (.int b) = some (.bl (decide (b < a))) := rfl
theorem ltI (a b : Int) : dLt (.int a) (.int b) = some (.bl (decide (a < b))) := rfl
theorem leI (a b : Int) : dLe (.int a) (.int b) = some (.bl (decide (a ≤ b))) := rfl
theorem geI (a b : Int) : dGe (.int a) (.int b) = some (.bl (decide (b ≤ a))) := rfl
theorem modI (a b : Int) (h : 0 < b) : dMod (.int a) (.int b) = some (.int (a % b)) := if_pos (decide_eq_true h)
theorem fdvI {a b : Int} (h : (decide (0 < b) && decide (b.natAbs.log2 < 9000)) = true) : dFdivW (.int a) (.int b) = some (.int (a / b)) := if_pos h
def ngk (d : D) : Option D := match d with
  | .int i => some (.int (-i))
  | _ => none
theorem ngk_ok {i : Int} : ngk (.int i) = some (.int (-i)) := rfl
theorem r_neg {ga : M D} : dNeg ga δ = bnd (ga δ) fun d => opt (ngk d) := by
  unfold dNeg M.bind bnd
  cases ga δ with
  | ok d δ' => cases d <;> rfl
  | err x δ' => rfl
  | bad => rfl
theorem intI (a : Int) : fInt [.int a] = some (.int a) := rfl
theorem ixt20 (a b : D) : dIx (.tup [a, b]) (.int 0) = some a := rfl
theorem ixt21 (a b : D) : dIx (.tup [a, b]) (.int 1) = some b := rfl
theorem ixt30 (a b c : D) : dIx (.tup [a, b, c]) (.int 0) = some a := rfl
theorem ixt31 (a b c : D) : dIx (.tup [a, b, c]) (.int 1) = some b := rfl
theorem ixt32 (a b c : D) : dIx (.tup [a, b, c]) (.int 2) = some c := rfl
theorem rng_6 : rng1 [.int 6] = some [.int 0, .int 1, .int 2, .int 3, .int 4, .int 5] := rfl
theorem rng_9 : rng1 [.int 9] = some [.int 0, .int 1, .int 2, .int 3, .int 4, .int 5, .int 6, .int 7, .int 8] := rfl
theorem b_eqT {a b : Int} (h : a = b) : (a == b) = true := by subst h; simp
theorem b_eqF {a b : Int} (h : a ≠ b) : (a == b) = false := by simpa using h
theorem b_ltT {a b : Int} (h : a < b) : decide (a < b) = true := decide_eq_true h
theorem b_ltF {a b : Int} (h : b ≤ a) : decide (a < b) = false := decide_eq_false (by omega)
theorem b_leT {a b : Int} (h : a ≤ b) : decide (a ≤ b) = true := decide_eq_true h
theorem b_leF {a b : Int} (h : b < a) : decide (a ≤ b) = false := decide_eq_false (by omega)
theorem c_bind {m : M α} {k : α → M β} {s : Sl} : M.bind m k (s :: δ) = bnd (m (s :: δ)) k := r_bind
theorem c_eif {c : M Bool} {g h : M D} {s : Sl} : eIf c g h (s :: δ) = ifk (c (s :: δ)) g h := r_eif
theorem c_if {c : M Bool} {g h : S} {s : Sl} : sIf c g h (s :: δ) = ifk (c (s :: δ)) g h := r_if
theorem c_or {g h : M Bool} {s : Sl} : bOr g h (s :: δ) = ifk (g (s :: δ)) (M.pure true) h := r_or
theorem c_and {g h : M Bool} {s : Sl} : bAnd g h (s :: δ) = ifk (g (s :: δ)) h (M.pure false) := r_and
theorem c_asB {g : M D} {s : Sl} : asB g (s :: δ) = toB (g (s :: δ)) := r_asB
theorem c_not {g : M Bool} {s : Sl} : bNot g (s :: δ) = ntk (g (s :: δ)) := r_not
theorem c_vnot {g : M D} {s : Sl} : vNot g (s :: δ) = ntv (g (s :: δ)) := r_vnot
theorem c_vand {g h : M D} {s : Sl} : vAnd g h (s :: δ) = ifv (g (s :: δ)) h (M.pure (.bl false)) := r_vand
theorem c_vor {g h : M D} {s : Sl} : vOr g h (s :: δ) = ifv (g (s :: δ)) (M.pure (.bl true)) h := r_vor
theorem c_bin {f : D → D → Option D} {ga gb : M D} {s : Sl} : eBin f ga gb (s :: δ) = bnd (ga (s :: δ)) fun a => M.bind gb fun b => opt (f a b) := r_bin
theorem c_itemN {i : Nat} {gb : M D} {s : Sl} : eItemN i gb (s :: δ) = nowk (s :: δ)[i]? fun _ => bnd (gb (s :: δ)) fun b δ1 => nowk δ1[i]? fun a => opt (dIx a b) δ1 := r_itemN
theorem c_binN {f : D → D → Option D} {i : Nat} {gb : M D} {s : Sl} : eBinN f i gb (s :: δ) = nowk (s :: δ)[i]? fun _ => bnd (gb (s :: δ)) fun b δ1 => nowk δ1[i]? fun a => opt (f a b) δ1 := r_binN
theorem c_acons {ga : M D} {gs : M (List D)} {s : Sl} : aCons ga gs (s :: δ) = bnd (ga (s :: δ)) fun d => M.bind gs fun ds => M.pure (d :: ds) := r_acons
theorem c_var {i : Nat} {s : Sl} : eVar i (s :: δ) = vark (s :: δ)[i]? i (s :: δ) := r_var
theorem c_call0 {f : List D → Option D} {gs : M (List D)} {s : Sl} : eCall f gs (s :: δ) = bnd (gs (s :: δ)) fun ds => opt (f ds) := r_call0
theorem c_callK {ks : List Str} {ix : List Nat} {n : Nat} {m : List D → RR} {gk : M (List D)} {s : Sl} : eCallK 0 ks ix n m (M.pure []) gk (s :: δ) = bnd (gk (s :: δ)) fun es δ1 => if es.length = ks.length then callN n m (pick ix es) δ1 else .bad := r_callK
theorem c_callO {i n : Nat} {m : MO → List D → RO} {gs : M (List D)} {s : Sl} : eCallO i n m gs (s :: δ) = ownk (s :: δ)[i]? fun _ => bnd (gs (s :: δ)) fun ds δ1 => if ds.length = n then ownk δ1[i]? fun o => rok (m o ds) i δ1 else .bad := r_callO
theorem c_tab {t : List (Str × D)} {gb : M D} {s : Sl} : eTab t gb (s :: δ) = bnd (gb (s :: δ)) fun d => opt (tabk t d) := r_tab
theorem c_seq {g h : S} {s : Sl} : sSeq g h (s :: δ) = seqk (g (s :: δ)) h := r_seq
theorem c_ret {ga : M D} {s : Sl} : sRet ga (s :: δ) = bnd (ga (s :: δ)) fun d => M.pure (.ret d) := r_ret
theorem c_drop {ga : M D} {s : Sl} : sDrop ga (s :: δ) = bnd (ga (s :: δ)) fun _ => M.pure .nx := r_drop
theorem c_asg {ga : M D} {h : Bd} {s : Sl} : sAsg ga h (s :: δ) = bnd (ga (s :: δ)) fun d ε => somek (h d ε) := r_asg
theorem c_for {gi : M (List D)} {bd : Bd} {body : S} {s : Sl} : sFor gi bd body (s :: δ) = bnd (gi (s :: δ)) (loopS bd body) := r_for
theorem c_own {i : Nat} {gs : M (List D)} {s : Sl} : sOwn i gs (s :: δ) = bnd (gs (s :: δ)) fun ds ε => if ds.length ≤ LIM ∧ i < ε.length then .ok .nx (ε.set i (.ow (.lst ds))) else .bad := r_own
theorem c_mut {i : Nat} {f : MO → List D → Option MO} {ok0 : MO → Bool} {gs : M (List D)} {s : Sl} : sMut i f ok0 gs (s :: δ) = ownk (s :: δ)[i]? fun o => if ok0 o = true then bnd (gs (s :: δ)) (fun ds δ1 => ownk δ1[i]? fun o1 => mutk (f o1 ds) i δ1) else .bad := r_mut
theorem c_setI {i : Nat} {ga gb : M D} {s : Sl} : sSetI i ga gb (s :: δ) = bnd (ga (s :: δ)) fun d ε => ownk ε[i]? fun _ => bnd (gb ε) fun j δ1 => ownk δ1[i]? fun o => lk o fun l => setk (fSetI l j d) i δ1 := r_setI
theorem c_rng1 {gs : M (List D)} {s : Sl} : iRange1 gs (s :: δ) = bnd (gs (s :: δ)) fun ds ε => olk (rng1 ds) ε := r_rng1
theorem c_neg {ga : M D} {s : Sl} : dNeg ga (s :: δ) = bnd (ga (s :: δ)) fun d => opt (ngk d) := r_neg
end
end PL
set_option Elab.async false
set_option linter.all false
set_option maxRecDepth 100000
namespace PL
open PySem PySem.Spec PyProof.Rows L2 LamX
section
variable {α β : Type} {δ δ1 δ2 δ3 : En} {d d1 d2 d3 : D} {ds es acc : List D} {b : Bool}
def lc1 (o : Option En) (bd : Bd) (gt : M Bool) (ge : M D) (vl : List Nat) (ds acc : List D) : Rs (List D) := match o with
  | none => .bad
  | some δ1 => match gt δ1 with
    | .ok false δ2 => loopC bd gt ge vl ds acc (wipeD δ2 vl)
    | .ok true δ2 => match ge δ2 with
      | .ok r δ3 => if acc.length < LIM then loopC bd gt ge vl ds (acc ++ [r]) (wipeD δ3 vl) else .bad
      | _ => .bad
    | _ => .bad
def lc2 (r : Rs Bool) (bd : Bd) (gt : M Bool) (ge : M D) (vl : List Nat) (ds acc : List D) : Rs (List D) := match r with
  | .ok false δ2 => loopC bd gt ge vl ds acc (wipeD δ2 vl)
  | .ok true δ2 => match ge δ2 with
    | .ok r δ3 => if acc.length < LIM then loopC bd gt ge vl ds (acc ++ [r]) (wipeD δ3 vl) else .bad
    | _ => .bad
  | _ => .bad
def lc3 (r : Rs D) (bd : Bd) (gt : M Bool) (ge : M D) (vl : List Nat) (ds acc : List D) : Rs (List D) := match r with
  | .ok r δ3 => if acc.length < LIM then loopC bd gt ge vl ds (acc ++ [r]) (wipeD δ3 vl) else .bad
  | _ => .bad
theorem r_lc0 {bd : Bd} {gt : M Bool} {ge : M D} {vl : List Nat} : loopC bd gt ge vl [] acc δ = .ok acc δ := by rw [loopC]
theorem r_lc {bd : Bd} {gt : M Bool} {ge : M D} {vl : List Nat} : loopC bd gt ge vl (d :: ds) acc δ = lc1 (bd d δ) bd gt ge vl ds acc := by
  rw [loopC]
  unfold lc1
  cases bd d δ <;> rfl
theorem lc1_ok {bd : Bd} {gt : M Bool} {ge : M D} {vl : List Nat} : lc1 (some δ) bd gt ge vl ds acc = lc2 (gt δ) bd gt ge vl ds acc := rfl
theorem lc2_f {bd : Bd} {gt : M Bool} {ge : M D} {vl : List Nat} : lc2 (.ok false δ) bd gt ge vl ds acc = loopC bd gt ge vl ds acc (wipeD δ vl) := rfl
theorem lc2_t {bd : Bd} {gt : M Bool} {ge : M D} {vl : List Nat} : lc2 (.ok true δ) bd gt ge vl ds acc = lc3 (ge δ) bd gt ge vl ds acc := rfl
theorem lc3_ok {bd : Bd} {gt : M Bool} {ge : M D} {vl : List Nat} : lc3 (.ok d δ) bd gt ge vl ds acc = if acc.length < LIM then loopC bd gt ge vl ds (acc ++ [d]) (wipeD δ vl) else .bad := rfl
theorem r_comp {gi : M (List D)} {bd : Bd} {gt : M Bool} {ge : M D} {vl : List Nat} : eComp gi bd gt ge vl δ = bnd (bnd (gi δ) fun ds δ => loopC bd gt ge vl ds [] (wipeD δ vl)) fun l => M.pure (.lst l) := rfl
theorem r_scomp {i : Nat} {gi : M (List D)} {bd : Bd} {gt : M Bool} {ge : M D} {vl : List Nat} : sComp i gi bd gt ge vl δ = bnd (bnd (gi δ) fun ds δ => loopC bd gt ge vl ds [] (wipeD δ vl)) fun l δ => if i < δ.length then .ok .nx (δ.set i (.ow (.lst l))) else .bad := rfl
theorem wipe0 : wipeD δ [] = δ := rfl
theorem wipe1 {v : Nat} {vs : List Nat} : wipeD δ (v :: vs) = (wipeD δ vs).set v .no := rfl
/-- a comprehension whose parts change nothing -/
theorem loopC_all {bd : Bd} {gt : M Bool} {ge : M D} {vl : List Nat} {t : D → Bool} {f : D → D} : ∀ {ds acc : List D},
    (∀ d ∈ ds, ∃ δ1 δ2, bd d δ = some δ1 ∧ gt δ1 = .ok (t d) δ2 ∧ wipeD δ2 vl = δ ∧ (t d = true → ∃ δ3, ge δ2 = .ok (f d) δ3 ∧ wipeD δ3 vl = δ)) → acc.length + ds.length ≤ LIM →
    loopC bd gt ge vl ds acc δ = .ok (acc ++ (ds.filter t).map f) δ
  | [], acc, _, _ => by rw [loopC]; simp
  | d :: ds, acc, h, hl => by
    obtain ⟨δ1, δ2, h1, h2, h3, h4⟩ := h d List.mem_cons_self
    rw [List.length_cons] at hl
    have ih := fun acc' hl' => loopC_all (bd := bd) (gt := gt) (ge := ge) (t := t) (f := f) (ds := ds) (acc := acc') (fun x hx => h x (List.mem_cons_of_mem _ hx)) hl'
    rw [loopC, h1]
    dsimp only
    rw [h2]
    cases ht : t d with
    | false =>
      dsimp only
      rw [h3, ih acc (by omega), List.filter_cons_of_neg (by rw [ht]; exact Bool.false_ne_true)]
    | true =>
      dsimp only
      obtain ⟨δ3, h5, h6⟩ := h4 ht
      rw [h5]
      dsimp only
      rw [if_pos (show acc.length < LIM by omega), h6, ih _ (by rw [List.length_append]; simp; omega), List.filter_cons_of_pos ht, List.map_cons, List.append_assoc]
      rfl
theorem put_0i {o o' : MO} : putD (.io o' :: δ) 0 o = .io o :: δ := rfl
theorem put_0o {o o' : MO} : putD (.ow o' :: δ) 0 o = .ow o :: δ := rfl
theorem put_s {s : Sl} {i : Nat} {o : MO} : putD (s :: δ) (i + 1) o = s :: putD δ i o := by
  unfold putD
  rw [List.getElem?_cons_succ]
  rcases δ[i]? with _ | (_ | _ | _ | _) <;> rfl
theorem MOd {l : List D} : (MO.lst l).d = .lst l := rfl
def itk (d : D) (δ : En) : Rs (List D) := match d with
  | .lst l => .ok l δ
  | .tup l => .ok l δ
  | _ => .bad
theorem itk_l : itk (.lst ds) δ = .ok ds δ := rfl
theorem itk_t : itk (.tup ds) δ = .ok ds δ := rfl
theorem r_items {ga : M D} : items ga δ = bnd (ga δ) itk := by
  unfold items M.bind bnd
  cases ga δ with
  | ok d δ' => cases d <;> rfl
  | err x δ' => rfl
  | bad => rfl
theorem r_app {l : List D} : fApp (.lst l) [d] = if l.length < LIM then some (.lst (l ++ [d])) else none := rfl
theorem r_isL {l : List D} : isL (.lst l) = true := rfl
def kyk (d : D) (bt : List Int → Nat → Nat → Bool) (js : List Nat) (gb : M D) (δ : En) : Rs D := match d with
  | .lst items => match capD δ js with
    | some cap => match keysOf gb cap items with
      | some ks => match items[argBest (bt ks) (items.length - 1)]? with
        | some r => .ok r δ
        | none => .bad
      | none => .bad
    | none => .bad
  | _ => .bad
def kyj (c : Option (List D)) (items : List D) (bt : List Int → Nat → Nat → Bool) (gb : M D) (δ : En) : Rs D := match c with
  | some cap => match keysOf gb cap items with
    | some ks => match items[argBest (bt ks) (items.length - 1)]? with
      | some r => .ok r δ
      | none => .bad
    | none => .bad
  | none => .bad
def kyi (k : Option (List Int)) (items : List D) (bt : List Int → Nat → Nat → Bool) (δ : En) : Rs D := match k with
  | some ks => opk items[argBest (bt ks) (items.length - 1)]? δ
  | none => .bad
theorem r_key {bt : List Int → Nat → Nat → Bool} {js : List Nat} {ga gb : M D} : eKey bt js ga gb δ = bnd (ga δ) fun d => kyk d bt js gb := rfl
theorem kyk_l {bt : List Int → Nat → Nat → Bool} {js : List Nat} {gb : M D} : kyk (.lst ds) bt js gb δ = kyj (capD δ js) ds bt gb δ := by
  unfold kyk kyj
  rfl
theorem kyj_ok {bt : List Int → Nat → Nat → Bool} {gb : M D} : kyj (some es) ds bt gb δ = kyi (keysOf gb es ds) ds bt δ := by
  unfold kyj kyi
  dsimp only
  cases keysOf gb es ds with
  | none => rfl
  | some ks =>
    dsimp only
    unfold opk
    cases ds[argBest (bt ks) (ds.length - 1)]? <;> rfl
theorem kyi_ok {bt : List Int → Nat → Nat → Bool} {ks : List Int} : kyi (some ks) ds bt δ = opk ds[argBest (bt ks) (ds.length - 1)]? δ := rfl
def kok (r : Rs D) (o : Option (List Int)) : Option (List Int) := match r, o with
  | .ok (.int k) _, some ks => some (k :: ks)
  | _, _ => none
theorem r_keys0 {gb : M D} {cap : List D} : keysOf gb cap [] = some [] := by rw [keysOf]
theorem r_keys {gb : M D} {cap : List D} : keysOf gb cap (d :: ds) = kok (gb ((d :: cap).map Sl.im)) (keysOf gb cap ds) := by
  rw [keysOf]
  unfold kok
  rcases gb ((d :: cap).map Sl.im) with ⟨v, δ'⟩ | _ | _
  · cases v <;> cases keysOf gb cap ds <;> rfl
  · rfl
  · rfl
theorem kok_ok {k : Int} {ks : List Int} : kok (.ok (.int k) δ) (some ks) = some (k :: ks) := rfl
def cpk (o : Option Sl) (r : Option (List D)) : Option (List D) := match o, r with
  | some (.im d), some ds => some (d :: ds)
  | _, _ => none
theorem r_cap0 : capD δ [] = some [] := rfl
theorem r_cap {j : Nat} {js : List Nat} : capD δ (j :: js) = cpk δ[j]? (capD δ js) := by
  rw [capD]
  unfold cpk
  rcases δ[j]? with _ | (_ | _ | _ | _) <;> first | rfl | (cases capD δ js <;> rfl)
theorem cpk_ok : cpk (some (.im d)) (some ds) = some (d :: ds) := rfl
theorem arg0 {bt : Nat → Nat → Bool} : argBest bt 0 = 0 := rfl
theorem arg1 {bt : Nat → Nat → Bool} : argBest bt 1 = if bt 1 0 = true then 1 else 0 := rfl
theorem arg2 {bt : Nat → Nat → Bool} : argBest bt 2 = if bt 2 (argBest bt 1) = true then 2 else argBest bt 1 := rfl
theorem ltK_eq {ks : List Int} {i j : Nat} : ltK ks i j = decide (kAt ks i < kAt ks j) := rfl
theorem gtK_eq {ks : List Int} {i j : Nat} : gtK ks i j = decide (kAt ks j < kAt ks i) := rfl
theorem kAt0 {a : Int} {ks : List Int} : kAt (a :: ks) 0 = a := rfl
theorem kAt1 {a b : Int} {ks : List Int} : kAt (a :: b :: ks) 1 = b := rfl
theorem kAt2 {a b c : Int} {ks : List Int} : kAt (a :: b :: c :: ks) 2 = c := rfl
def lmk (c : Option (List D)) (m : RR → RR) (gb : M D) (δ : En) : Rs D := match c with
  | some ds => match m (thunk gb ds) with
    | .ok d => if d.py.isSome then .ok d δ else .bad
    | _ => .bad
  | none => .bad
def lmj (r : RR) (δ : En) : Rs D := match r with
  | .ok d => if d.py.isSome then .ok d δ else .bad
  | _ => .bad
theorem r_lam {js : List Nat} {m : RR → RR} {gb : M D} : eLam js m gb δ = lmk (capD δ js) m gb δ := by
  unfold eLam lmk
  cases capD δ js <;> rfl
theorem lmk_ok {m : RR → RR} {gb : M D} : lmk (some ds) m gb δ = lmj (m (thunk gb ds)) δ := by
  unfold lmk lmj
  rfl
theorem lmj_ok : lmj (.ok d) δ = if d.py.isSome then .ok d δ else .bad := rfl
def thk (r : Rs D) : RR := match r with
  | .ok d _ => .ok d
  | .err x _ => .err x
  | .bad => .bad
theorem r_thunk {g : M D} : thunk g ds = thk (g (ds.map Sl.im)) := by
  unfold thunk thk
  cases g (ds.map Sl.im) <;> rfl
theorem thk_ok : thk (.ok d δ) = .ok d := rfl
theorem thk_err {x : Exn} : thk (.err x δ) = .err x := rfl
def chk (o : Option D) (g : M D) (δ : En) : Rs D := match o with
  | some (.bl true) => g δ
  | some (.bl false) => .ok (.bl false) δ
  | _ => .bad
theorem chk_t {g : M D} : chk (some (.bl true)) g δ = g δ := rfl
theorem chk_f {g : M D} : chk (some (.bl false)) g δ = .ok (.bl false) δ := rfl
theorem r_chain {f f' : D → D → Option D} {ga gb gc : M D} : eChain f f' ga gb gc δ = bnd (ga δ) fun a δ1 => bnd (gb δ1) fun b δ2 => chk (f a b) (M.bind gc fun c => opt (f' b c)) δ2 := by
  unfold eChain M.bind bnd chk
  cases ga δ with
  | ok a δ1 =>
    dsimp only
    cases gb δ1 with
    | ok b δ2 =>
      dsimp only
      unfold opt
      cases f a b with
      | none => rfl
      | some z => cases z with
        | bl b => cases b <;> rfl
        | _ => rfl
    | err x δ2 => rfl
    | bad => rfl
  | err x δ1 => rfl
  | bad => rfl
def err1 (nm f : Str) (ds : List D) (δ : En) : Rs Fl := match ds with
  | [d] => .err ⟨nm, [(f, d)]⟩ δ
  | _ => .bad
theorem r_raise1 {nm f : Str} {gs : M (List D)} : sRaise1 nm f gs δ = bnd (gs δ) fun ds δ => err1 nm f ds δ := rfl
theorem err1_ok {nm f : Str} : err1 nm f [d] δ = .err ⟨nm, [(f, d)]⟩ δ := rfl
theorem c_comp {gi : M (List D)} {bd : Bd} {gt : M Bool} {ge : M D} {vl : List Nat} {s : Sl} : eComp gi bd gt ge vl (s :: δ) = bnd (bnd (gi (s :: δ)) fun ds ε => loopC bd gt ge vl ds [] (wipeD ε vl)) fun l => M.pure (.lst l) := r_comp
theorem c_scomp {i : Nat} {gi : M (List D)} {bd : Bd} {gt : M Bool} {ge : M D} {vl : List Nat} {s : Sl} : sComp i gi bd gt ge vl (s :: δ) = bnd (bnd (gi (s :: δ)) fun ds ε => loopC bd gt ge vl ds [] (wipeD ε vl)) fun l ε => if i < ε.length then .ok .nx (ε.set i (.ow (.lst l))) else .bad := r_scomp
theorem c_items {ga : M D} {s : Sl} : items ga (s :: δ) = bnd (ga (s :: δ)) itk := r_items
theorem c_key {bt : List Int → Nat → Nat → Bool} {js : List Nat} {ga gb : M D} {s : Sl} : eKey bt js ga gb (s :: δ) = bnd (ga (s :: δ)) fun d => kyk d bt js gb := r_key
theorem c_lam {js : List Nat} {m : RR → RR} {gb : M D} {s : Sl} : eLam js m gb (s :: δ) = lmk (capD (s :: δ) js) m gb (s :: δ) := r_lam
theorem c_chain {f f' : D → D → Option D} {ga gb gc : M D} {s : Sl} : eChain f f' ga gb gc (s :: δ) = bnd (ga (s :: δ)) fun a δ1 => bnd (gb δ1) fun b δ2 => chk (f a b) (M.bind gc fun c => opt (f' b c)) δ2 := r_chain
theorem c_raise1 {nm f : Str} {gs : M (List D)} {s : Sl} : sRaise1 nm f gs (s :: δ) = bnd (gs (s :: δ)) fun ds ε => err1 nm f ds ε := r_raise1
end
theorem le_total : PySem.W.TotalLe (PySem.W.dataLe false pyD) := PySem.W.sortLe_total _ _ _
end PL
set_option Elab.async false
set_option linter.all false
set_option maxRecDepth 100000
namespace PL
open PySem PySem.Spec PyProof.Rows L2 LamX
variable [Tbls]
section
variable {α β : Type} {δ δ1 δ2 δ3 : En} {d d1 d2 d3 : D} {ds es acc : List D} {b : Bool}
def prk (nm : Str) (g : List D → RR) (d : D) (δ : En) : Rs D := if isObj nm d = true then opk (okD (g [d])) δ else .bad
theorem r_prop {nm : Str} {g : List D → RR} {ga : M D} : eProp nm g ga δ = bnd (ga δ) (prk nm g) := by
  unfold eProp M.bind bnd prk
  cases ga δ with
  | ok d δ' => dsimp only; split <;> rfl
  | err x δ' => rfl
  | bad => rfl
theorem okD_ok : okD (.ok d) = some d := rfl
theorem isO {n : Str} {l : List (Str × D)} : isObj n (.obj n l) = true := decide_eq_true rfl
def mtk (nm m : Str) (n : Nat) (g : List D → RR) (gs : M (List D)) (d : D) (δ : En) : Rs D := if methD nm m d = true then bnd (gs δ) (fun ds ε => callN n g (d :: ds) ε) else .bad
theorem r_meth {nm m : Str} {n : Nat} {g : List D → RR} {ga : M D} {gs : M (List D)} : eMeth nm m n g ga gs δ = bnd (ga δ) (mtk nm m n g gs) := by
  unfold eMeth M.bind bnd mtk
  cases ga δ with
  | ok d δ' => dsimp only; split <;> rfl
  | err x δ' => rfl
  | bad => rfl
def mtkK (nm m : Str) (nk : Nat) (ix : List Nat) (n : Nat) (g : List D → RR) (gk : M (List D)) (d : D) (δ : En) : Rs D := if methD nm m d = true then bnd (gk δ) (fun es ε => if es.length = nk then callN n g (d :: pick ix es) ε else .bad) else .bad
theorem r_methK {nm m : Str} {ks : List Str} {ix : List Nat} {n : Nat} {g : List D → RR} {ga : M D} {gk : M (List D)} : eMethK nm m ks ix n g ga gk δ = bnd (ga δ) (mtkK nm m ks.length ix n g gk) := by
  unfold eMethK M.bind bnd mtkK
  cases ga δ with
  | ok d δ' =>
    dsimp only
    by_cases h : methD nm m d = true
    · rw [if_pos h, if_pos h]
      unfold bnd
      dsimp only
      cases gk δ' with
      | ok es δ2 =>
        dsimp only
        by_cases h2 : es.length = ks.length
        · rw [if_pos ⟨rfl, h2⟩, if_pos h2]; rfl
        · rw [if_neg (fun z => h2 z.2), if_neg h2]; rfl
      | err x δ2 => rfl
      | bad => rfl
    · rw [if_neg h, if_neg h]; rfl
  | err x δ' => rfl
  | bad => rfl
def mkn (nm : Str) (n np nk : Nat) (pl : List D → List D → List D) (m : MO → List D → RO) (ds es : List D) (δ : En) : Rs D := if ds.length = np ∧ es.length = nk then (if (pl ds es).length = n then (match madeD nm (m (.obj nm []) (pl ds es)) with
  | some l => .ok (.obj nm l) δ
  | none => .bad) else .bad) else .bad
theorem r_makeN {nm : Str} {n np nk : Nat} {pl : List D → List D → List D} {m : MO → List D → RO} {gs gk : M (List D)} : eMakeN nm n np nk pl m gs gk δ = bnd (gs δ) fun ds => M.bind gk fun es => mkn nm n np nk pl m ds es := rfl
theorem r_statK {nk n : Nat} {ix : List Nat} {g : List D → RR} {gk : M (List D)} : eStatK nk n ix g gk δ = bnd (gk δ) fun es ε => if es.length = nk then callN n g (pick ix es) ε else .bad := by
  unfold eStatK M.bind bnd
  cases gk δ with
  | ok es δ2 =>
    dsimp only
    by_cases h2 : es.length = nk
    · rw [if_pos ⟨rfl, h2⟩, if_pos h2]; rfl
    · rw [if_neg (fun z => h2 z.2), if_neg h2]; rfl
  | err x δ2 => rfl
  | bad => rfl
theorem r_tupk {t : List (D × D)} {gb : M D} : eTup t gb δ = bnd (gb δ) fun d => opt (tGet t d) := rfl
theorem tupl_l : fTupl [.lst ds] = some (.tup ds) := rfl
theorem c_fld {n f : Str} {ga : M D} {s : Sl} : eFld n f ga (s :: δ) = bnd (ga (s :: δ)) fun d => opt (dFld n f d) := rfl
theorem c_prop {nm : Str} {g : List D → RR} {ga : M D} {s : Sl} : eProp nm g ga (s :: δ) = bnd (ga (s :: δ)) (prk nm g) := r_prop
theorem c_meth {nm m : Str} {n : Nat} {g : List D → RR} {ga : M D} {gs : M (List D)} {s : Sl} : eMeth nm m n g ga gs (s :: δ) = bnd (ga (s :: δ)) (mtk nm m n g gs) := r_meth
theorem c_methK {nm m : Str} {ks : List Str} {ix : List Nat} {n : Nat} {g : List D → RR} {ga : M D} {gk : M (List D)} {s : Sl} : eMethK nm m ks ix n g ga gk (s :: δ) = bnd (ga (s :: δ)) (mtkK nm m ks.length ix n g gk) := r_methK
theorem c_makeN {nm : Str} {n np nk : Nat} {pl : List D → List D → List D} {m : MO → List D → RO} {gs gk : M (List D)} {s : Sl} : eMakeN nm n np nk pl m gs gk (s :: δ) = bnd (gs (s :: δ)) fun ds => M.bind gk fun es => mkn nm n np nk pl m ds es := r_makeN
theorem c_statK {nk n : Nat} {ix : List Nat} {g : List D → RR} {gk : M (List D)} {s : Sl} : eStatK nk n ix g gk (s :: δ) = bnd (gk (s :: δ)) fun es ε => if es.length = nk then callN n g (pick ix es) ε else .bad := r_statK
theorem c_tupk {t : List (D × D)} {gb : M D} {s : Sl} : eTup t gb (s :: δ) = bnd (gb (s :: δ)) fun d => opt (tGet t d) := r_tupk
theorem prk_ok {nm : Str} {g : List D → RR} {l : List (Str × D)} : prk nm g (.obj nm l) δ = opk (okD (g [.obj nm l])) δ := if_pos isO
theorem mtk_ok {nm m : Str} {n : Nat} {g : List D → RR} {gs : M (List D)} (h : methD nm m d = true) : mtk nm m n g gs d δ = bnd (gs δ) (fun ds ε => callN n g (d :: ds) ε) := if_pos h
end
end PL
set_option Elab.async false
set_option linter.all false
set_option maxRecDepth 100000
namespace PL
open PySem PySem.Spec PyProof.Rows L2 LamX
variable [Tbls]
section
variable {α β : Type} {δ δ1 δ2 δ3 : En} {d d1 d2 d3 : D} {ds es acc : List D} {b : Bool} {s : Sl}
def zpk (ds : List D) (δ : En) : Rs (List D) := match ds with
  | [.tup l, .tup m] => .ok (zipD l m) δ
  | _ => .bad
theorem c_zipP {gs : M (List D)} : iZipP gs (s :: δ) = bnd (gs (s :: δ)) zpk := rfl
theorem zpk_ok {l m : List D} : zpk [.tup l, .tup m] δ = .ok (zipD l m) δ := rfl
def enk (ds : List D) (δ : En) : Rs (List D) := match ds with
  | [.tup l] => .ok (enumD 0 l) δ
  | _ => .bad
theorem c_enumP {gs : M (List D)} : iEnumD gs (s :: δ) = bnd (gs (s :: δ)) enk := rfl
theorem enk_ok {l : List D} : enk [.tup l] δ = .ok (enumD 0 l) δ := rfl
theorem c_comp2 {gi : M (List D)} {bd : Bd} {gt : M Bool} {gi1 : M (List D)} {bd1 : Bd} {gt1 : M Bool} {ge : M D} {vl vl1 : List Nat} : eComp2 gi bd gt gi1 bd1 gt1 ge vl vl1 (s :: δ) = bnd (bnd (gi (s :: δ)) fun ds δ => loopC2 bd gt gi1 bd1 gt1 ge vl vl1 ds [] (wipeD δ vl)) fun l => M.pure (.lst l) := rfl
theorem mulX_ok {i j : Int} (h : wideOk i j = true) : dMulX (.int i) (.int j) = some (.int (i * j)) := by
  show (if wideOk i j = true then _ else _) = _
  rw [if_pos h]
theorem zip6 {a0 a1 a2 a3 a4 a5 b0 b1 b2 b3 b4 b5 : D} : zipD [a0, a1, a2, a3, a4, a5] [b0, b1, b2, b3, b4, b5] = [.tup [a0, b0], .tup [a1, b1], .tup [a2, b2], .tup [a3, b3], .tup [a4, b4], .tup [a5, b5]] := rfl
theorem enum6 {a0 a1 a2 a3 a4 a5 : D} : enumD 0 [a0, a1, a2, a3, a4, a5] = [.tup [.int 0, a0], .tup [.int 1, a1], .tup [.int 2, a2], .tup [.int 3, a3], .tup [.int 4, a4], .tup [.int 5, a5]] := rfl
/-- a loop that ends at the first item of a kind -/
theorem loopS_find {bd : Bd} {body : S} {v : D} {I : En → Prop} {t : D → Bool} : ∀ {ds : List D} {δ : En}, I δ →
    (∀ d ∈ ds, ∀ δ, I δ → ∃ δ1, bd d δ = some δ1 ∧ ((t d = true ∧ ∃ δ2, body δ1 = .ok (.ret v) δ2) ∨ (t d = false ∧ ∃ δ2, body δ1 = .ok .nx δ2 ∧ I δ2))) →
    (ds.any t = true ∧ ∃ δ2, loopS bd body ds δ = .ok (.ret v) δ2) ∨ (ds.any t = false ∧ ∃ δ2, loopS bd body ds δ = .ok .nx δ2 ∧ I δ2)
  | [], δ, hi, _ => .inr ⟨rfl, δ, by rw [r_loop0], hi⟩
  | d :: ds, δ, hi, h => by
    obtain ⟨δ1, h1, h2⟩ := h d List.mem_cons_self δ hi
    rcases h2 with ⟨ht, δ2, h3⟩ | ⟨ht, δ2, h3, h4⟩
    · refine .inl ⟨by rw [List.any_cons, ht]; rfl, δ2, ?_⟩
      rw [r_loop, h1, lp1_ok, h3, lp2_ret]
    · have ih := loopS_find (ds := ds) h4 fun x hx => h x (List.mem_cons_of_mem _ hx)
      rw [List.any_cons, ht, Bool.false_or, r_loop, h1, lp1_ok, h3, lp2_nx]
      exact ih
end
end PL
set_option Elab.async false
set_option linter.all false
set_option maxRecDepth 100000
set_option maxHeartbeats 4000000
namespace T
open PySem PySem.Spec PyProof.Rows L2 LamX PL
variable [Tbls]
def topS (i : Nat) : Stmt := PySem.Challenge.pw_sixviews_k07_mixed_numbers_and_rims.main.body.getD i (.Pass ⟨0, 0, 0, 0⟩)
def known (nm : Str) : Bool := nm == "NotDrawn"
def isaB (nm T : Str) : Bool := nm == T || T == "ValueError" || T == "DrawingError"
abbrev XCs : List Str := ["NotDrawn"]
abbrev XTs : List Str := ["NotDrawn", "BadCount", "Nowhere"]
abbrev XFs : List Str := ["side", "count"]
/-- what the refusals tell -/
def m_u_law_refusal : RR → RR
  | .ok _ => .ok (.lst [])
  | .err ⟨"NotDrawn", [("side", v)]⟩ => .ok (.lst [.tup [.str "side", v]])
  | _ => .bad
def pl_Pen_1 : List D → List D → List D := fun ds es => match ds, es with
  | [d0], [] => [d0]
  | _, _ => []
section
variable {P : Program} {w : World} {K : PySem.W.Frag} {mg : Str → Option Value} {base : Heap}
abbrev takes0p {X : Cx} : Takes X (fun _ _ _ _ => False) := L2.takes0
abbrev s_u_law_draw : Stmt := topS 24
abbrev N_u_law_draw : List Str := ["_law_pot", "_law_many", "_law_turn", "_law_digit"]
theorem sc_u_law_draw : FnScope N_u_law_draw ["_law_pot", "_law_many"] (defScope s_u_law_draw) := ⟨rfl, rfl, rfl, by decide +kernel, rfl, by decide +kernel, by decide +kernel⟩
noncomputable def g_u_law_draw : S := (sSeq (sFor (iRange1 (aCons (eC (.int 64)) (M.pure []))) (bName 2) (sSeq (sIf (bOr (asB (eBinN dEq 0 (M.bind (M.pure []) mkL))) (asB (eBin dNe (eItemN 0 (eC (.int 0))) (eC (.int 0))))) (sSeq (M.pure .brk)
    sNx) sNx)
    (sSeq (sMut 0 fPop isL (aCons (eC (.int 0)) (M.pure [])))
    sNx)))
    (sSeq (sIf (asB (eBinN dEq 0 (M.bind (M.pure []) mkL))) (sSeq (sRet (eC (.int 0)))
    sNx) sNx)
    (sSeq (sAsg (eBin dMod (eCall fInt (aCons (eItemN 0 (eC (.int 0))) (M.pure []))) (eVar 1)) (bName 3))
    (sSeq (sSetI 0 (eBin dFdivW (eItemN 0 (eC (.int 0))) (eVar 1)) (eC (.int 0)))
    (sSeq (sRet (eVar 3))
    sNx)))))
noncomputable def m_u_law_draw : MO → List D → RO := runO 1 4 g_u_law_draw
theorem ok_u_law_draw {f : Addr} {fd : FuncData} (F : Fun K "_law_draw" "_law_draw" s_u_law_draw f fd) (z_range : mg "range" = none) (z_int : mg "int" = none) : FnOk P w K mg base (L2.CX P w) 2 f fd ["_law_pot", "_law_many"] (spO K 1 m_u_law_draw) :=
  fnO_ok (k := 1) F sc_u_law_draw rfl rfl fun cdv A outer s H E hr tk =>
    have sc := sc_u_law_draw
    (dss_cons (ds_for (vl := [2]) (passes_of rfl) rfl (di_range1 rfl z_range (da_cons de_int da_nil)) (dg_name (i := 2) (by decide) sc.nd rfl (by first | exact Or.inl rfl | exact Or.inr rfl)) (dss_cons (ds_if (dt_w (dt_or (dt_cmpN (op_eqD (room64 hr)) f_eq (pv 0) (de_lst da_nil) (nomark _)) (dt_or1 (dt_cmp (op_neD (room64 hr)) s_ne (de_itemN (pv 0) de_int) de_int (nomark _))))) (dss_cons ds_break
    dss_nil) dss_nil)
    (dss_cons (ds_pop (pv 0) (da_cons de_int da_nil))
    dss_nil)))
    (dss_cons (ds_if (dt_cmpN (op_eqD (room64 hr)) f_eq (pv 0) (de_lst da_nil) (nomark _)) (dss_cons (ds_ret de_int)
    dss_nil) dss_nil)
    (dss_cons (ds_set (i := 3) sc.nd rfl (by first | exact Or.inl rfl | exact Or.inr rfl) (de_op op_mod s_mod (de_intC rfl z_int (da_cons (de_itemN (pv 0) de_int) da_nil)) (de_var (pv 1))))
    (dss_cons (ds_setI (pv 0) de_int (de_op op_fdivW s_fdivW (de_itemN (pv 0) de_int) (de_var (pv 1))))
    (dss_cons (ds_ret (de_var (pv 3)))
    dss_nil)))))
abbrev s_u_law_number : Stmt := topS 25
abbrev N_u_law_number : List Str := ["_law_pot", "_law_mode", "_law_shift", "_law_number_here"]
theorem sc_u_law_number : FnScope N_u_law_number ["_law_pot", "_law_mode", "_law_shift"] (defScope s_u_law_number) := ⟨rfl, rfl, rfl, by decide +kernel, rfl, by decide +kernel, by decide +kernel⟩
noncomputable def g_u_law_number : S := (sSeq (sIf (asB (eBin dEq (eVar 1) (eC (.int 0)))) (sSeq (sRet (eBin dSub (eBin dMod (eCall fInt (aCons (eBin dCat (eCallO 0 1 m_u_law_draw (aCons (eC (.int 7)) (M.pure []))) (eVar 2)) (M.pure []))) (eC (.int 7))) (eC (.int 3))))
    sNx) sNx)
    (sSeq (sAsg (eCallO 0 1 m_u_law_draw (aCons (eBin dPow (eC (.int 10)) (eC (.int 39))) (M.pure []))) (bName 3))
    (sSeq (sIf (asB (eBin dEq (eVar 1) (eC (.int 2)))) (sSeq (sAsg (eBin dCat (eBin dPow (eC (.int 10)) (eC (.int 30))) (eBin dMod (eCall fInt (aCons (eVar 3) (M.pure []))) (eC (.int 100)))) (bName 3))
    sNx) sNx)
    (sSeq (sIf (asB (eBin dEq (eCallO 0 1 m_u_law_draw (aCons (eC (.int 2)) (M.pure []))) (eC (.int 1)))) (sSeq (sRet (dNeg (eVar 3)))
    sNx) sNx)
    (sSeq (sRet (eVar 3))
    sNx)))))
noncomputable def m_u_law_number : MO → List D → RO := runO 2 4 g_u_law_number
theorem ok_u_law_number {f : Addr} {fd : FuncData} (F : Fun K "_law_number" "_law_number" s_u_law_number f fd) (h_u_law_draw : FnO P w K mg base "_law_draw" 2 1 ["_law_pot", "_law_many"] m_u_law_draw) (z_int : mg "int" = none) : FnOk P w K mg base (L2.CX P w) 3 f fd ["_law_pot", "_law_mode", "_law_shift"] (spO K 2 m_u_law_number) :=
  fnO_ok (k := 2) F sc_u_law_number rfl rfl fun cdv A outer s H E hr tk =>
    have sc := sc_u_law_number
    (dss_cons (ds_if (dt_cmp (op_eqD (room64 hr)) s_eq (de_var (pv 1)) de_int (nomark _)) (dss_cons (ds_ret (de_op op_sub s_sub (de_op op_mod s_mod (de_intC rfl z_int (da_cons (de_op op_plus s_plus (de_callO h_u_law_draw tk hr (by decide) rfl (pv 0) (da_cons de_int da_nil)) (de_var (pv 2))) da_nil)) de_int) de_int))
    dss_nil) dss_nil)
    (dss_cons (ds_set (i := 3) sc.nd rfl (by first | exact Or.inl rfl | exact Or.inr rfl) (de_callO h_u_law_draw tk hr (by decide) rfl (pv 0) (da_cons (de_op op_pow s_pow de_int de_int) da_nil)))
    (dss_cons (ds_if (dt_cmp (op_eqD (room64 hr)) s_eq (de_var (pv 1)) de_int (nomark _)) (dss_cons (ds_set (i := 3) sc.nd rfl (by first | exact Or.inl rfl | exact Or.inr rfl) (de_op op_plus s_plus (de_op op_pow s_pow de_int de_int) (de_op op_mod s_mod (de_intC rfl z_int (da_cons (de_var (pv 3)) da_nil)) de_int)))
    dss_nil) dss_nil)
    (dss_cons (ds_if (dt_cmp (op_eqD (room64 hr)) s_eq (de_callO h_u_law_draw tk hr (by decide) rfl (pv 0) (da_cons de_int da_nil)) de_int (nomark _)) (dss_cons (ds_ret (de_neg (de_var (pv 3))))
    dss_nil) dss_nil)
    (dss_cons (ds_ret (de_var (pv 3)))
    dss_nil)))))
abbrev s_u_law_line : Stmt := topS 27
abbrev N_u_law_line : List Str := ["_law_i", "_law_p", "_law_table"]
theorem sc_u_law_line : FnScope N_u_law_line ["_law_i", "_law_p"] (defScope s_u_law_line) := ⟨rfl, rfl, rfl, by decide +kernel, rfl, by decide +kernel, by decide +kernel⟩
noncomputable def g_u_law_line : S := (sSeq (sOwn 2 (aCons (eBin dCat (eItemN 1 (eC (.int 0))) (eItemN 1 (eC (.int 1)))) (aCons (eItemN 1 (eC (.int 1))) (aCons (dNeg (eItemN 1 (eC (.int 0)))) (M.pure [])))))
    (sSeq (sIf (asB (eBin dLt (eVar 0) (eC (.int 3)))) (sSeq (sRet (eItemN 2 (eVar 0)))
    sNx) sNx)
    (sSeq (sRet (dNeg (eItemN 2 (eBin dSub (eVar 0) (eC (.int 3))))))
    sNx)))
noncomputable def m_u_law_line : List D → RR := runF 2 3 g_u_law_line
theorem ok_u_law_line {f : Addr} {fd : FuncData} (F : Fun K "_law_line" "_law_line" s_u_law_line f fd)  : FnOk P w K mg base (L2.CX P w) 2 f fd ["_law_i", "_law_p"] (spD K mg 2 m_u_law_line) :=
  fn_ok (k := 1) F sc_u_law_line rfl rfl fun cdv A outer s H E hr tk =>
    have sc := sc_u_law_line
    (dss_cons (ds_own (i := 2) sc.nd rfl (by first | exact Or.inl rfl | exact Or.inr rfl) (da_cons (de_op op_plus s_plus (de_itemN (pv 1) de_int) (de_itemN (pv 1) de_int)) (da_cons (de_itemN (pv 1) de_int) (da_cons (de_neg (de_itemN (pv 1) de_int)) da_nil))))
    (dss_cons (ds_if (dt_cmp op_lt s_lt (de_var (pv 0)) de_int (nomark _)) (dss_cons (ds_ret (de_itemN (pv 2) (de_var (pv 0))))
    dss_nil) dss_nil)
    (dss_cons (ds_ret (de_neg (de_itemN (pv 2) (de_op op_sub s_sub (de_var (pv 0)) de_int))))
    dss_nil)))
abbrev s_u_law_moved : Stmt := topS 33
abbrev N_u_law_moved : List Str := ["_law_r", "_law_p", "_law_k"]
theorem sc_u_law_moved : FnScope N_u_law_moved ["_law_r", "_law_p"] (defScope s_u_law_moved) := ⟨rfl, rfl, rfl, by decide +kernel, rfl, by decide +kernel, by decide +kernel⟩
noncomputable def g_u_law_moved : S := (sSeq (sRet (eComp (iRange1 (aCons (eC (.int 6)) (M.pure []))) (bName 2) (M.pure true) (eBin dCat (eItemN 0 (eVar 2)) (M.bind (aCons (eVar 2) (aCons (eVar 1) (M.pure []))) (callN 2 m_u_law_line))) [2]))
    sNx)
noncomputable def m_u_law_moved : List D → RR := runF 2 3 g_u_law_moved
theorem ok_u_law_moved {f : Addr} {fd : FuncData} (F : Fun K "_law_moved" "_law_moved" s_u_law_moved f fd) (z_range : mg "range" = none) (h_u_law_line : FnG P w K mg base "_law_line" 2 2 ["_law_i", "_law_p"] m_u_law_line) : FnOk P w K mg base (L2.CX P w) 3 f fd ["_law_r", "_law_p"] (spD K mg 2 m_u_law_moved) :=
  fn_ok (k := 2) F sc_u_law_moved rfl rfl fun cdv A outer s H E hr tk =>
    have sc := sc_u_law_moved
    (dss_cons (ds_ret (de_comp (own := [("_law_k", 2)]) rfl sc.nd (di_range1 rfl z_range (da_cons de_int da_nil)) (blkOk_by (N := N_u_law_moved) (sc := (defScope s_u_law_moved)) (by decide +kernel)) (fun _ _ _ _ _ => (dg_name (i := 2) (by decide) sc.nd rfl (by first | exact Or.inl rfl | exact Or.inr rfl))) (fun _ _ _ _ _ => dts_nil) (fun _ _ _ _ _ => (de_op op_plus s_plus (de_itemN (pv 0) (de_var (pv 2))) (de_callG h_u_law_line takes0p hr (by decide) rfl (da_cons (de_var (pv 2)) (da_cons (de_var (pv 1)) da_nil)))))))
    dss_nil)
abbrev s_Pen_uu_init__ : Stmt := clsM (topS 17) 0
abbrev N_Pen_uu_init__ : List Str := ["self", "reaches"]
theorem sc_Pen_uu_init__ : FnScope N_Pen_uu_init__ ["self", "reaches"] (defScope s_Pen_uu_init__) := ⟨rfl, rfl, rfl, by decide +kernel, rfl, by decide +kernel, by decide +kernel⟩
noncomputable def g_Pen_uu_init__ : S := (sSeq (sIf (asB (eBin dNe (eCall fLen (aCons (eVar 1) (M.pure []))) (eC (.int 6)))) (sSeq M.bad
    sNx) sNx)
    (sSeq (sSetF 0 "Pen" "reaches" (eCall fTupl (aCons (eVar 1) (M.pure []))))
    sNx))
noncomputable def m_Pen_uu_init__ : MO → List D → RO := runO 1 2 g_Pen_uu_init__
theorem ok_Pen_uu_init__ {f : Addr} {fd : FuncData} (F : FunD K "__init__" "Pen.__init__" (defArgs s_Pen_uu_init__) (defBody s_Pen_uu_init__) (defScope s_Pen_uu_init__) [] [] f fd) (z_len : mg "len" = none) (z_tuple : mg "tuple" = none) (at_Pen_reaches : AttrG K "Pen" "reaches") : FnOk P w K mg base (L2.CX P w) 2 f fd ["self", "reaches"] (spO K 1 m_Pen_uu_init__) :=
  fnO_okD (k := 1) F sc_Pen_uu_init__ rfl rfl fun cdv A outer s H E hr tk =>
    have sc := sc_Pen_uu_init__
    (dss_cons (ds_if (dt_cmp (op_neD (room64 hr)) s_ne (de_len rfl z_len (da_cons (de_var (pv 1)) da_nil)) de_int (nomark _)) (dss_cons ds_bad
    dss_nil) dss_nil)
    (dss_cons (ds_setF at_Pen_reaches (pv 0) (de_tupC rfl z_tuple (da_cons (de_var (pv 1)) da_nil)))
    dss_nil))
abbrev s_u_law_sides : Stmt := topS 30
abbrev N_u_law_sides : List Str := ["_law_r", "_law_k"]
theorem sc_u_law_sides : FnScope N_u_law_sides ["_law_r"] (defScope s_u_law_sides) := ⟨rfl, rfl, rfl, by decide +kernel, rfl, by decide +kernel, by decide +kernel⟩
noncomputable def g_u_law_sides : S := (sSeq (sRet (eComp (iRange1 (aCons (eC (.int 6)) (M.pure []))) (bName 1) (M.pure true) (eBin dSub (eBin dCat (eItemN 0 (eBin dSub (eVar 1) (eC (.int 1)))) (eItemN 0 (eBin dMod (eCall fInt (aCons (eBin dCat (eVar 1) (eC (.int 1))) (M.pure []))) (eC (.int 6))))) (eItemN 0 (eVar 1))) [1]))
    sNx)
noncomputable def m_u_law_sides : List D → RR := runF 1 2 g_u_law_sides
theorem ok_u_law_sides {f : Addr} {fd : FuncData} (F : Fun K "_law_sides" "_law_sides" s_u_law_sides f fd) (z_range : mg "range" = none) (z_int : mg "int" = none) : FnOk P w K mg base (L2.CX P w) 2 f fd ["_law_r"] (spD K mg 1 m_u_law_sides) :=
  fn_ok (k := 1) F sc_u_law_sides rfl rfl fun cdv A outer s H E hr tk =>
    have sc := sc_u_law_sides
    (dss_cons (ds_ret (de_comp (own := [("_law_k", 1)]) rfl sc.nd (di_range1 rfl z_range (da_cons de_int da_nil)) (blkOk_by (N := N_u_law_sides) (sc := (defScope s_u_law_sides)) (by decide +kernel)) (fun _ _ _ _ _ => (dg_name (i := 1) (by decide) sc.nd rfl (by first | exact Or.inl rfl | exact Or.inr rfl))) (fun _ _ _ _ _ => dts_nil) (fun _ _ _ _ _ => (de_op op_sub s_sub (de_op op_plus s_plus (de_itemN (pv 0) (de_op op_sub s_sub (de_var (pv 1)) de_int)) (de_itemN (pv 0) (de_op op_mod s_mod (de_intC rfl z_int (da_cons (de_op op_plus s_plus (de_var (pv 1)) de_int) da_nil)) de_int))) (de_itemN (pv 0) (de_var (pv 1)))))))
    dss_nil)
abbrev s_u_law_mixed : Stmt := topS 34
abbrev N_u_law_mixed : List Str := ["_law_r", "_law_s", "_law_sides_here", "_law_k"]
theorem sc_u_law_mixed : FnScope N_u_law_mixed ["_law_r", "_law_s"] (defScope s_u_law_mixed) := ⟨rfl, rfl, rfl, by decide +kernel, rfl, by decide +kernel, by decide +kernel⟩
noncomputable def g_u_law_mixed : S := (sSeq (sAsg (M.bind (aCons (eVar 0) (M.pure [])) (callN 1 m_u_law_sides)) (bName 2))
    (sSeq (sRet (eCall fSum2 (aCons (eComp (iRange1 (aCons (eC (.int 6)) (M.pure []))) (bName 3) (M.pure true) (eBin dMulX (eItemN 2 (eVar 3)) (eItemN 1 (eVar 3))) [3]) (M.pure []))))
    sNx))
noncomputable def m_u_law_mixed : List D → RR := runF 2 4 g_u_law_mixed
theorem ok_u_law_mixed {f : Addr} {fd : FuncData} (F : Fun K "_law_mixed" "_law_mixed" s_u_law_mixed f fd) (h_u_law_sides : FnG P w K mg base "_law_sides" 2 1 ["_law_r"] m_u_law_sides) (z_range : mg "range" = none) (z_sum : mg "sum" = none) : FnOk P w K mg base (L2.CX P w) 3 f fd ["_law_r", "_law_s"] (spD K mg 2 m_u_law_mixed) :=
  fn_ok (k := 2) F sc_u_law_mixed rfl rfl fun cdv A outer s H E hr tk =>
    have sc := sc_u_law_mixed
    (dss_cons (ds_set (i := 2) sc.nd rfl (by first | exact Or.inl rfl | exact Or.inr rfl) (de_callG h_u_law_sides tk hr (by decide) rfl (da_cons (de_var (pv 0)) da_nil)))
    (dss_cons (ds_ret (de_sum2 rfl rfl z_sum (da_cons (de_comp (own := [("_law_k", 3)]) rfl sc.nd (di_range1 rfl z_range (da_cons de_int da_nil)) (blkOk_by (N := N_u_law_mixed) (sc := (defScope s_u_law_mixed)) (by decide +kernel)) (fun _ _ _ _ _ => (dg_name (i := 3) (by decide) sc.nd rfl (by first | exact Or.inl rfl | exact Or.inr rfl))) (fun _ _ _ _ _ => dts_nil) (fun _ _ _ _ _ => (de_op op_mulX s_mulX (de_itemN (pv 2) (de_var (pv 3))) (de_itemN (pv 1) (de_var (pv 3)))))) da_nil)))
    dss_nil))
abbrev s_u_law_same : Stmt := topS 26
abbrev N_u_law_same : List Str := ["_law_told", "_law_due", "_law_k"]
theorem sc_u_law_same : FnScope N_u_law_same ["_law_told", "_law_due"] (defScope s_u_law_same) := ⟨rfl, rfl, rfl, by decide +kernel, rfl, by decide +kernel, by decide +kernel⟩
noncomputable def g_u_law_same (r : List D → RR) : S := (sSeq (sIf (asB (M.bind (eVar 1) fun d => opt (dIsN d))) (sSeq (sRet (M.bind (eVar 0) fun d => opt (dIsN d)))
    sNx) sNx)
    (sSeq (sIf (asB (eCall fIsi (aCons (eVar 1) (aCons (eC (.val (.ty "bool"))) (M.pure []))))) (sSeq (sRet (vAnd (eCall fIsi (aCons (eVar 0) (aCons (eC (.val (.ty "bool"))) (M.pure [])))) (eBin dEq (eVar 0) (eVar 1))))
    sNx) sNx)
    (sSeq (sIf (asB (eCall fIsi (aCons (eVar 1) (aCons (eC (.val (.ty "int"))) (M.pure []))))) (sSeq (sRet (vAnd (eCall fIsi (aCons (eVar 0) (aCons (eC (.val (.ty "int"))) (M.pure [])))) (vAnd (vNot (eCall fIsi (aCons (eVar 0) (aCons (eC (.val (.ty "bool"))) (M.pure []))))) (eBin dEq (eVar 0) (eVar 1)))))
    sNx) sNx)
    (sSeq (sIf (asB (eCall fIsi (aCons (eVar 1) (aCons (eC (.val (.ty "str"))) (M.pure []))))) (sSeq (sRet (vAnd (eCall fIsi (aCons (eVar 0) (aCons (eC (.val (.ty "str"))) (M.pure [])))) (eBin dEq (eVar 0) (eVar 1))))
    sNx) sNx)
    (sSeq (sIf (asB (eBin dNe (eCall fIsi (aCons (eVar 1) (aCons (eC (.val (.ty "tuple"))) (M.pure [])))) (eCall fIsi (aCons (eVar 0) (aCons (eC (.val (.ty "tuple"))) (M.pure [])))))) (sSeq (sRet (eC (.bl false)))
    sNx) sNx)
    (sSeq (sIf (bOr (asB (eBin dNe (eCall fIsi (aCons (eVar 1) (aCons (eC (.val (.ty "list"))) (M.pure [])))) (eCall fIsi (aCons (eVar 0) (aCons (eC (.val (.ty "list"))) (M.pure [])))))) (asB (eBin dNe (eCall fLen (aCons (eVar 0) (M.pure []))) (eCall fLen (aCons (eVar 1) (M.pure [])))))) (sSeq (sRet (eC (.bl false)))
    sNx) sNx)
    (sSeq (sRet (eCall fAll (aCons (eComp (iRange1 (aCons (eCall fLen (aCons (eVar 1) (M.pure []))) (M.pure []))) (bName 2) (M.pure true) (M.bind (aCons (eItemN 0 (eVar 2)) (aCons (eItemN 1 (eVar 2)) (M.pure []))) (callN 2 r)) [2]) (M.pure []))))
    sNx)))))))
noncomputable def m_u_law_same : Nat → List D → RR
  | 0 => fun _ => .bad
  | k + 1 => runF 2 3 (g_u_law_same (m_u_law_same k))
theorem ok_u_law_same {f : Addr} {fd : FuncData} (F : Fun K "_law_same" "_law_same" s_u_law_same f fd) {k : Nat} {r : List D → RR} (z_bool : mg "bool" = none) (z_isinstance : mg "isinstance" = none) (z_int : mg "int" = none) (z_str : mg "str" = none) (z_tuple : mg "tuple" = none) (z_list : mg "list" = none) (z_len : mg "len" = none) (z_range : mg "range" = none) (h_u_law_same : FnG P w K mg base "_law_same" (k + 1) 2 ["_law_told", "_law_due"] r) (z_all : mg "all" = none) : FnOk P w K mg base (L2.CX P w) (k + 2) f fd ["_law_told", "_law_due"] (spD K mg 2 (runF 2 3 (g_u_law_same r))) :=
  fn_ok (k := k + 1) F sc_u_law_same rfl rfl fun cdv A outer s H E hr tk =>
    have sc := sc_u_law_same
    (dss_cons (ds_if (dt_isN (de_var (pv 1))) (dss_cons (ds_ret (de_isN (de_var (pv 0))))
    dss_nil) dss_nil)
    (dss_cons (ds_if (dt_val (de_isi rfl z_isinstance (da_cons (de_var (pv 1)) (da_cons (de_ty rfl z_bool (by decide +kernel)) da_nil)))) (dss_cons (ds_ret (de_and (de_isi rfl z_isinstance (da_cons (de_var (pv 0)) (da_cons (de_ty rfl z_bool (by decide +kernel)) da_nil))) (de_one (de_cmp (op_eqD (room64 hr)) s_eq (de_var (pv 0)) (de_var (pv 1)) (nomark _)))))
    dss_nil) dss_nil)
    (dss_cons (ds_if (dt_val (de_isi rfl z_isinstance (da_cons (de_var (pv 1)) (da_cons (de_ty rfl z_int (by decide +kernel)) da_nil)))) (dss_cons (ds_ret (de_and (de_isi rfl z_isinstance (da_cons (de_var (pv 0)) (da_cons (de_ty rfl z_int (by decide +kernel)) da_nil))) (de_and (de_not (de_isi rfl z_isinstance (da_cons (de_var (pv 0)) (da_cons (de_ty rfl z_bool (by decide +kernel)) da_nil)))) (de_one (de_cmp (op_eqD (room64 hr)) s_eq (de_var (pv 0)) (de_var (pv 1)) (nomark _))))))
    dss_nil) dss_nil)
    (dss_cons (ds_if (dt_val (de_isi rfl z_isinstance (da_cons (de_var (pv 1)) (da_cons (de_ty rfl z_str (by decide +kernel)) da_nil)))) (dss_cons (ds_ret (de_and (de_isi rfl z_isinstance (da_cons (de_var (pv 0)) (da_cons (de_ty rfl z_str (by decide +kernel)) da_nil))) (de_one (de_cmp (op_eqD (room64 hr)) s_eq (de_var (pv 0)) (de_var (pv 1)) (nomark _)))))
    dss_nil) dss_nil)
    (dss_cons (ds_if (dt_cmp (op_neD (room64 hr)) s_ne (de_isi rfl z_isinstance (da_cons (de_var (pv 1)) (da_cons (de_ty rfl z_tuple (by decide +kernel)) da_nil))) (de_isi rfl z_isinstance (da_cons (de_var (pv 0)) (da_cons (de_ty rfl z_tuple (by decide +kernel)) da_nil))) (nomark _)) (dss_cons (ds_ret de_bl)
    dss_nil) dss_nil)
    (dss_cons (ds_if (dt_w (dt_or (dt_cmp (op_neD (room64 hr)) s_ne (de_isi rfl z_isinstance (da_cons (de_var (pv 1)) (da_cons (de_ty rfl z_list (by decide +kernel)) da_nil))) (de_isi rfl z_isinstance (da_cons (de_var (pv 0)) (da_cons (de_ty rfl z_list (by decide +kernel)) da_nil))) (nomark _)) (dt_or1 (dt_cmp (op_neD (room64 hr)) s_ne (de_len rfl z_len (da_cons (de_var (pv 0)) da_nil)) (de_len rfl z_len (da_cons (de_var (pv 1)) da_nil)) (nomark _))))) (dss_cons (ds_ret de_bl)
    dss_nil) dss_nil)
    (dss_cons (ds_ret (de_all rfl rfl z_all (da_cons (de_comp (own := [("_law_k", 2)]) rfl sc.nd (di_range1 rfl z_range (da_cons (de_len rfl z_len (da_cons (de_var (pv 1)) da_nil)) da_nil)) (blkOk_by (N := N_u_law_same) (sc := (defScope s_u_law_same)) (by decide +kernel)) (fun _ _ _ _ _ => (dg_name (i := 2) (by decide) sc.nd rfl (by first | exact Or.inl rfl | exact Or.inr rfl))) (fun _ _ _ _ _ => dts_nil) (fun _ _ _ _ _ => (de_callG h_u_law_same takes0p hr (Nat.le_refl _) rfl (da_cons (de_itemN (pv 0) (de_var (pv 2))) (da_cons (de_itemN (pv 1) (de_var (pv 2))) da_nil))))) da_nil)))
    dss_nil)))))))
abbrev s_Pen_sides : Stmt := clsM (topS 17) 6
abbrev N_Pen_sides : List Str := ["self", "reaches", "side"]
theorem sc_Pen_sides : FnScope N_Pen_sides ["self"] (defScope s_Pen_sides) := ⟨rfl, rfl, rfl, by decide +kernel, rfl, by decide +kernel, by decide +kernel⟩
noncomputable def g_Pen_sides : S := (sSeq (sAsg (eFld "Pen" "reaches" (eVar 0)) (bName 1))
    (sSeq (sRet (eCall fTupl (aCons (eComp (iRange1 (aCons (eC (.int 6)) (M.pure []))) (bName 2) (M.pure true) (eBin dSub (eBin dCat (eItemN 1 (eBin dSub (eVar 2) (eC (.int 1)))) (eItemN 1 (eBin dMod (eBin dCat (eVar 2) (eC (.int 1))) (eC (.int 6))))) (eItemN 1 (eVar 2))) [2]) (M.pure []))))
    sNx))
noncomputable def m_Pen_sides : List D → RR := runF 1 3 g_Pen_sides
theorem ok_Pen_sides {f : Addr} {fd : FuncData} (F : FunD K "sides" "Pen.sides" (defArgs s_Pen_sides) (defBody s_Pen_sides) (defScope s_Pen_sides) [] [] f fd) (at_Pen_reaches : AttrG K "Pen" "reaches") (z_range : mg "range" = none) (z_tuple : mg "tuple" = none) : FnOk P w K mg base (L2.CX P w) 2 f fd ["self"] (spD K mg 1 m_Pen_sides) :=
  fn_okD (k := 1) F sc_Pen_sides rfl rfl fun cdv A outer s H E hr tk =>
    have sc := sc_Pen_sides
    (dss_cons (ds_set (i := 1) sc.nd rfl (by first | exact Or.inl rfl | exact Or.inr rfl) (de_fld at_Pen_reaches (de_var (pv 0)) rfl))
    (dss_cons (ds_ret (de_tupC rfl z_tuple (da_cons (de_comp (own := [("side", 2)]) rfl sc.nd (di_range1 rfl z_range (da_cons de_int da_nil)) (blkOk_by (N := N_Pen_sides) (sc := (defScope s_Pen_sides)) (by decide +kernel)) (fun _ _ _ _ _ => (dg_name (i := 2) (by decide) sc.nd rfl (by first | exact Or.inl rfl | exact Or.inr rfl))) (fun _ _ _ _ _ => dts_nil) (fun _ _ _ _ _ => (de_op op_sub s_sub (de_op op_plus s_plus (de_itemN (pv 1) (de_op op_sub s_sub (de_var (pv 2)) de_int)) (de_itemN (pv 1) (de_op op_mod s_mod (de_op op_plus s_plus (de_var (pv 2)) de_int) de_int))) (de_itemN (pv 1) (de_var (pv 2)))))) da_nil)))
    dss_nil))
abbrev s_mixed : Stmt := topS 20
abbrev N_mixed : List Str := ["first", "second", "side", "reach"]
theorem sc_mixed : FnScope N_mixed ["first", "second"] (defScope s_mixed) := ⟨rfl, rfl, rfl, by decide +kernel, rfl, by decide +kernel, by decide +kernel⟩
noncomputable def g_mixed : S := (sSeq (sRet (eCall fSum2 (aCons (eComp (iZipP (aCons (eMeth "Pen" "sides" 1 m_Pen_sides (eVar 0) (M.pure [])) (aCons (eFld "Pen" "reaches" (eVar 1)) (M.pure [])))) (bTup 2 (bCons (bName 2) (bCons (bName 3) bNil))) (M.pure true) (eBin dMulX (eVar 2) (eVar 3)) [2, 3]) (M.pure []))))
    sNx)
noncomputable def m_mixed : List D → RR := runF 2 4 g_mixed
theorem ok_mixed {f : Addr} {fd : FuncData} (F : Fun K "mixed" "mixed" s_mixed f fd) (at_Pen_reaches : AttrG K "Pen" "reaches") (mm_Pen_sides : MethG P w K mg base "Pen" "sides" 2 1 ["self"] m_Pen_sides) (z_zip : mg "zip" = none) (z_sum : mg "sum" = none) : FnOk P w K mg base (L2.CX P w) 3 f fd ["first", "second"] (spD K mg 2 m_mixed) :=
  fn_ok (k := 2) F sc_mixed rfl rfl fun cdv A outer s H E hr tk =>
    have sc := sc_mixed
    (dss_cons (ds_ret (de_sum2 rfl rfl z_sum (da_cons (de_comp (own := [("side", 2), ("reach", 3)]) rfl sc.nd (di_zipT rfl z_zip (da_cons (de_meth0 mm_Pen_sides tk hr (by decide) (de_var (pv 0))) (da_cons (de_fld at_Pen_reaches (de_var (pv 1)) rfl) da_nil))) (blkOk_by (N := N_mixed) (sc := (defScope s_mixed)) (by decide +kernel)) (fun _ _ _ _ _ => (dg_tup rfl (dgs_cons (dg_name (i := 2) (by decide) sc.nd rfl (by first | exact Or.inl rfl | exact Or.inr rfl)) (dgs_cons (dg_name (i := 3) (by decide) sc.nd rfl (by first | exact Or.inl rfl | exact Or.inr rfl)) dgs_nil)))) (fun _ _ _ _ _ => dts_nil) (fun _ _ _ _ _ => (de_op op_mulX s_mulX (de_var (pv 2)) (de_var (pv 3))))) da_nil)))
    dss_nil)
abbrev s_Pen_rim : Stmt := clsM (topS 17) 9
abbrev N_Pen_rim : List Str := ["self"]
theorem sc_Pen_rim : FnScope N_Pen_rim ["self"] (defScope s_Pen_rim) := ⟨rfl, rfl, rfl, by decide +kernel, rfl, by decide +kernel, by decide +kernel⟩
noncomputable def g_Pen_rim : S := (sSeq (sRet (eCall fSum2 (aCons (eMeth "Pen" "sides" 1 m_Pen_sides (eVar 0) (M.pure [])) (M.pure []))))
    sNx)
noncomputable def m_Pen_rim : List D → RR := runF 1 1 g_Pen_rim
theorem ok_Pen_rim {f : Addr} {fd : FuncData} (F : FunD K "rim" "Pen.rim" (defArgs s_Pen_rim) (defBody s_Pen_rim) (defScope s_Pen_rim) [] [] f fd) (mm_Pen_sides : MethG P w K mg base "Pen" "sides" 2 1 ["self"] m_Pen_sides) (z_sum : mg "sum" = none) : FnOk P w K mg base (L2.CX P w) 3 f fd ["self"] (spD K mg 1 m_Pen_rim) :=
  fn_okD (k := 2) F sc_Pen_rim rfl rfl fun cdv A outer s H E hr tk =>
    have sc := sc_Pen_rim
    (dss_cons (ds_ret (de_sum2 rfl rfl z_sum (da_cons (de_meth0 mm_Pen_sides tk hr (by decide) (de_var (pv 0))) da_nil)))
    dss_nil)
abbrev s_Pen_even : Stmt := clsM (topS 17) 3
abbrev N_Pen_even : List Str := ["size"]
theorem sc_Pen_even : FnScope N_Pen_even ["size"] (defScope s_Pen_even) := ⟨rfl, rfl, rfl, by decide +kernel, rfl, by decide +kernel, by decide +kernel⟩
noncomputable def g_Pen_even : S := (sSeq (sRet (eMakeN "Pen" 1 1 0 pl_Pen_1 m_Pen_uu_init__ (aCons (eBin dRep (M.bind (aCons (eVar 0) (M.pure [])) mkL) (eC (.int 6))) (M.pure [])) (M.pure [])))
    sNx)
noncomputable def m_Pen_even : List D → RR := runF 1 1 g_Pen_even
theorem ok_Pen_even {f : Addr} {fd : FuncData} (F : FunD K "even" "Pen.even" (defArgs s_Pen_even) (defBody s_Pen_even) (defScope s_Pen_even) [] [] f fd) (mn_Pen_1 : MkN P w K mg base "Pen" 2 1 1 ["self", "reaches"] [] pl_Pen_1 m_Pen_uu_init__) : FnOk P w K mg base (L2.CX P w) 4 f fd ["size"] (spD K mg 1 m_Pen_even) :=
  fn_okD (k := 3) F sc_Pen_even rfl rfl fun cdv A outer s H E hr tk =>
    have sc := sc_Pen_even
    (dss_cons (ds_ret (de_makeD tk mn_Pen_1 hr (by decide) rfl (da_cons (de_op op_rep s_rep (de_lst (da_cons (de_var (pv 0)) da_nil)) de_int) da_nil)))
    dss_nil)
abbrev s_u_law_mixed_fits : Stmt := topS 36
abbrev N_u_law_mixed_fits : List Str := ["_law_r", "_law_s", "_law_p", "_law_n", "_law_one", "_law_two", "_law_due", "_law_told", "_law_rim", "_law_k"]
theorem sc_u_law_mixed_fits : FnScope N_u_law_mixed_fits ["_law_r", "_law_s", "_law_p", "_law_n"] (defScope s_u_law_mixed_fits) := ⟨rfl, rfl, rfl, by decide +kernel, rfl, by decide +kernel, by decide +kernel⟩
noncomputable def g_u_law_mixed_fits : S := (sSeq (sAsg (eMakeN "Pen" 1 1 0 pl_Pen_1 m_Pen_uu_init__ (aCons (eVar 0) (M.pure [])) (M.pure [])) (bName 4))
    (sSeq (sAsg (eMakeN "Pen" 1 1 0 pl_Pen_1 m_Pen_uu_init__ (aCons (eVar 1) (M.pure [])) (M.pure [])) (bName 5))
    (sSeq (sAsg (M.bind (aCons (eVar 0) (aCons (eVar 1) (M.pure []))) (callN 2 m_u_law_mixed)) (bName 6))
    (sSeq (sOwn 7 (aCons (M.bind (aCons (eVar 4) (aCons (eVar 5) (M.pure []))) (callN 2 m_mixed)) (aCons (M.bind (aCons (eVar 5) (aCons (eVar 4) (M.pure []))) (callN 2 m_mixed)) (aCons (eCallK 0 ["second", "first"] [1, 0] 2 m_mixed (M.pure []) (aCons (eVar 4) (aCons (eVar 5) (M.pure [])))) (M.pure [])))))
    (sSeq (sMut 7 fApp isL (aCons (M.bind (aCons (eMakeN "Pen" 1 1 0 pl_Pen_1 m_Pen_uu_init__ (aCons (M.bind (aCons (eVar 0) (aCons (eVar 2) (M.pure []))) (callN 2 m_u_law_moved)) (M.pure [])) (M.pure [])) (aCons (eVar 5) (M.pure []))) (callN 2 m_mixed)) (M.pure [])))
    (sSeq (sMut 7 fApp isL (aCons (M.bind (aCons (eVar 5) (aCons (eMakeN "Pen" 1 1 0 pl_Pen_1 m_Pen_uu_init__ (aCons (M.bind (aCons (eVar 0) (aCons (eVar 2) (M.pure []))) (callN 2 m_u_law_moved)) (M.pure [])) (M.pure [])) (M.pure []))) (callN 2 m_mixed)) (M.pure [])))
    (sSeq (sIf (bNot (asB (M.bind (aCons (eVar 7) (aCons (eComp (iRange1 (aCons (eC (.int 5)) (M.pure []))) (bName 9) (M.pure true) (eVar 6) [9]) (M.pure []))) (callN 2 (m_u_law_same 5))))) (sSeq (sRet (eC (.bl false)))
    sNx) sNx)
    (sSeq (sAsg (eCall fSum2 (aCons (M.bind (aCons (eVar 0) (M.pure [])) (callN 1 m_u_law_sides)) (M.pure []))) (bName 8))
    (sSeq (sOwn 7 (aCons (M.bind (aCons (eVar 4) (aCons (M.bind (aCons (eVar 3) (M.pure [])) (callN 1 m_Pen_even)) (M.pure []))) (callN 2 m_mixed)) (aCons (M.bind (aCons (M.bind (aCons (eVar 3) (M.pure [])) (callN 1 m_Pen_even)) (aCons (eVar 4) (M.pure []))) (callN 2 m_mixed)) (M.pure []))))
    (sSeq (sIf (bNot (asB (M.bind (aCons (eVar 7) (aCons (M.bind (aCons (eBin dMulX (eVar 3) (eVar 8)) (aCons (eBin dMulX (eVar 3) (eVar 8)) (M.pure []))) mkL) (M.pure []))) (callN 2 (m_u_law_same 5))))) (sSeq (sRet (eC (.bl false)))
    sNx) sNx)
    (sSeq (sRet (M.bind (aCons (M.bind (aCons (eProp "Pen" m_Pen_rim (eVar 4)) (aCons (M.bind (aCons (eVar 4) (aCons (M.bind (aCons (eC (.int 1)) (M.pure [])) (callN 1 m_Pen_even)) (M.pure []))) (callN 2 m_mixed)) (M.pure []))) mkL) (aCons (M.bind (aCons (eVar 8) (aCons (eVar 8) (M.pure []))) mkL) (M.pure []))) (callN 2 (m_u_law_same 5))))
    sNx)))))))))))
noncomputable def m_u_law_mixed_fits : List D → RR := runF 4 10 g_u_law_mixed_fits
theorem ok_u_law_mixed_fits {f : Addr} {fd : FuncData} (F : Fun K "_law_mixed_fits" "_law_mixed_fits" s_u_law_mixed_fits f fd) (mn_Pen_1 : MkN P w K mg base "Pen" 2 1 1 ["self", "reaches"] [] pl_Pen_1 m_Pen_uu_init__) (h_u_law_mixed : FnG P w K mg base "_law_mixed" 3 2 ["_law_r", "_law_s"] m_u_law_mixed) (k_mixed_sf : FnK P w K mg base "mixed" 3 2 ["first", "second"] m_mixed 0 ["second", "first"] [1, 0]) (h_mixed : FnG P w K mg base "mixed" 3 2 ["first", "second"] m_mixed) (h_u_law_moved : FnG P w K mg base "_law_moved" 3 2 ["_law_r", "_law_p"] m_u_law_moved) (z_range : mg "range" = none) (h_u_law_same : FnG P w K mg base "_law_same" 7 2 ["_law_told", "_law_due"] (m_u_law_same 5)) (h_u_law_sides : FnG P w K mg base "_law_sides" 2 1 ["_law_r"] m_u_law_sides) (z_sum : mg "sum" = none) (st_Pen_even : StatG P w K mg base "Pen" "even" 4 1 ["size"] m_Pen_even) (mp_Pen_rim : PropG P w K mg base "Pen" "rim" 3 ["self"] m_Pen_rim) : FnOk P w K mg base (L2.CX P w) 8 f fd ["_law_r", "_law_s", "_law_p", "_law_n"] (spD K mg 4 m_u_law_mixed_fits) :=
  fn_ok (k := 7) F sc_u_law_mixed_fits rfl rfl fun cdv A outer s H E hr tk =>
    have sc := sc_u_law_mixed_fits
    (dss_cons (ds_set (i := 4) sc.nd rfl (by first | exact Or.inl rfl | exact Or.inr rfl) (de_makeD tk mn_Pen_1 hr (by decide) rfl (da_cons (de_var (pv 0)) da_nil)))
    (dss_cons (ds_set (i := 5) sc.nd rfl (by first | exact Or.inl rfl | exact Or.inr rfl) (de_makeD tk mn_Pen_1 hr (by decide) rfl (da_cons (de_var (pv 1)) da_nil)))
    (dss_cons (ds_set (i := 6) sc.nd rfl (by first | exact Or.inl rfl | exact Or.inr rfl) (de_callG h_u_law_mixed tk hr (by decide) rfl (da_cons (de_var (pv 0)) (da_cons (de_var (pv 1)) da_nil))))
    (dss_cons (ds_own (i := 7) sc.nd rfl (by first | exact Or.inl rfl | exact Or.inr rfl) (da_cons (de_callG h_mixed tk hr (by decide) rfl (da_cons (de_var (pv 4)) (da_cons (de_var (pv 5)) da_nil))) (da_cons (de_callG h_mixed tk hr (by decide) rfl (da_cons (de_var (pv 5)) (da_cons (de_var (pv 4)) da_nil))) (da_cons (de_callK0 k_mixed_sf tk hr (by decide) rfl (dk_cons (de_var (pv 4)) (dk_cons (de_var (pv 5)) dk_nil))) da_nil))))
    (dss_cons (ds_app (pv 7) (da_cons (de_callG h_mixed tk hr (by decide) rfl (da_cons (de_makeD tk mn_Pen_1 hr (by decide) rfl (da_cons (de_callG h_u_law_moved tk hr (by decide) rfl (da_cons (de_var (pv 0)) (da_cons (de_var (pv 2)) da_nil))) da_nil)) (da_cons (de_var (pv 5)) da_nil))) da_nil))
    (dss_cons (ds_app (pv 7) (da_cons (de_callG h_mixed tk hr (by decide) rfl (da_cons (de_var (pv 5)) (da_cons (de_makeD tk mn_Pen_1 hr (by decide) rfl (da_cons (de_callG h_u_law_moved tk hr (by decide) rfl (da_cons (de_var (pv 0)) (da_cons (de_var (pv 2)) da_nil))) da_nil)) da_nil))) da_nil))
    (dss_cons (ds_if (dt_not (dt_val (de_callG h_u_law_same tk hr (by decide) rfl (da_cons (de_var (pv 7)) (da_cons (de_comp (own := [("_law_k", 9)]) rfl sc.nd (di_range1 rfl z_range (da_cons de_int da_nil)) (blkOk_by (N := N_u_law_mixed_fits) (sc := (defScope s_u_law_mixed_fits)) (by decide +kernel)) (fun _ _ _ _ _ => (dg_name (i := 9) (by decide) sc.nd rfl (by first | exact Or.inl rfl | exact Or.inr rfl))) (fun _ _ _ _ _ => dts_nil) (fun _ _ _ _ _ => (de_var (pv 6)))) da_nil))))) (dss_cons (ds_ret de_bl)
    dss_nil) dss_nil)
    (dss_cons (ds_set (i := 8) sc.nd rfl (by first | exact Or.inl rfl | exact Or.inr rfl) (de_sum2 rfl rfl z_sum (da_cons (de_callG h_u_law_sides tk hr (by decide) rfl (da_cons (de_var (pv 0)) da_nil)) da_nil)))
    (dss_cons (ds_own (i := 7) sc.nd rfl (by first | exact Or.inl rfl | exact Or.inr rfl) (da_cons (de_callG h_mixed tk hr (by decide) rfl (da_cons (de_var (pv 4)) (da_cons (de_stat st_Pen_even tk hr (by decide) rfl (da_cons (de_var (pv 3)) da_nil)) da_nil))) (da_cons (de_callG h_mixed tk hr (by decide) rfl (da_cons (de_stat st_Pen_even tk hr (by decide) rfl (da_cons (de_var (pv 3)) da_nil)) (da_cons (de_var (pv 4)) da_nil))) da_nil)))
    (dss_cons (ds_if (dt_not (dt_val (de_callG h_u_law_same tk hr (by decide) rfl (da_cons (de_var (pv 7)) (da_cons (de_lst (da_cons (de_op op_mulX s_mulX (de_var (pv 3)) (de_var (pv 8))) (da_cons (de_op op_mulX s_mulX (de_var (pv 3)) (de_var (pv 8))) da_nil))) da_nil))))) (dss_cons (ds_ret de_bl)
    dss_nil) dss_nil)
    (dss_cons (ds_ret (de_callG h_u_law_same tk hr (by decide) rfl (da_cons (de_lst (da_cons (de_prop mp_Pen_rim hr (by decide) (de_var (pv 4))) (da_cons (de_callG h_mixed tk hr (by decide) rfl (da_cons (de_var (pv 4)) (da_cons (de_stat st_Pen_even tk hr (by decide) rfl (da_cons de_int da_nil)) da_nil))) da_nil))) (da_cons (de_lst (da_cons (de_var (pv 8)) (da_cons (de_var (pv 8)) da_nil))) da_nil))))
    dss_nil)))))))))))
abbrev s_check_drawn : Stmt := topS 18
abbrev N_check_drawn : List Str := ["pen", "side", "length"]
theorem sc_check_drawn : FnScope N_check_drawn ["pen"] (defScope s_check_drawn) := ⟨rfl, rfl, rfl, by decide +kernel, rfl, by decide +kernel, by decide +kernel⟩
noncomputable def g_check_drawn : S := (sSeq (sFor (iEnumD (aCons (eMeth "Pen" "sides" 1 m_Pen_sides (eVar 0) (M.pure [])) (M.pure []))) (bTup 2 (bCons (bName 1) (bCons (bName 2) bNil))) (sSeq (sIf (asB (eBin dLt (eVar 2) (eC (.int 0)))) (sSeq (sRaise1 "NotDrawn" "side" (aCons (eVar 1) (M.pure [])))
    sNx) sNx)
    sNx))
    sNx)
noncomputable def m_check_drawn : List D → RR := runF 1 3 g_check_drawn
theorem ok_check_drawn {f : Addr} {fd : FuncData} (F : Fun K "check_drawn" "check_drawn" s_check_drawn f fd) (mm_Pen_sides : MethG P w K mg base "Pen" "sides" 2 1 ["self"] m_Pen_sides) (z_enumerate : mg "enumerate" = none) (x_NotDrawn : ∃ C, XCls P w K mg base "NotDrawn" "side" C) : FnOk P w K mg base (L2.CX P w) 3 f fd ["pen"] (spD K mg 1 m_check_drawn) :=
  fn_ok (k := 2) F sc_check_drawn rfl rfl fun cdv A outer s H E hr tk =>
    have sc := sc_check_drawn
    (dss_cons (ds_for (vl := [1, 2]) (passes_of rfl) rfl (di_enumT rfl z_enumerate (da_cons (de_meth0 mm_Pen_sides tk hr (by decide) (de_var (pv 0))) da_nil)) (dg_tup rfl (dgs_cons (dg_name (i := 1) (by decide) sc.nd rfl (by first | exact Or.inl rfl | exact Or.inr rfl)) (dgs_cons (dg_name (i := 2) (by decide) sc.nd rfl (by first | exact Or.inl rfl | exact Or.inr rfl)) dgs_nil))) (dss_cons (ds_if (dt_cmp op_lt s_lt (de_var (pv 2)) de_int (nomark _)) (dss_cons (ds_raiseG x_NotDrawn rfl tk hr (by decide) (da_cons (de_var (pv 1)) da_nil))
    dss_nil) dss_nil)
    dss_nil))
    dss_nil)
abbrev s_Pen_area : Stmt := clsM (topS 17) 8
abbrev N_Pen_area : List Str := ["self", "side", "reach"]
theorem sc_Pen_area : FnScope N_Pen_area ["self"] (defScope s_Pen_area) := ⟨rfl, rfl, rfl, by decide +kernel, rfl, by decide +kernel, by decide +kernel⟩
noncomputable def g_Pen_area : S := (sSeq (sRet (eCall fSum2 (aCons (eComp (iZipP (aCons (eMeth "Pen" "sides" 1 m_Pen_sides (eVar 0) (M.pure [])) (aCons (eFld "Pen" "reaches" (eVar 0)) (M.pure [])))) (bTup 2 (bCons (bName 1) (bCons (bName 2) bNil))) (M.pure true) (eBin dMulX (eVar 1) (eVar 2)) [1, 2]) (M.pure []))))
    sNx)
noncomputable def m_Pen_area : List D → RR := runF 1 3 g_Pen_area
theorem ok_Pen_area {f : Addr} {fd : FuncData} (F : FunD K "area" "Pen.area" (defArgs s_Pen_area) (defBody s_Pen_area) (defScope s_Pen_area) [] [] f fd) (at_Pen_reaches : AttrG K "Pen" "reaches") (mm_Pen_sides : MethG P w K mg base "Pen" "sides" 2 1 ["self"] m_Pen_sides) (z_zip : mg "zip" = none) (z_sum : mg "sum" = none) : FnOk P w K mg base (L2.CX P w) 3 f fd ["self"] (spD K mg 1 m_Pen_area) :=
  fn_okD (k := 2) F sc_Pen_area rfl rfl fun cdv A outer s H E hr tk =>
    have sc := sc_Pen_area
    (dss_cons (ds_ret (de_sum2 rfl rfl z_sum (da_cons (de_comp (own := [("side", 1), ("reach", 2)]) rfl sc.nd (di_zipT rfl z_zip (da_cons (de_meth0 mm_Pen_sides tk hr (by decide) (de_var (pv 0))) (da_cons (de_fld at_Pen_reaches (de_var (pv 0)) rfl) da_nil))) (blkOk_by (N := N_Pen_area) (sc := (defScope s_Pen_area)) (by decide +kernel)) (fun _ _ _ _ _ => (dg_tup rfl (dgs_cons (dg_name (i := 1) (by decide) sc.nd rfl (by first | exact Or.inl rfl | exact Or.inr rfl)) (dgs_cons (dg_name (i := 2) (by decide) sc.nd rfl (by first | exact Or.inl rfl | exact Or.inr rfl)) dgs_nil)))) (fun _ _ _ _ _ => dts_nil) (fun _ _ _ _ _ => (de_op op_mulX s_mulX (de_var (pv 1)) (de_var (pv 2))))) da_nil)))
    dss_nil)
abbrev s_spare : Stmt := topS 21
abbrev N_spare : List Str := ["first", "second", "number"]
theorem sc_spare : FnScope N_spare ["first", "second"] (defScope s_spare) := ⟨rfl, rfl, rfl, by decide +kernel, rfl, by decide +kernel, by decide +kernel⟩
noncomputable def g_spare : S := (sSeq (sDrop (M.bind (aCons (eVar 0) (M.pure [])) (callN 1 m_check_drawn)))
    (sSeq (sDrop (M.bind (aCons (eVar 1) (M.pure [])) (callN 1 m_check_drawn)))
    (sSeq (sAsg (M.bind (aCons (eVar 0) (aCons (eVar 1) (M.pure []))) (callN 2 m_mixed)) (bName 2))
    (sSeq (sRet (eBin dSub (eBin dMulX (eVar 2) (eVar 2)) (eBin dMulX (eProp "Pen" m_Pen_area (eVar 0)) (eProp "Pen" m_Pen_area (eVar 1)))))
    sNx))))
noncomputable def m_spare : List D → RR := runF 2 3 g_spare
theorem ok_spare {f : Addr} {fd : FuncData} (F : Fun K "spare" "spare" s_spare f fd) (h_check_drawn : FnG P w K mg base "check_drawn" 3 1 ["pen"] m_check_drawn) (h_mixed : FnG P w K mg base "mixed" 3 2 ["first", "second"] m_mixed) (mp_Pen_area : PropG P w K mg base "Pen" "area" 3 ["self"] m_Pen_area) : FnOk P w K mg base (L2.CX P w) 5 f fd ["first", "second"] (spD K mg 2 m_spare) :=
  fn_ok (k := 4) F sc_spare rfl rfl fun cdv A outer s H E hr tk =>
    have sc := sc_spare
    (dss_cons (ds_expr (de_callG h_check_drawn tk hr (by decide) rfl (da_cons (de_var (pv 0)) da_nil)))
    (dss_cons (ds_expr (de_callG h_check_drawn tk hr (by decide) rfl (da_cons (de_var (pv 1)) da_nil)))
    (dss_cons (ds_set (i := 2) sc.nd rfl (by first | exact Or.inl rfl | exact Or.inr rfl) (de_callG h_mixed tk hr (by decide) rfl (da_cons (de_var (pv 0)) (da_cons (de_var (pv 1)) da_nil))))
    (dss_cons (ds_ret (de_op op_sub s_sub (de_op op_mulX s_mulX (de_var (pv 2)) (de_var (pv 2))) (de_op op_mulX s_mulX (de_prop mp_Pen_area hr (by decide) (de_var (pv 0))) (de_prop mp_Pen_area hr (by decide) (de_var (pv 1))))))
    dss_nil))))
abbrev s_u_law_ratio : Stmt := topS 35
abbrev N_u_law_ratio : List Str := ["_law_r", "_law_s", "_law_ours", "_law_theirs", "_law_k", "_law_j"]
theorem sc_u_law_ratio : FnScope N_u_law_ratio ["_law_r", "_law_s"] (defScope s_u_law_ratio) := ⟨rfl, rfl, rfl, by decide +kernel, rfl, by decide +kernel, by decide +kernel⟩
noncomputable def g_u_law_ratio : S := (sSeq (sAsg (M.bind (aCons (eVar 0) (M.pure [])) (callN 1 m_u_law_sides)) (bName 2))
    (sSeq (sAsg (M.bind (aCons (eVar 1) (M.pure [])) (callN 1 m_u_law_sides)) (bName 3))
    (sSeq (sFor (iRange1 (aCons (eC (.int 6)) (M.pure []))) (bName 4) (sSeq (sFor (iRange1 (aCons (eC (.int 6)) (M.pure []))) (bName 5) (sSeq (sIf (asB (eBin dNe (eBin dMulX (eItemN 2 (eVar 4)) (eItemN 3 (eVar 5))) (eBin dMulX (eItemN 2 (eVar 5)) (eItemN 3 (eVar 4))))) (sSeq (sRet (eC (.bl false)))
    sNx) sNx)
    sNx))
    sNx))
    (sSeq (sRet (eC (.bl true)))
    sNx))))
noncomputable def m_u_law_ratio : List D → RR := runF 2 6 g_u_law_ratio
theorem ok_u_law_ratio {f : Addr} {fd : FuncData} (F : Fun K "_law_ratio" "_law_ratio" s_u_law_ratio f fd) (h_u_law_sides : FnG P w K mg base "_law_sides" 2 1 ["_law_r"] m_u_law_sides) (z_range : mg "range" = none) : FnOk P w K mg base (L2.CX P w) 3 f fd ["_law_r", "_law_s"] (spD K mg 2 m_u_law_ratio) :=
  fn_ok (k := 2) F sc_u_law_ratio rfl rfl fun cdv A outer s H E hr tk =>
    have sc := sc_u_law_ratio
    (dss_cons (ds_set (i := 2) sc.nd rfl (by first | exact Or.inl rfl | exact Or.inr rfl) (de_callG h_u_law_sides tk hr (by decide) rfl (da_cons (de_var (pv 0)) da_nil)))
    (dss_cons (ds_set (i := 3) sc.nd rfl (by first | exact Or.inl rfl | exact Or.inr rfl) (de_callG h_u_law_sides tk hr (by decide) rfl (da_cons (de_var (pv 1)) da_nil)))
    (dss_cons (ds_for (vl := [4]) (passes_of rfl) rfl (di_range1 rfl z_range (da_cons de_int da_nil)) (dg_name (i := 4) (by decide) sc.nd rfl (by first | exact Or.inl rfl | exact Or.inr rfl)) (dss_cons (ds_for (vl := [5]) (passes_of rfl) rfl (di_range1 rfl z_range (da_cons de_int da_nil)) (dg_name (i := 5) (by decide) sc.nd rfl (by first | exact Or.inl rfl | exact Or.inr rfl)) (dss_cons (ds_if (dt_cmp (op_neD (room64 hr)) s_ne (de_op op_mulX s_mulX (de_itemN (pv 2) (de_var (pv 4))) (de_itemN (pv 3) (de_var (pv 5)))) (de_op op_mulX s_mulX (de_itemN (pv 2) (de_var (pv 5))) (de_itemN (pv 3) (de_var (pv 4)))) (nomark _)) (dss_cons (ds_ret de_bl)
    dss_nil) dss_nil)
    dss_nil))
    dss_nil))
    (dss_cons (ds_ret de_bl)
    dss_nil))))
abbrev s_same_ratio : Stmt := topS 22
abbrev N_same_ratio : List Str := ["first", "second", "sides", "others", "i", "j"]
theorem sc_same_ratio : FnScope N_same_ratio ["first", "second"] (defScope s_same_ratio) := ⟨rfl, rfl, rfl, by decide +kernel, rfl, by decide +kernel, by decide +kernel⟩
noncomputable def g_same_ratio : S := (sSeq (sDrop (M.bind (aCons (eVar 0) (M.pure [])) (callN 1 m_check_drawn)))
    (sSeq (sDrop (M.bind (aCons (eVar 1) (M.pure [])) (callN 1 m_check_drawn)))
    (sSeq (sAsg (M.bind (aCons (eMeth "Pen" "sides" 1 m_Pen_sides (eVar 0) (M.pure [])) (aCons (eMeth "Pen" "sides" 1 m_Pen_sides (eVar 1) (M.pure [])) (M.pure []))) mkT) (bTup 2 (bCons (bName 2) (bCons (bName 3) bNil))))
    (sSeq (sRet (eCall fAll (aCons (eComp2 (iRange1 (aCons (eC (.int 6)) (M.pure []))) (bName 4) (M.pure true) (iRange1 (aCons (eVar 4) (M.pure []))) (bName 5) (M.pure true) (eBin dEq (eBin dMulX (eItemN 2 (eVar 4)) (eItemN 3 (eVar 5))) (eBin dMulX (eItemN 2 (eVar 5)) (eItemN 3 (eVar 4)))) [4, 5] [5]) (M.pure []))))
    sNx))))
noncomputable def m_same_ratio : List D → RR := runF 2 6 g_same_ratio
theorem ok_same_ratio {f : Addr} {fd : FuncData} (F : Fun K "same_ratio" "same_ratio" s_same_ratio f fd) (h_check_drawn : FnG P w K mg base "check_drawn" 3 1 ["pen"] m_check_drawn) (mm_Pen_sides : MethG P w K mg base "Pen" "sides" 2 1 ["self"] m_Pen_sides) (z_range : mg "range" = none) (z_all : mg "all" = none) : FnOk P w K mg base (L2.CX P w) 4 f fd ["first", "second"] (spD K mg 2 m_same_ratio) :=
  fn_ok (k := 3) F sc_same_ratio rfl rfl fun cdv A outer s H E hr tk =>
    have sc := sc_same_ratio
    (dss_cons (ds_expr (de_callG h_check_drawn tk hr (by decide) rfl (da_cons (de_var (pv 0)) da_nil)))
    (dss_cons (ds_expr (de_callG h_check_drawn tk hr (by decide) rfl (da_cons (de_var (pv 1)) da_nil)))
    (dss_cons (ds_asg (vl := [2, 3]) (de_tup (da_cons (de_meth0 mm_Pen_sides tk hr (by decide) (de_var (pv 0))) (da_cons (de_meth0 mm_Pen_sides tk hr (by decide) (de_var (pv 1))) da_nil))) (dg_tup rfl (dgs_cons (dg_name (i := 2) (by decide) sc.nd rfl (by first | exact Or.inl rfl | exact Or.inr rfl)) (dgs_cons (dg_name (i := 3) (by decide) sc.nd rfl (by first | exact Or.inl rfl | exact Or.inr rfl)) dgs_nil))))
    (dss_cons (ds_ret (de_all rfl rfl z_all (da_cons (de_comp2 (own := [("i", 4), ("j", 5)]) (vl1 := [5]) rfl sc.nd (di_range1 rfl z_range (da_cons de_int da_nil)) (blkOk_by (N := N_same_ratio) (sc := (defScope s_same_ratio)) (by decide +kernel)) (by decide) (fun _ _ _ _ _ => (dg_name (i := 4) (by decide) sc.nd rfl (by first | exact Or.inl rfl | exact Or.inr rfl))) (fun _ _ _ _ _ => dts_nil) (fun _ _ _ _ _ => (di_range1 rfl z_range (da_cons (de_var (pv 4)) da_nil))) (fun _ _ _ _ _ => (dg_name (i := 5) (by decide) sc.nd rfl (by first | exact Or.inl rfl | exact Or.inr rfl))) (fun _ _ _ _ _ => dts_nil) (fun _ _ _ _ _ => (de_cmp (op_eqD (room64 hr)) s_eq (de_op op_mulX s_mulX (de_itemN (pv 2) (de_var (pv 4))) (de_itemN (pv 3) (de_var (pv 5)))) (de_op op_mulX s_mulX (de_itemN (pv 2) (de_var (pv 5))) (de_itemN (pv 3) (de_var (pv 4)))) (nomark _)))) da_nil)))
    dss_nil))))
abbrev s_u_law_drawn_fits : Stmt := topS 37
abbrev N_u_law_drawn_fits : List Str := ["_law_r", "_law_s", "_law_one", "_law_two", "_law_areas", "_law_cross", "_law_told", "_law_due", "_law_ratio_here", "_law_rim", "_law_sides_here"]
theorem sc_u_law_drawn_fits : FnScope N_u_law_drawn_fits ["_law_r", "_law_s"] (defScope s_u_law_drawn_fits) := ⟨rfl, rfl, rfl, by decide +kernel, rfl, by decide +kernel, by decide +kernel⟩
noncomputable def g_u_law_drawn_fits : S := (sSeq (sAsg (eMakeN "Pen" 1 1 0 pl_Pen_1 m_Pen_uu_init__ (aCons (eVar 0) (M.pure [])) (M.pure [])) (bName 2))
    (sSeq (sAsg (eMakeN "Pen" 1 1 0 pl_Pen_1 m_Pen_uu_init__ (aCons (eVar 1) (M.pure [])) (M.pure [])) (bName 3))
    (sSeq (sOwn 4 (aCons (M.bind (aCons (eVar 0) (aCons (eVar 0) (M.pure []))) (callN 2 m_u_law_mixed)) (aCons (M.bind (aCons (eVar 1) (aCons (eVar 1) (M.pure []))) (callN 2 m_u_law_mixed)) (M.pure []))))
    (sSeq (sAsg (M.bind (aCons (eVar 0) (aCons (eVar 1) (M.pure []))) (callN 2 m_u_law_mixed)) (bName 5))
    (sSeq (sAsg (eBin dSub (eBin dMulX (eVar 5) (eVar 5)) (eBin dMulX (eItemN 4 (eC (.int 0))) (eItemN 4 (eC (.int 1))))) (bName 5))
    (sSeq (sAsg (M.bind (aCons (eVar 2) (aCons (eVar 3) (M.pure []))) (callN 2 m_spare)) (bName 6))
    (sSeq (sIf (bOr (bNot (asB (M.bind (aCons (eVar 6) (aCons (eVar 5) (M.pure []))) (callN 2 (m_u_law_same 5))))) (asB (eBin dLt (eVar 6) (eC (.int 0))))) (sSeq (sRet (eC (.bl false)))
    sNx) sNx)
    (sSeq (sIf (bNot (asB (M.bind (aCons (eCallK 0 ["second", "first"] [1, 0] 2 m_spare (M.pure []) (aCons (eVar 3) (aCons (eVar 2) (M.pure [])))) (aCons (eVar 5) (M.pure []))) (callN 2 (m_u_law_same 5))))) (sSeq (sRet (eC (.bl false)))
    sNx) sNx)
    (sSeq (sAsg (M.bind (aCons (eVar 0) (aCons (eVar 1) (M.pure []))) (callN 2 m_u_law_ratio)) (bName 7))
    (sSeq (sAsg (M.bind (aCons (eVar 2) (aCons (eVar 3) (M.pure []))) (callN 2 m_same_ratio)) (bName 8))
    (sSeq (sIf (bNot (asB (M.bind (aCons (M.bind (aCons (eVar 8) (aCons (eCallK 0 ["second", "first"] [1, 0] 2 m_same_ratio (M.pure []) (aCons (eVar 3) (aCons (eVar 2) (M.pure [])))) (M.pure []))) mkL) (aCons (M.bind (aCons (eVar 7) (aCons (eVar 7) (M.pure []))) mkL) (M.pure []))) (callN 2 (m_u_law_same 5))))) (sSeq (sRet (eC (.bl false)))
    sNx) sNx)
    (sSeq (sIf (bAnd (asB (eBin dGt (eItemN 4 (eC (.int 0))) (eC (.int 0)))) (bAnd (asB (eBin dGt (eItemN 4 (eC (.int 1))) (eC (.int 0)))) (asB (eBin dNe (eVar 8) (eBin dEq (eVar 6) (eC (.int 0))))))) (sSeq (sRet (eC (.bl false)))
    sNx) sNx)
    (sSeq (sAsg (eProp "Pen" m_Pen_rim (eVar 2)) (bName 9))
    (sSeq (sIf (bOr (bNot (asB (M.bind (aCons (eProp "Pen" m_Pen_area (eVar 2)) (aCons (eItemN 4 (eC (.int 0))) (M.pure []))) (callN 2 (m_u_law_same 5))))) (asB (eBin dLt (eBin dMulX (eVar 9) (eVar 9)) (eBin dMulX (eC (.int 6)) (eProp "Pen" m_Pen_area (eVar 2)))))) (sSeq (sRet (eC (.bl false)))
    sNx) sNx)
    (sSeq (sAsg (M.bind (aCons (eVar 0) (M.pure [])) (callN 1 m_u_law_sides)) (bName 10))
    (sSeq (sRet (eBin dEq (eBin dEq (eBin dMulX (eVar 9) (eVar 9)) (eBin dMulX (eC (.int 6)) (eProp "Pen" m_Pen_area (eVar 2)))) (eBin dEq (eCall fMin1 (aCons (eVar 10) (M.pure []))) (eCall fMax1 (aCons (eVar 10) (M.pure []))))))
    sNx))))))))))))))))
noncomputable def m_u_law_drawn_fits : List D → RR := runF 2 11 g_u_law_drawn_fits
theorem ok_u_law_drawn_fits {f : Addr} {fd : FuncData} (F : Fun K "_law_drawn_fits" "_law_drawn_fits" s_u_law_drawn_fits f fd) (mn_Pen_1 : MkN P w K mg base "Pen" 2 1 1 ["self", "reaches"] [] pl_Pen_1 m_Pen_uu_init__) (h_u_law_mixed : FnG P w K mg base "_law_mixed" 3 2 ["_law_r", "_law_s"] m_u_law_mixed) (h_spare : FnG P w K mg base "spare" 5 2 ["first", "second"] m_spare) (h_u_law_same : FnG P w K mg base "_law_same" 7 2 ["_law_told", "_law_due"] (m_u_law_same 5)) (k_spare_sf : FnK P w K mg base "spare" 5 2 ["first", "second"] m_spare 0 ["second", "first"] [1, 0]) (h_u_law_ratio : FnG P w K mg base "_law_ratio" 3 2 ["_law_r", "_law_s"] m_u_law_ratio) (h_same_ratio : FnG P w K mg base "same_ratio" 4 2 ["first", "second"] m_same_ratio) (k_same_ratio_sf : FnK P w K mg base "same_ratio" 4 2 ["first", "second"] m_same_ratio 0 ["second", "first"] [1, 0]) (mp_Pen_rim : PropG P w K mg base "Pen" "rim" 3 ["self"] m_Pen_rim) (mp_Pen_area : PropG P w K mg base "Pen" "area" 3 ["self"] m_Pen_area) (h_u_law_sides : FnG P w K mg base "_law_sides" 2 1 ["_law_r"] m_u_law_sides) (z_min : mg "min" = none) (z_max : mg "max" = none) : FnOk P w K mg base (L2.CX P w) 8 f fd ["_law_r", "_law_s"] (spD K mg 2 m_u_law_drawn_fits) :=
  fn_ok (k := 7) F sc_u_law_drawn_fits rfl rfl fun cdv A outer s H E hr tk =>
    have sc := sc_u_law_drawn_fits
    (dss_cons (ds_set (i := 2) sc.nd rfl (by first | exact Or.inl rfl | exact Or.inr rfl) (de_makeD tk mn_Pen_1 hr (by decide) rfl (da_cons (de_var (pv 0)) da_nil)))
    (dss_cons (ds_set (i := 3) sc.nd rfl (by first | exact Or.inl rfl | exact Or.inr rfl) (de_makeD tk mn_Pen_1 hr (by decide) rfl (da_cons (de_var (pv 1)) da_nil)))
    (dss_cons (ds_own (i := 4) sc.nd rfl (by first | exact Or.inl rfl | exact Or.inr rfl) (da_cons (de_callG h_u_law_mixed tk hr (by decide) rfl (da_cons (de_var (pv 0)) (da_cons (de_var (pv 0)) da_nil))) (da_cons (de_callG h_u_law_mixed tk hr (by decide) rfl (da_cons (de_var (pv 1)) (da_cons (de_var (pv 1)) da_nil))) da_nil)))
    (dss_cons (ds_set (i := 5) sc.nd rfl (by first | exact Or.inl rfl | exact Or.inr rfl) (de_callG h_u_law_mixed tk hr (by decide) rfl (da_cons (de_var (pv 0)) (da_cons (de_var (pv 1)) da_nil))))
    (dss_cons (ds_set (i := 5) sc.nd rfl (by first | exact Or.inl rfl | exact Or.inr rfl) (de_op op_sub s_sub (de_op op_mulX s_mulX (de_var (pv 5)) (de_var (pv 5))) (de_op op_mulX s_mulX (de_itemN (pv 4) de_int) (de_itemN (pv 4) de_int))))
    (dss_cons (ds_set (i := 6) sc.nd rfl (by first | exact Or.inl rfl | exact Or.inr rfl) (de_callG h_spare tk hr (by decide) rfl (da_cons (de_var (pv 2)) (da_cons (de_var (pv 3)) da_nil))))
    (dss_cons (ds_if (dt_w (dt_or (dt_not (dt_val (de_callG h_u_law_same tk hr (by decide) rfl (da_cons (de_var (pv 6)) (da_cons (de_var (pv 5)) da_nil))))) (dt_or1 (dt_cmp op_lt s_lt (de_var (pv 6)) de_int (nomark _))))) (dss_cons (ds_ret de_bl)
    dss_nil) dss_nil)
    (dss_cons (ds_if (dt_not (dt_val (de_callG h_u_law_same tk hr (by decide) rfl (da_cons (de_callK0 k_spare_sf tk hr (by decide) rfl (dk_cons (de_var (pv 3)) (dk_cons (de_var (pv 2)) dk_nil))) (da_cons (de_var (pv 5)) da_nil))))) (dss_cons (ds_ret de_bl)
    dss_nil) dss_nil)
    (dss_cons (ds_set (i := 7) sc.nd rfl (by first | exact Or.inl rfl | exact Or.inr rfl) (de_callG h_u_law_ratio tk hr (by decide) rfl (da_cons (de_var (pv 0)) (da_cons (de_var (pv 1)) da_nil))))
    (dss_cons (ds_set (i := 8) sc.nd rfl (by first | exact Or.inl rfl | exact Or.inr rfl) (de_callG h_same_ratio tk hr (by decide) rfl (da_cons (de_var (pv 2)) (da_cons (de_var (pv 3)) da_nil))))
    (dss_cons (ds_if (dt_not (dt_val (de_callG h_u_law_same tk hr (by decide) rfl (da_cons (de_lst (da_cons (de_var (pv 8)) (da_cons (de_callK0 k_same_ratio_sf tk hr (by decide) rfl (dk_cons (de_var (pv 3)) (dk_cons (de_var (pv 2)) dk_nil))) da_nil))) (da_cons (de_lst (da_cons (de_var (pv 7)) (da_cons (de_var (pv 7)) da_nil))) da_nil))))) (dss_cons (ds_ret de_bl)
    dss_nil) dss_nil)
    (dss_cons (ds_if (dt_w (dt_and (dt_cmp op_gt s_gt (de_itemN (pv 4) de_int) de_int (nomark _)) (dt_and (dt_cmp op_gt s_gt (de_itemN (pv 4) de_int) de_int (nomark _)) (dt_and1 (dt_cmp (op_neD (room64 hr)) s_ne (de_var (pv 8)) (de_cmp (op_eqD (room64 hr)) s_eq (de_var (pv 6)) de_int (nomark _)) (nomark _)))))) (dss_cons (ds_ret de_bl)
    dss_nil) dss_nil)
    (dss_cons (ds_set (i := 9) sc.nd rfl (by first | exact Or.inl rfl | exact Or.inr rfl) (de_prop mp_Pen_rim hr (by decide) (de_var (pv 2))))
    (dss_cons (ds_if (dt_w (dt_or (dt_not (dt_val (de_callG h_u_law_same tk hr (by decide) rfl (da_cons (de_prop mp_Pen_area hr (by decide) (de_var (pv 2))) (da_cons (de_itemN (pv 4) de_int) da_nil))))) (dt_or1 (dt_cmp op_lt s_lt (de_op op_mulX s_mulX (de_var (pv 9)) (de_var (pv 9))) (de_op op_mulX s_mulX de_int (de_prop mp_Pen_area hr (by decide) (de_var (pv 2)))) (nomark _))))) (dss_cons (ds_ret de_bl)
    dss_nil) dss_nil)
    (dss_cons (ds_set (i := 10) sc.nd rfl (by first | exact Or.inl rfl | exact Or.inr rfl) (de_callG h_u_law_sides tk hr (by decide) rfl (da_cons (de_var (pv 0)) da_nil)))
    (dss_cons (ds_ret (de_cmp (op_eqD (room64 hr)) s_eq (de_cmp (op_eqD (room64 hr)) s_eq (de_op op_mulX s_mulX (de_var (pv 9)) (de_var (pv 9))) (de_op op_mulX s_mulX de_int (de_prop mp_Pen_area hr (by decide) (de_var (pv 2)))) (nomark _)) (de_cmp (op_eqD (room64 hr)) s_eq (de_min1 rfl rfl z_min (da_cons (de_var (pv 10)) da_nil)) (de_max1 rfl rfl z_max (da_cons (de_var (pv 10)) da_nil)) (nomark _)) (nomark _)))
    dss_nil))))))))))))))))
end
section
variable {P : Program} {w : World} {K : PySem.W.Frag} {mg : Str → Option Value} {base : Heap}
abbrev s_u_law_refusal : Stmt := topS 29
abbrev N_u_law_refusal : List Str := ["_law_act", "_law_told", "e"]
theorem sc_u_law_refusal : FnScope N_u_law_refusal ["_law_act"] (defScope s_u_law_refusal) := ⟨rfl, rfl, rfl, by decide +kernel, rfl, by decide +kernel, by decide +kernel⟩
noncomputable def gR_u_law_refusal (d0 : D) (r : RR) : S := (sSeq (sOwn 1 (M.pure []))
    (sSeq (sTry known 2 (sSeq (sDrop (eAct d0 r))
    sNx) (fun ea ed ex => (sSeq (sIf (bNot (asB (eIsX ea ed (isaB ex.cls "ValueError") (eVar 2)))) (sSeq (sRet (M.bind (aCons (eC (.str "no ValueError")) (M.pure [])) mkL))
    sNx) sNx)
    (sSeq (sIf (asB (eIsX ea ed (isaB ex.cls "NotDrawn") (eVar 2))) (sSeq (sMut 1 fApp isL (aCons (M.bind (aCons (eC (.str "side")) (aCons (eFldX ea ed "side" (eVar 2)) (M.pure []))) mkT) (M.pure [])))
    sNx) sNx)
    (sSeq (sIf (asB (eIsX ea ed (isaB ex.cls "BadCount") (eVar 2))) (sSeq (sMut 1 fApp isL (aCons (M.bind (aCons (eC (.str "count")) (aCons (eFldX ea ed "count" (eVar 2)) (M.pure []))) mkT) (M.pure [])))
    sNx) sNx)
    (sSeq (sIf (asB (eIsX ea ed (isaB ex.cls "Nowhere") (eVar 2))) (sSeq (sMut 1 fApp isL (aCons (M.bind (aCons (eC (.str "nowhere")) (M.pure [])) mkT) (M.pure [])))
    sNx) sNx)
    sNx))))))
    (sSeq (sRet (eVar 1))
    sNx)))
theorem gl_u_law_refusal {g : Addr} {cdv : Value} (z_isinstance : mg "isinstance" = none) (z_ValueError : mg "ValueError" = none) {CX_DrawingError : Addr} (x_DrawingError : mg "DrawingError" = some (.ref CX_DrawingError) ∧ Catches K mg (.ref CX_DrawingError) known) (xf : XFacts K mg known isaB XTs XFs) : GivesL P w K mg base N_u_law_refusal "_law_refusal" (defScope s_u_law_refusal) g cdv (defBody s_u_law_refusal) "_law_act" 10 gR_u_law_refusal := fun A outer s H E d0 r hr hact =>
    have sc := sc_u_law_refusal
    have tk := takes_of (X := cxOf (L2.CX P w) P w K mg base N_u_law_refusal "_law_refusal" (defScope s_u_law_refusal) g cdv A outer s H E) rfl rfl rfl rfl
    (dss_cons (ds_own (i := 1) sc.nd rfl (by first | exact Or.inl rfl | exact Or.inr rfl) da_nil)
    (dss_cons (ds_try (i := 2) (gs := fun ea ed ex => (sSeq (sIf (bNot (asB (eIsX ea ed (isaB ex.cls "ValueError") (eVar 2)))) (sSeq (sRet (M.bind (aCons (eC (.str "no ValueError")) (M.pure [])) mkL))
    sNx) sNx)
    (sSeq (sIf (asB (eIsX ea ed (isaB ex.cls "NotDrawn") (eVar 2))) (sSeq (sMut 1 fApp isL (aCons (M.bind (aCons (eC (.str "side")) (aCons (eFldX ea ed "side" (eVar 2)) (M.pure []))) mkT) (M.pure [])))
    sNx) sNx)
    (sSeq (sIf (asB (eIsX ea ed (isaB ex.cls "BadCount") (eVar 2))) (sSeq (sMut 1 fApp isL (aCons (M.bind (aCons (eC (.str "count")) (aCons (eFldX ea ed "count" (eVar 2)) (M.pure []))) mkT) (M.pure [])))
    sNx) sNx)
    (sSeq (sIf (asB (eIsX ea ed (isaB ex.cls "Nowhere") (eVar 2))) (sSeq (sMut 1 fApp isL (aCons (M.bind (aCons (eC (.str "nowhere")) (M.pure [])) mkT) (M.pure [])))
    sNx) sNx)
    sNx))))) rfl rfl sc.nd rfl rfl ⟨rfl, by decide, .inl x_DrawingError.1⟩ tk x_DrawingError.2 (fun W pn xe tkw _ => (dss_cons (ds_expr (hact W pn xe _ _ tkw))
    dss_nil)) (fun ea oe Dc ed pn ex hkn hD hz hfd => (dss_cons (ds_if (dt_not (dt_val (de_isXv xf hkn hD hz hfd rfl z_isinstance (de_var (pv 2)) rfl z_ValueError))) (dss_cons (ds_ret (de_lst (da_cons de_str da_nil)))
    dss_nil) dss_nil)
    (dss_cons (ds_if (dt_val (de_isXo xf hkn hD hz hfd rfl z_isinstance (de_var (pv 2)) (by decide) rfl)) (dss_cons (ds_app (pv 1) (da_cons (de_tup (da_cons de_str (da_cons (de_fldXo xf hkn hD hz hfd (de_var (pv 2)) (by decide)) da_nil))) da_nil))
    dss_nil) dss_nil)
    (dss_cons (ds_if (dt_val (de_isXo xf hkn hD hz hfd rfl z_isinstance (de_var (pv 2)) (by decide) rfl)) (dss_cons (ds_app (pv 1) (da_cons (de_tup (da_cons de_str (da_cons (de_fldXo xf hkn hD hz hfd (de_var (pv 2)) (by decide)) da_nil))) da_nil))
    dss_nil) dss_nil)
    (dss_cons (ds_if (dt_val (de_isXo xf hkn hD hz hfd rfl z_isinstance (de_var (pv 2)) (by decide) rfl)) (dss_cons (ds_app (pv 1) (da_cons (de_tup (da_cons de_str da_nil)) da_nil))
    dss_nil) dss_nil)
    dss_nil))))))
    (dss_cons (ds_ret (de_var (pv 1)))
    dss_nil)))
abbrev s_u_law_refused : Stmt := topS 38
abbrev N_u_law_refused : List Str := ["_law_r", "_law_s", "_law_side", "_law_one", "_law_two", "_law_told"]
theorem sc_u_law_refused : FnScope N_u_law_refused ["_law_r", "_law_s", "_law_side"] (defScope s_u_law_refused) := ⟨rfl, rfl, rfl, by decide +kernel, rfl, by decide +kernel, by decide +kernel⟩
noncomputable def g_u_law_refused : S := (sSeq (sAsg (eMakeN "Pen" 1 1 0 pl_Pen_1 m_Pen_uu_init__ (aCons (eVar 0) (M.pure [])) (M.pure [])) (bName 3))
    (sSeq (sAsg (eMakeN "Pen" 1 1 0 pl_Pen_1 m_Pen_uu_init__ (aCons (eVar 1) (M.pure [])) (M.pure [])) (bName 4))
    (sSeq (sOwn 5 (aCons (eLam [3, 4] m_u_law_refusal (M.bind (aCons (eVar 0) (aCons (eVar 1) (M.pure []))) (callN 2 m_spare))) (M.pure [])))
    (sSeq (sMut 5 fApp isL (aCons (eLam [3, 4] m_u_law_refusal (M.bind (aCons (eVar 0) (aCons (eVar 1) (M.pure []))) (callN 2 m_same_ratio))) (M.pure [])))
    (sSeq (sRet (M.bind (aCons (eVar 5) (aCons (M.bind (aCons (M.bind (aCons (M.bind (aCons (eC (.str "side")) (aCons (eVar 2) (M.pure []))) mkT) (M.pure [])) mkL) (aCons (M.bind (aCons (M.bind (aCons (eC (.str "side")) (aCons (eVar 2) (M.pure []))) mkT) (M.pure [])) mkL) (M.pure []))) mkL) (M.pure []))) (callN 2 (m_u_law_same 5))))
    sNx)))))
noncomputable def m_u_law_refused : List D → RR := runF 3 6 g_u_law_refused
theorem ok_u_law_refused {f : Addr} {fd : FuncData} (F : Fun K "_law_refused" "_law_refused" s_u_law_refused f fd) (cf : CodeF mg base fd.code "_law_refused") (mn_Pen_1 : MkN P w K mg base "Pen" 2 1 1 ["self", "reaches"] [] pl_Pen_1 m_Pen_uu_init__) (h_spare : FnG P w K mg base "spare" 5 2 ["first", "second"] m_spare) (l_u_law_refusal : FnL P w K mg base "_law_refusal" 10 m_u_law_refusal) (h_same_ratio : FnG P w K mg base "same_ratio" 4 2 ["first", "second"] m_same_ratio) (h_u_law_same : FnG P w K mg base "_law_same" 7 2 ["_law_told", "_law_due"] (m_u_law_same 5)) : FnOk P w K mg base (L2.CX P w) 12 f fd ["_law_r", "_law_s", "_law_side"] (spD K mg 3 m_u_law_refused) :=
  fn_okT (k := 11) F cf sc_u_law_refused rfl rfl fun cdv A outer s H E hr tk tm =>
    have sc := sc_u_law_refused
    (dss_cons (ds_set (i := 3) sc.nd rfl (by first | exact Or.inl rfl | exact Or.inr rfl) (de_makeD tk mn_Pen_1 hr (by decide) rfl (da_cons (de_var (pv 0)) da_nil)))
    (dss_cons (ds_set (i := 4) sc.nd rfl (by first | exact Or.inl rfl | exact Or.inr rfl) (de_makeD tk mn_Pen_1 hr (by decide) rfl (da_cons (de_var (pv 1)) da_nil)))
    (dss_cons (ds_own (i := 5) sc.nd rfl (by first | exact Or.inl rfl | exact Or.inr rfl) (da_cons (de_lam (lev := 9) (fr := ["_law_one", "_law_two"]) (js := [3, 4]) l_u_law_refusal tm tk hr (by decide) rfl (NdefX.nscope_by (by decide +kernel)) (NdefX.ndef_free (sc := defScope s_u_law_refused) (fr := ["_law_one", "_law_two"]) (by decide +kernel)) (NdefX.ndef_fr (sc := defScope s_u_law_refused) (by decide +kernel)) (by rfl) (hbody := fun A outer s H E f c' hr tkl => (de_callG h_spare tkl hr (by decide) rfl (da_cons (de_var (pv 0)) (da_cons (de_var (pv 1)) da_nil))))) da_nil))
    (dss_cons (ds_app (pv 5) (da_cons (de_lam (lev := 9) (fr := ["_law_one", "_law_two"]) (js := [3, 4]) l_u_law_refusal tm tk hr (by decide) rfl (NdefX.nscope_by (by decide +kernel)) (NdefX.ndef_free (sc := defScope s_u_law_refused) (fr := ["_law_one", "_law_two"]) (by decide +kernel)) (NdefX.ndef_fr (sc := defScope s_u_law_refused) (by decide +kernel)) (by rfl) (hbody := fun A outer s H E f c' hr tkl => (de_callG h_same_ratio tkl hr (by decide) rfl (da_cons (de_var (pv 0)) (da_cons (de_var (pv 1)) da_nil))))) da_nil))
    (dss_cons (ds_ret (de_callG h_u_law_same tk hr (by decide) rfl (da_cons (de_var (pv 5)) (da_cons (de_lst (da_cons (de_lst (da_cons (de_tup (da_cons de_str (da_cons (de_var (pv 2)) da_nil))) da_nil)) (da_cons (de_lst (da_cons (de_tup (da_cons de_str (da_cons (de_var (pv 2)) da_nil))) da_nil)) da_nil))) da_nil))))
    dss_nil)))))
abbrev s_u_law_pair_fits : Stmt := topS 39
abbrev N_u_law_pair_fits : List Str := ["_law_r", "_law_s", "_law_below", "_law_k"]
theorem sc_u_law_pair_fits : FnScope N_u_law_pair_fits ["_law_r", "_law_s"] (defScope s_u_law_pair_fits) := ⟨rfl, rfl, rfl, by decide +kernel, rfl, by decide +kernel, by decide +kernel⟩
noncomputable def g_u_law_pair_fits : S := (sSeq (sComp 2 (iRange1 (aCons (eC (.int 6)) (M.pure []))) (bName 3) (asB (eBin dLt (eBin dIx (M.bind (aCons (eVar 0) (M.pure [])) (callN 1 m_u_law_sides)) (eVar 3)) (eC (.int 0)))) (eVar 3) [3])
    (sSeq (sAsg (eBin dCat (eVar 2) (eComp (iRange1 (aCons (eC (.int 6)) (M.pure []))) (bName 3) (asB (eBin dLt (eBin dIx (M.bind (aCons (eVar 1) (M.pure [])) (callN 1 m_u_law_sides)) (eVar 3)) (eC (.int 0)))) (eVar 3) [3])) (bName 2))
    (sSeq (sIf (asB (eBin dNe (eVar 2) (M.bind (M.pure []) mkL))) (sSeq (sRet (M.bind (aCons (eVar 0) (aCons (eVar 1) (aCons (eItemN 2 (eC (.int 0))) (M.pure [])))) (callN 3 m_u_law_refused)))
    sNx) sNx)
    (sSeq (sRet (M.bind (aCons (eVar 0) (aCons (eVar 1) (M.pure []))) (callN 2 m_u_law_drawn_fits)))
    sNx))))
noncomputable def m_u_law_pair_fits : List D → RR := runF 2 4 g_u_law_pair_fits
theorem ok_u_law_pair_fits {f : Addr} {fd : FuncData} (F : Fun K "_law_pair_fits" "_law_pair_fits" s_u_law_pair_fits f fd) (z_range : mg "range" = none) (h_u_law_sides : FnG P w K mg base "_law_sides" 2 1 ["_law_r"] m_u_law_sides) (h_u_law_refused : FnG P w K mg base "_law_refused" 12 3 ["_law_r", "_law_s", "_law_side"] m_u_law_refused) (h_u_law_drawn_fits : FnG P w K mg base "_law_drawn_fits" 8 2 ["_law_r", "_law_s"] m_u_law_drawn_fits) : FnOk P w K mg base (L2.CX P w) 13 f fd ["_law_r", "_law_s"] (spD K mg 2 m_u_law_pair_fits) :=
  fn_ok (k := 12) F sc_u_law_pair_fits rfl rfl fun cdv A outer s H E hr tk =>
    have sc := sc_u_law_pair_fits
    (dss_cons (ds_comp (i := 2) (y := "_law_below") rfl (by first | rfl) (sw_true rfl rfl rfl (by decide +kernel)) (own := [("_law_k", 3)]) rfl sc.nd (di_range1 rfl z_range (da_cons de_int da_nil)) (blkOk_by (N := N_u_law_pair_fits) (sc := (defScope s_u_law_pair_fits)) (by decide +kernel)) (fun _ _ _ _ _ => (dg_name (i := 3) (by decide) sc.nd rfl (by first | exact Or.inl rfl | exact Or.inr rfl))) (fun _ _ _ _ _ => (dts_one (dt_cmp op_lt s_lt (de_item (de_callG h_u_law_sides takes0p hr (by decide) rfl (da_cons (de_var (pv 0)) da_nil)) (de_var (pv 3))) de_int (nomark _)))) (fun _ _ _ _ _ => (de_var (pv 3))))
    (dss_cons (ds_set (i := 2) sc.nd rfl (by first | exact Or.inl rfl | exact Or.inr rfl) (de_op op_plus s_plus (de_var (pv 2)) (de_comp (own := [("_law_k", 3)]) rfl sc.nd (di_range1 rfl z_range (da_cons de_int da_nil)) (blkOk_by (N := N_u_law_pair_fits) (sc := (defScope s_u_law_pair_fits)) (by decide +kernel)) (fun _ _ _ _ _ => (dg_name (i := 3) (by decide) sc.nd rfl (by first | exact Or.inl rfl | exact Or.inr rfl))) (fun _ _ _ _ _ => (dts_one (dt_cmp op_lt s_lt (de_item (de_callG h_u_law_sides takes0p hr (by decide) rfl (da_cons (de_var (pv 1)) da_nil)) (de_var (pv 3))) de_int (nomark _)))) (fun _ _ _ _ _ => (de_var (pv 3))))))
    (dss_cons (ds_if (dt_cmp (op_neD (room64 hr)) s_ne (de_var (pv 2)) (de_lst da_nil) (nomark _)) (dss_cons (ds_ret (de_callG h_u_law_refused tk hr (by decide) rfl (da_cons (de_var (pv 0)) (da_cons (de_var (pv 1)) (da_cons (de_itemN (pv 2) de_int) da_nil)))))
    dss_nil) dss_nil)
    (dss_cons (ds_ret (de_callG h_u_law_drawn_fits tk hr (by decide) rfl (da_cons (de_var (pv 0)) (da_cons (de_var (pv 1)) da_nil))))
    dss_nil))))
abbrev s_u_law_corners : Stmt := topS 28
abbrev N_u_law_corners : List Str := ["_law_c", "_law_shapes", "_law_a", "_law_b"]
theorem sc_u_law_corners : FnScope N_u_law_corners ["_law_c"] (defScope s_u_law_corners) := ⟨rfl, rfl, rfl, by decide +kernel, rfl, by decide +kernel, by decide +kernel⟩
noncomputable def g_u_law_corners : S := (sSeq (sDict 1 [.inr "d", .inr "e", .inr "n", .inr "w"] [(M.bind (aCons (M.bind (aCons (eC (.int 0)) (aCons (eC (.int 0)) (M.pure []))) mkT) (M.pure [])) mkL), (M.bind (aCons (M.bind (aCons (eC (.int 0)) (aCons (eC (.int 0)) (M.pure []))) mkT) (aCons (M.bind (aCons (eC (.int 1)) (aCons (eC (.int 0)) (M.pure []))) mkT) (M.pure []))) mkL), (M.bind (aCons (M.bind (aCons (eC (.int 0)) (aCons (eC (.int 0)) (M.pure []))) mkT) (aCons (M.bind (aCons (eC (.int 0)) (aCons (eC (.int 1)) (M.pure []))) mkT) (M.pure []))) mkL), (M.bind (aCons (M.bind (aCons (dNeg (eC (.int 1))) (aCons (eC (.int 1)) (M.pure []))) mkT) (aCons (M.bind (aCons (eC (.int 0)) (aCons (eC (.int 0)) (M.pure []))) mkT) (M.pure []))) mkL)])
    (sSeq (sPutK 1 (.inr "u") (M.bind (aCons (M.bind (aCons (eC (.int 0)) (aCons (eC (.int 0)) (M.pure []))) mkT) (aCons (M.bind (aCons (eC (.int 0)) (aCons (eC (.int 1)) (M.pure []))) mkT) (aCons (M.bind (aCons (eC (.int 1)) (aCons (eC (.int 0)) (M.pure []))) mkT) (M.pure [])))) mkL))
    (sSeq (sPutK 1 (.inr "v") (M.bind (aCons (M.bind (aCons (dNeg (eC (.int 1))) (aCons (eC (.int 1)) (M.pure []))) mkT) (aCons (M.bind (aCons (eC (.int 0)) (aCons (eC (.int 0)) (M.pure []))) mkT) (aCons (M.bind (aCons (eC (.int 0)) (aCons (eC (.int 1)) (M.pure []))) mkT) (M.pure [])))) mkL))
    (sSeq (sRet (eComp (items (eGetK 1 (eItemN 0 (eC (.int 2))))) (bTup 2 (bCons (bName 2) (bCons (bName 3) bNil))) (M.pure true) (M.bind (aCons (eBin dCat (eItemN 0 (eC (.int 0))) (eVar 2)) (aCons (eBin dCat (eItemN 0 (eC (.int 1))) (eVar 3)) (M.pure []))) mkT) [2, 3]))
    sNx))))
noncomputable def m_u_law_corners : List D → RR := runF 1 4 g_u_law_corners
theorem ok_u_law_corners {f : Addr} {fd : FuncData} (F : Fun K "_law_corners" "_law_corners" s_u_law_corners f fd)  : FnOk P w K mg base (L2.CX P w) 2 f fd ["_law_c"] (spD K mg 1 m_u_law_corners) :=
  fn_ok (k := 1) F sc_u_law_corners rfl rfl fun cdv A outer s H E hr tk =>
    have sc := sc_u_law_corners
    (dss_cons (ds_dict (i := 1) (kk := [.inr "d", .inr "e", .inr "n", .inr "w"]) sc.nd rfl (by first | exact Or.inl rfl | exact Or.inr rfl) (.cons (de_lst (da_cons (de_tup (da_cons de_int (da_cons de_int da_nil))) da_nil)) (.cons (de_lst (da_cons (de_tup (da_cons de_int (da_cons de_int da_nil))) (da_cons (de_tup (da_cons de_int (da_cons de_int da_nil))) da_nil))) (.cons (de_lst (da_cons (de_tup (da_cons de_int (da_cons de_int da_nil))) (da_cons (de_tup (da_cons de_int (da_cons de_int da_nil))) da_nil))) (.cons (de_lst (da_cons (de_tup (da_cons (de_neg de_int) (da_cons de_int da_nil))) (da_cons (de_tup (da_cons de_int (da_cons de_int da_nil))) da_nil))) .nil)))))
    (dss_cons (ds_putK hr (pv 1) (de_lst (da_cons (de_tup (da_cons de_int (da_cons de_int da_nil))) (da_cons (de_tup (da_cons de_int (da_cons de_int da_nil))) (da_cons (de_tup (da_cons de_int (da_cons de_int da_nil))) da_nil)))))
    (dss_cons (ds_putK hr (pv 1) (de_lst (da_cons (de_tup (da_cons (de_neg de_int) (da_cons de_int da_nil))) (da_cons (de_tup (da_cons de_int (da_cons de_int da_nil))) (da_cons (de_tup (da_cons de_int (da_cons de_int da_nil))) da_nil)))))
    (dss_cons (ds_ret (de_comp (own := [("_law_a", 2), ("_law_b", 3)]) rfl sc.nd (di_seq (de_getK hr (pv 1) (de_itemN (pv 0) de_int))) (blkOk_by (N := N_u_law_corners) (sc := (defScope s_u_law_corners)) (by decide +kernel)) (fun _ _ _ _ _ => (dg_tup rfl (dgs_cons (dg_name (i := 2) (by decide) sc.nd rfl (by first | exact Or.inl rfl | exact Or.inr rfl)) (dgs_cons (dg_name (i := 3) (by decide) sc.nd rfl (by first | exact Or.inl rfl | exact Or.inr rfl)) dgs_nil)))) (fun _ _ _ _ _ => dts_nil) (fun _ _ _ _ _ => (de_tup (da_cons (de_op op_plus s_plus (de_itemN (pv 0) de_int) (de_var (pv 2))) (da_cons (de_op op_plus s_plus (de_itemN (pv 0) de_int) (de_var (pv 3))) da_nil))))))
    dss_nil))))
abbrev s_u_law_unit : Stmt := topS 31
abbrev N_u_law_unit : List Str := ["_law_letter", "_law_mine", "_law_i", "_law_one"]
theorem sc_u_law_unit : FnScope N_u_law_unit ["_law_letter"] (defScope s_u_law_unit) := ⟨rfl, rfl, rfl, by decide +kernel, rfl, by decide +kernel, by decide +kernel⟩
noncomputable def g_u_law_unit : S := (sSeq (sAsg (M.bind (aCons (M.bind (aCons (eC (.int 0)) (aCons (eC (.int 0)) (aCons (eVar 0) (M.pure [])))) mkT) (M.pure [])) (callN 1 m_u_law_corners)) (bName 1))
    (sSeq (sRet (eComp (iRange1 (aCons (eC (.int 6)) (M.pure []))) (bName 2) (M.pure true) (eCall fMax1 (aCons (eComp (items (eVar 1)) (bName 3) (M.pure true) (M.bind (aCons (eVar 2) (aCons (eVar 3) (M.pure []))) (callN 2 m_u_law_line)) [3]) (M.pure []))) [2]))
    sNx))
noncomputable def m_u_law_unit : List D → RR := runF 1 4 g_u_law_unit
theorem ok_u_law_unit {f : Addr} {fd : FuncData} (F : Fun K "_law_unit" "_law_unit" s_u_law_unit f fd) (h_u_law_corners : FnG P w K mg base "_law_corners" 2 1 ["_law_c"] m_u_law_corners) (z_range : mg "range" = none) (h_u_law_line : FnG P w K mg base "_law_line" 2 2 ["_law_i", "_law_p"] m_u_law_line) (z_max : mg "max" = none) : FnOk P w K mg base (L2.CX P w) 3 f fd ["_law_letter"] (spD K mg 1 m_u_law_unit) :=
  fn_ok (k := 2) F sc_u_law_unit rfl rfl fun cdv A outer s H E hr tk =>
    have sc := sc_u_law_unit
    (dss_cons (ds_set (i := 1) sc.nd rfl (by first | exact Or.inl rfl | exact Or.inr rfl) (de_callG h_u_law_corners tk hr (by decide) rfl (da_cons (de_tup (da_cons de_int (da_cons de_int (da_cons (de_var (pv 0)) da_nil)))) da_nil)))
    (dss_cons (ds_ret (de_comp (own := [("_law_i", 2)]) rfl sc.nd (di_range1 rfl z_range (da_cons de_int da_nil)) (blkOk_by (N := N_u_law_unit) (sc := (defScope s_u_law_unit)) (by decide +kernel)) (fun _ _ _ _ _ => (dg_name (i := 2) (by decide) sc.nd rfl (by first | exact Or.inl rfl | exact Or.inr rfl))) (fun _ _ _ _ _ => dts_nil) (fun _ _ _ _ _ => (de_max1 rfl rfl z_max (da_cons (de_comp (own := [("_law_one", 3)]) rfl sc.nd (di_seq (de_var (pv 1))) (blkOk_by (by kernel_rfl)) (fun _ _ _ _ _ => (dg_name (i := 3) (by decide) sc.nd rfl (by first | exact Or.inl rfl | exact Or.inr rfl))) (fun _ _ _ _ _ => dts_nil) (fun _ _ _ _ _ => (de_callG h_u_law_line takes0p hr (by decide) rfl (da_cons (de_var (pv 2)) (da_cons (de_var (pv 3)) da_nil))))) da_nil)))))
    dss_nil))
abbrev s_u_law_cooked : Stmt := topS 32
abbrev N_u_law_cooked : List Str := ["_law_pot", "_law_shift", "_law_r", "_law_only", "_law_k", "_law_many", "_law_unit_here", "_law_i"]
theorem sc_u_law_cooked : FnScope N_u_law_cooked ["_law_pot", "_law_shift"] (defScope s_u_law_cooked) := ⟨rfl, rfl, rfl, by decide +kernel, rfl, by decide +kernel, by decide +kernel⟩
noncomputable def g_u_law_cooked : S := (sSeq (sOwn 2 (aCons (eC (.int 0)) (aCons (eC (.int 0)) (aCons (eC (.int 0)) (aCons (eC (.int 0)) (aCons (eC (.int 0)) (aCons (eC (.int 0)) (M.pure []))))))))
    (sSeq (sAsg (eCallO 0 1 m_u_law_draw (aCons (eC (.int 8)) (M.pure []))) (bName 3))
    (sSeq (sFor (iRange1 (aCons (eC (.int 5)) (M.pure []))) (bName 4) (sSeq (sAsg (eBin dMod (eCall fInt (aCons (eBin dCat (eBin dCat (eCallO 0 1 m_u_law_draw (aCons (eC (.int 4)) (M.pure []))) (eVar 1)) (eVar 4)) (M.pure []))) (eC (.int 4))) (bName 5))
    (sSeq (sIf (bOr (asB (eBin dLt (eVar 3) (eC (.int 3)))) (asB (eBin dEq (eBin dSub (eVar 3) (eC (.int 3))) (eVar 4)))) (sSeq (sAsg (M.bind (aCons (eBin dIx (eC (.str "enwuv")) (eVar 4)) (M.pure [])) (callN 1 m_u_law_unit)) (bName 6))
    (sSeq (sAsg (eComp (iRange1 (aCons (eC (.int 6)) (M.pure []))) (bName 7) (M.pure true) (eBin dCat (eItemN 2 (eVar 7)) (eBin dMulX (eVar 5) (eItemN 6 (eVar 7)))) [7]) (bName 2))
    sNx)) sNx)
    sNx)))
    (sSeq (sRet (eVar 2))
    sNx))))
noncomputable def m_u_law_cooked : MO → List D → RO := runO 1 8 g_u_law_cooked
theorem ok_u_law_cooked {f : Addr} {fd : FuncData} (F : Fun K "_law_cooked" "_law_cooked" s_u_law_cooked f fd) (h_u_law_draw : FnO P w K mg base "_law_draw" 2 1 ["_law_pot", "_law_many"] m_u_law_draw) (z_range : mg "range" = none) (z_int : mg "int" = none) (h_u_law_unit : FnG P w K mg base "_law_unit" 3 1 ["_law_letter"] m_u_law_unit) : FnOk P w K mg base (L2.CX P w) 4 f fd ["_law_pot", "_law_shift"] (spO K 1 m_u_law_cooked) :=
  fnO_ok (k := 3) F sc_u_law_cooked rfl rfl fun cdv A outer s H E hr tk =>
    have sc := sc_u_law_cooked
    (dss_cons (ds_own (i := 2) sc.nd rfl (by first | exact Or.inl rfl | exact Or.inr rfl) (da_cons de_int (da_cons de_int (da_cons de_int (da_cons de_int (da_cons de_int (da_cons de_int da_nil)))))))
    (dss_cons (ds_set (i := 3) sc.nd rfl (by first | exact Or.inl rfl | exact Or.inr rfl) (de_callO h_u_law_draw tk hr (by decide) rfl (pv 0) (da_cons de_int da_nil)))
    (dss_cons (ds_for (vl := [4]) (passes_of rfl) rfl (di_range1 rfl z_range (da_cons de_int da_nil)) (dg_name (i := 4) (by decide) sc.nd rfl (by first | exact Or.inl rfl | exact Or.inr rfl)) (dss_cons (ds_set (i := 5) sc.nd rfl (by first | exact Or.inl rfl | exact Or.inr rfl) (de_op op_mod s_mod (de_intC rfl z_int (da_cons (de_op op_plus s_plus (de_op op_plus s_plus (de_callO h_u_law_draw tk hr (by decide) rfl (pv 0) (da_cons de_int da_nil)) (de_var (pv 1))) (de_var (pv 4))) da_nil)) de_int))
    (dss_cons (ds_if (dt_w (dt_or (dt_cmp op_lt s_lt (de_var (pv 3)) de_int (nomark _)) (dt_or1 (dt_cmp (op_eqD (room64 hr)) s_eq (de_op op_sub s_sub (de_var (pv 3)) de_int) (de_var (pv 4)) (nomark _))))) (dss_cons (ds_set (i := 6) sc.nd rfl (by first | exact Or.inl rfl | exact Or.inr rfl) (de_callG h_u_law_unit tk hr (by decide) rfl (da_cons (de_item de_str (de_var (pv 4))) da_nil)))
    (dss_cons (ds_set (i := 2) sc.nd rfl (by first | exact Or.inl rfl | exact Or.inr rfl) (de_comp (own := [("_law_i", 7)]) rfl sc.nd (di_range1 rfl z_range (da_cons de_int da_nil)) (blkOk_by (N := N_u_law_cooked) (sc := (defScope s_u_law_cooked)) (by decide +kernel)) (fun _ _ _ _ _ => (dg_name (i := 7) (by decide) sc.nd rfl (by first | exact Or.inl rfl | exact Or.inr rfl))) (fun _ _ _ _ _ => dts_nil) (fun _ _ _ _ _ => (de_op op_plus s_plus (de_itemN (pv 2) (de_var (pv 7))) (de_op op_mulX s_mulX (de_var (pv 5)) (de_itemN (pv 6) (de_var (pv 7))))))))
    dss_nil)) dss_nil)
    dss_nil)))
    (dss_cons (ds_ret (de_var (pv 2)))
    dss_nil))))
abbrev s_law : Stmt := topS 40
abbrev N_law : List Str := ["_law_script", "_law_pot", "_law_pick", "_law_mode", "_law_n", "_law_p", "_law_r", "_law_s", "_law_c", "_law_k", "_law_reach"]
theorem sc_law : FnScope N_law ["_law_script"] (defScope s_law) := ⟨rfl, rfl, rfl, by decide +kernel, rfl, by decide +kernel, by decide +kernel⟩
noncomputable def g_law : S := (sSeq (sComp 1 (items (M.bind (eVar 0) fun d => opt (dTake 63 d))) (bName 8) (M.pure true) (eIf (asB (eBin dGe (eVar 8) (eC (.int 0)))) (eVar 8) (eBin dSub (dNeg (eVar 8)) (eC (.int 1)))) [8])
    (sSeq (sAsg (eCallO 1 1 m_u_law_draw (aCons (eC (.int 5)) (M.pure []))) (bName 2))
    (sSeq (sAsg (eCallO 1 1 m_u_law_draw (aCons (eC (.int 2)) (M.pure []))) (bName 3))
    (sSeq (sAsg (eBin dCat (eC (.int 1)) (eCallO 1 1 m_u_law_draw (aCons (eBin dIx (M.bind (aCons (eC (.int 3)) (aCons (eBin dPow (eC (.int 10)) (eC (.int 30))) (M.pure []))) mkL) (eVar 3)) (M.pure [])))) (bName 4))
    (sSeq (sAsg (M.bind (aCons (eCallO 1 2 m_u_law_number (aCons (eVar 3) (aCons (eC (.int 1)) (M.pure [])))) (aCons (eCallO 1 2 m_u_law_number (aCons (eVar 3) (aCons (eC (.int 6)) (M.pure [])))) (M.pure []))) mkT) (bName 5))
    (sSeq (sIf (asB (eBin dEq (eVar 2) (eC (.int 2)))) (sSeq (sAsg (M.bind (aCons (eComp (iRange1 (aCons (eC (.int 6)) (M.pure []))) (bName 9) (M.pure true) (eVar 4) [9]) (aCons (eVar 5) (M.pure []))) (callN 2 m_u_law_moved)) (bName 6))
    sNx) (sSeq (sIf (asB (eBin dEq (eVar 2) (eC (.int 4)))) (sSeq (sComp 6 (iRange1 (aCons (eC (.int 6)) (M.pure []))) (bName 9) (M.pure true) (eBin dSub (eBin dMod (eCall fInt (aCons (eBin dCat (eCallO 1 1 m_u_law_draw (aCons (eC (.int 9)) (M.pure []))) (eBin dIx (M.bind (aCons (eC (.int 2)) (aCons (eC (.int 1)) (aCons (eC (.int 4)) (aCons (eC (.int 3)) (aCons (eC (.int 5)) (aCons (eC (.int 4)) (M.pure []))))))) mkL) (eVar 9))) (M.pure []))) (eC (.int 9))) (eC (.int 4))) [9])
    sNx) (sSeq (sAsg (eCallO 1 1 m_u_law_cooked (aCons (eC (.int 1)) (M.pure []))) (bName 6))
    sNx))
    sNx))
    (sSeq (sIf (asB (eBin dEq (eVar 2) (eC (.int 1)))) (sSeq (sAsg (M.bind (aCons (eComp (items (eVar 6)) (bName 10) (M.pure true) (eBin dMulX (eVar 4) (eVar 10)) [10]) (aCons (eVar 5) (M.pure []))) (callN 2 m_u_law_moved)) (bName 7))
    sNx) (sSeq (sIf (asB (eBin dGe (eVar 2) (eC (.int 3)))) (sSeq (sComp 7 (iRange1 (aCons (eC (.int 6)) (M.pure []))) (bName 9) (M.pure true) (eBin dSub (eBin dMod (eCall fInt (aCons (eBin dCat (eCallO 1 1 m_u_law_draw (aCons (eC (.int 9)) (M.pure []))) (eBin dIx (M.bind (aCons (eC (.int 6)) (aCons (eC (.int 7)) (aCons (eC (.int 5)) (aCons (eC (.int 6)) (aCons (eC (.int 4)) (aCons (eC (.int 7)) (M.pure []))))))) mkL) (eVar 9))) (M.pure []))) (eC (.int 9))) (eC (.int 4))) [9])
    sNx) (sSeq (sAsg (eCallO 1 1 m_u_law_cooked (aCons (eC (.int 2)) (M.pure []))) (bName 7))
    sNx))
    sNx))
    (sSeq (sIf (bNot (asB (M.bind (aCons (eVar 6) (aCons (eVar 7) (aCons (eVar 5) (aCons (eVar 4) (M.pure []))))) (callN 4 m_u_law_mixed_fits)))) (sSeq (sRet (eC (.bl false)))
    sNx) sNx)
    (sSeq (sIf (bNot (asB (M.bind (aCons (eVar 7) (aCons (eVar 6) (aCons (eVar 5) (aCons (dNeg (eVar 4)) (M.pure []))))) (callN 4 m_u_law_mixed_fits)))) (sSeq (sRet (eC (.bl false)))
    sNx) sNx)
    (sSeq (sRet (vAnd (M.bind (aCons (eVar 6) (aCons (eVar 7) (M.pure []))) (callN 2 m_u_law_pair_fits)) (vAnd (M.bind (aCons (eVar 7) (aCons (eVar 6) (M.pure []))) (callN 2 m_u_law_pair_fits)) (M.bind (aCons (eVar 6) (aCons (eVar 6) (M.pure []))) (callN 2 m_u_law_pair_fits)))))
    sNx))))))))))
noncomputable def m_law : List D → RR := runF 1 11 g_law
theorem ok_law {f : Addr} {fd : FuncData} (F : Fun K "law" "law" s_law f fd) (h_u_law_draw : FnO P w K mg base "_law_draw" 2 1 ["_law_pot", "_law_many"] m_u_law_draw) (h_u_law_number : FnO P w K mg base "_law_number" 3 2 ["_law_pot", "_law_mode", "_law_shift"] m_u_law_number) (z_range : mg "range" = none) (h_u_law_moved : FnG P w K mg base "_law_moved" 3 2 ["_law_r", "_law_p"] m_u_law_moved) (z_int : mg "int" = none) (h_u_law_cooked : FnO P w K mg base "_law_cooked" 4 1 ["_law_pot", "_law_shift"] m_u_law_cooked) (h_u_law_mixed_fits : FnG P w K mg base "_law_mixed_fits" 8 4 ["_law_r", "_law_s", "_law_p", "_law_n"] m_u_law_mixed_fits) (h_u_law_pair_fits : FnG P w K mg base "_law_pair_fits" 13 2 ["_law_r", "_law_s"] m_u_law_pair_fits) : FnOk P w K mg base (L2.CX P w) 14 f fd ["_law_script"] (spD K mg 1 m_law) :=
  fn_ok (k := 13) F sc_law rfl rfl fun cdv A outer s H E hr tk =>
    have sc := sc_law
    (dss_cons (ds_compC (i := 1) (y := "_law_pot") rfl (by first | exact Or.inl rfl | exact Or.inr rfl) (own := [("_law_c", 8)]) rfl sc.nd (di_seq (de_take (de_var (pv 0)))) (blkOk_by (N := N_law) (sc := (defScope s_law)) (by decide +kernel)) (fun _ _ _ _ _ => (dg_name (i := 8) (by decide) sc.nd rfl (by first | exact Or.inl rfl | exact Or.inr rfl))) (fun _ _ _ _ _ => dts_nil) (fun _ _ _ _ _ => (de_if (dt_cmp op_ge s_ge (de_var (pv 8)) de_int (nomark _)) (de_var (pv 8)) (de_op op_sub s_sub (de_neg (de_var (pv 8))) de_int))))
    (dss_cons (ds_set (i := 2) sc.nd rfl (by first | exact Or.inl rfl | exact Or.inr rfl) (de_callO h_u_law_draw tk hr (by decide) rfl (pv 1) (da_cons de_int da_nil)))
    (dss_cons (ds_set (i := 3) sc.nd rfl (by first | exact Or.inl rfl | exact Or.inr rfl) (de_callO h_u_law_draw tk hr (by decide) rfl (pv 1) (da_cons de_int da_nil)))
    (dss_cons (ds_set (i := 4) sc.nd rfl (by first | exact Or.inl rfl | exact Or.inr rfl) (de_op op_plus s_plus de_int (de_callO h_u_law_draw tk hr (by decide) rfl (pv 1) (da_cons (de_item (de_lst (da_cons de_int (da_cons (de_op op_pow s_pow de_int de_int) da_nil))) (de_var (pv 3))) da_nil))))
    (dss_cons (ds_set (i := 5) sc.nd rfl (by first | exact Or.inl rfl | exact Or.inr rfl) (de_tup (da_cons (de_callO h_u_law_number tk hr (by decide) rfl (pv 1) (da_cons (de_var (pv 3)) (da_cons de_int da_nil))) (da_cons (de_callO h_u_law_number tk hr (by decide) rfl (pv 1) (da_cons (de_var (pv 3)) (da_cons de_int da_nil))) da_nil))))
    (dss_cons (ds_if (dt_cmp (op_eqD (room64 hr)) s_eq (de_var (pv 2)) de_int (nomark _)) (dss_cons (ds_set (i := 6) sc.nd rfl (by first | exact Or.inl rfl | exact Or.inr rfl) (de_callG h_u_law_moved tk hr (by decide) rfl (da_cons (de_comp (own := [("_law_k", 9)]) rfl sc.nd (di_range1 rfl z_range (da_cons de_int da_nil)) (blkOk_by (N := N_law) (sc := (defScope s_law)) (by decide +kernel)) (fun _ _ _ _ _ => (dg_name (i := 9) (by decide) sc.nd rfl (by first | exact Or.inl rfl | exact Or.inr rfl))) (fun _ _ _ _ _ => dts_nil) (fun _ _ _ _ _ => (de_var (pv 4)))) (da_cons (de_var (pv 5)) da_nil))))
    dss_nil) (dss_cons (ds_if (dt_cmp (op_eqD (room64 hr)) s_eq (de_var (pv 2)) de_int (nomark _)) (dss_cons (ds_comp (i := 6) (y := "_law_r") rfl (by first | rfl) (sw_true rfl rfl rfl (by decide +kernel)) (own := [("_law_k", 9)]) rfl sc.nd (di_range1 rfl z_range (da_cons de_int da_nil)) (blkOk_by (N := N_law) (sc := (defScope s_law)) (by decide +kernel)) (fun _ _ _ _ _ => (dg_name (i := 9) (by decide) sc.nd rfl (by first | exact Or.inl rfl | exact Or.inr rfl))) (fun _ _ _ _ _ => dts_nil) (fun _ _ _ _ _ => (de_op op_sub s_sub (de_op op_mod s_mod (de_intC rfl z_int (da_cons (de_op op_plus s_plus (de_callO h_u_law_draw takes0p hr (by decide) rfl (pv 1) (da_cons de_int da_nil)) (de_item (de_lst (da_cons de_int (da_cons de_int (da_cons de_int (da_cons de_int (da_cons de_int (da_cons de_int da_nil))))))) (de_var (pv 9)))) da_nil)) de_int) de_int)))
    dss_nil) (dss_cons (ds_set (i := 6) sc.nd rfl (by first | exact Or.inl rfl | exact Or.inr rfl) (de_callO h_u_law_cooked tk hr (by decide) rfl (pv 1) (da_cons de_int da_nil)))
    dss_nil))
    dss_nil))
    (dss_cons (ds_if (dt_cmp (op_eqD (room64 hr)) s_eq (de_var (pv 2)) de_int (nomark _)) (dss_cons (ds_set (i := 7) sc.nd rfl (by first | exact Or.inl rfl | exact Or.inr rfl) (de_callG h_u_law_moved tk hr (by decide) rfl (da_cons (de_comp (own := [("_law_reach", 10)]) rfl sc.nd (di_seq (de_var (pv 6))) (blkOk_by (N := N_law) (sc := (defScope s_law)) (by decide +kernel)) (fun _ _ _ _ _ => (dg_name (i := 10) (by decide) sc.nd rfl (by first | exact Or.inl rfl | exact Or.inr rfl))) (fun _ _ _ _ _ => dts_nil) (fun _ _ _ _ _ => (de_op op_mulX s_mulX (de_var (pv 4)) (de_var (pv 10))))) (da_cons (de_var (pv 5)) da_nil))))
    dss_nil) (dss_cons (ds_if (dt_cmp op_ge s_ge (de_var (pv 2)) de_int (nomark _)) (dss_cons (ds_comp (i := 7) (y := "_law_s") rfl (by first | rfl) (sw_true rfl rfl rfl (by decide +kernel)) (own := [("_law_k", 9)]) rfl sc.nd (di_range1 rfl z_range (da_cons de_int da_nil)) (blkOk_by (N := N_law) (sc := (defScope s_law)) (by decide +kernel)) (fun _ _ _ _ _ => (dg_name (i := 9) (by decide) sc.nd rfl (by first | exact Or.inl rfl | exact Or.inr rfl))) (fun _ _ _ _ _ => dts_nil) (fun _ _ _ _ _ => (de_op op_sub s_sub (de_op op_mod s_mod (de_intC rfl z_int (da_cons (de_op op_plus s_plus (de_callO h_u_law_draw takes0p hr (by decide) rfl (pv 1) (da_cons de_int da_nil)) (de_item (de_lst (da_cons de_int (da_cons de_int (da_cons de_int (da_cons de_int (da_cons de_int (da_cons de_int da_nil))))))) (de_var (pv 9)))) da_nil)) de_int) de_int)))
    dss_nil) (dss_cons (ds_set (i := 7) sc.nd rfl (by first | exact Or.inl rfl | exact Or.inr rfl) (de_callO h_u_law_cooked tk hr (by decide) rfl (pv 1) (da_cons de_int da_nil)))
    dss_nil))
    dss_nil))
    (dss_cons (ds_if (dt_not (dt_val (de_callG h_u_law_mixed_fits tk hr (by decide) rfl (da_cons (de_var (pv 6)) (da_cons (de_var (pv 7)) (da_cons (de_var (pv 5)) (da_cons (de_var (pv 4)) da_nil))))))) (dss_cons (ds_ret de_bl)
    dss_nil) dss_nil)
    (dss_cons (ds_if (dt_not (dt_val (de_callG h_u_law_mixed_fits tk hr (by decide) rfl (da_cons (de_var (pv 7)) (da_cons (de_var (pv 6)) (da_cons (de_var (pv 5)) (da_cons (de_neg (de_var (pv 4))) da_nil))))))) (dss_cons (ds_ret de_bl)
    dss_nil) dss_nil)
    (dss_cons (ds_ret (de_and (de_callG h_u_law_pair_fits tk hr (by decide) rfl (da_cons (de_var (pv 6)) (da_cons (de_var (pv 7)) da_nil))) (de_and (de_callG h_u_law_pair_fits tk hr (by decide) rfl (da_cons (de_var (pv 7)) (da_cons (de_var (pv 6)) da_nil))) (de_one (de_callG h_u_law_pair_fits tk hr (by decide) rfl (da_cons (de_var (pv 6)) (da_cons (de_var (pv 6)) da_nil)))))))
    dss_nil))))))))))
end
end T
set_option Elab.async false
set_option linter.all false
set_option maxRecDepth 100000
set_option maxHeartbeats 4000000
namespace T
open PySem PySem.Spec PyProof.Rows L2 LamX PL
variable [Tbls]
abbrev P2 (a b : Int) : D := .tup [.int a, .int b]
theorem atI_nat {α : Type} {l : List α} {i : Nat} {x : α} (h : l[i]? = some x) : atI l (i : Int) = some x := by
  have hi : i < l.length := (List.getElem?_eq_some_iff.mp h).1
  unfold atI ixN
  rw [if_pos (by omega), if_pos (by omega)]
  simpa using h
theorem ints_mem {d : D} : ∀ {n : Nat} {lo : Int}, d ∈ PL.intsFrom lo n → ∃ i : Nat, i < n ∧ d = .int (lo + i)
  | 0, _, h => by rw [PL.intsFrom] at h; cases h
  | n + 1, lo, h => by
    rw [PL.intsFrom] at h
    rcases List.mem_cons.mp h with rfl | h
    · exact ⟨0, by omega, by simp⟩
    · obtain ⟨i, h1, rfl⟩ := ints_mem h
      exact ⟨i + 1, by omega, by rw [show lo + 1 + (i : Int) = lo + ((i + 1 : Nat) : Int) by omega]⟩
theorem ints_len : ∀ {n : Nat} {lo : Int}, (PL.intsFrom lo n).length = n
  | 0, _ => rfl
  | n + 1, lo => by rw [PL.intsFrom, List.length_cons, ints_len]
theorem bl_rep : ∀ n : Nat, fAll [.lst (List.replicate n (.bl true))] = some (.bl true) := fun n => by
  have h : ∀ n : Nat, blAll (List.replicate n (.bl true)) = some (List.replicate n true) := by
    intro n
    induction n with
    | zero => rfl
    | succ n ih => rw [List.replicate_succ, blAll, ih]; rfl
  unfold fAll
  dsimp only
  rw [h]
  simp
theorem map_const {l : List D} : (l.map fun _ => D.bl true) = List.replicate l.length (.bl true) := by
  induction l with
  | nil => rfl
  | cons x l ih => rw [List.map_cons, ih]; rfl
theorem same_seq {k : Nat} {l : List D} {d : D} (hd : d = .tup l ∨ d = .lst l) (h : ∀ x ∈ l, m_u_law_same k [x, x] = .ok (.bl true)) (hl : l.length ≤ 1000) : m_u_law_same (k + 1) [d, d] = .ok (.bl true) := by
  have f1 : dIsN d = some (.bl false) := by rcases hd with rfl | rfl <;> rfl
  have f2 : fIsi [d, .val (.ty "bool")] = some (.bl false) := by rcases hd with rfl | rfl <;> kernel_rfl
  have f3 : fIsi [d, .val (.ty "int")] = some (.bl false) := by rcases hd with rfl | rfl <;> kernel_rfl
  have f4 : fIsi [d, .val (.ty "str")] = some (.bl false) := by rcases hd with rfl | rfl <;> kernel_rfl
  obtain ⟨b5, f5⟩ : ∃ b, fIsi [d, .val (.ty "tuple")] = some (.bl b) := by rcases hd with rfl | rfl; exact ⟨true, by kernel_rfl⟩; exact ⟨false, by kernel_rfl⟩
  obtain ⟨b6, f6⟩ : ∃ b, fIsi [d, .val (.ty "list")] = some (.bl b) := by rcases hd with rfl | rfl; exact ⟨false, by kernel_rfl⟩; exact ⟨true, by kernel_rfl⟩
  have f7 : fLen [d] = some (.int l.length) := by rcases hd with rfl | rfl <;> rfl
  have f8 : rng1 [.int (l.length : Int)] = some (PL.intsFrom 0 l.length) := by
    simp only [rng1]
    rw [if_pos (by constructor <;> omega)]
    simp
  have f9 : loopC (bName 2) (M.pure true) (M.bind (aCons (eItemN 0 (eVar 2)) (aCons (eItemN 1 (eVar 2)) (M.pure []))) (callN 2 (m_u_law_same k))) [2] (PL.intsFrom 0 l.length) [] [.im d, .im d, .no] = .ok (List.replicate l.length (.bl true)) [.im d, .im d, .no] := by
    have e := loopC_all (bd := bName 2) (gt := M.pure true) (ge := M.bind (aCons (eItemN 0 (eVar 2)) (aCons (eItemN 1 (eVar 2)) (M.pure []))) (callN 2 (m_u_law_same k))) (vl := [2]) (δ := [.im d, .im d, .no]) (t := fun _ => true) (f := fun _ => .bl true) (ds := PL.intsFrom 0 l.length) (acc := []) (fun x hx => ?_) (by rw [ints_len, LIM_eq, List.length_nil]; omega)
    · rw [e]
      have e2 : (PL.intsFrom 0 l.length).filter (fun _ => true) = PL.intsFrom 0 l.length := List.filter_eq_self.mpr fun _ _ => rfl
      simp only [e2, List.nil_append, map_const, ints_len]
    · obtain ⟨i, hi, rfl⟩ := ints_mem hx
      obtain ⟨y, hy⟩ : ∃ y, l[i]? = some y := ⟨l[i], List.getElem?_eq_getElem hi⟩
      have g1 : dIx d (.int (0 + (i : Int))) = some y := by
        rw [show (0 : Int) + (i : Int) = i by omega]
        rcases hd with rfl | rfl <;> exact atI_nat hy
      have g2 := h y (List.mem_of_getElem? hy)
      refine ⟨[.im d, .im d, .im (.int (0 + (i : Int)))], [.im d, .im d, .im (.int (0 + (i : Int)))], rfl, rfl, rfl, fun _ => ⟨[.im d, .im d, .im (.int (0 + (i : Int)))], ?_, rfl⟩⟩
      simp (implicitDefEqProofs := false) (maxSteps := 100000000) (disch := omega) only [c_bind, bnd_ok, bnd_err, r_pure, r_c, ifb_t, ifb_f, ifk_ok, c_eif, c_if, c_or, c_and, toB_ok, c_asB, ntk_ok, c_not, ntv_ok, c_vnot, ifv_ok, c_vand, c_vor, opk_ok, r_opt, c_bin, nowk_im, nowk_ow, nowk_io, c_itemN, c_binN, c_acons, vark_im, vark_ow, c_var, c_call0, callk_ok, callk_err, r_call1, r_call2, r_call3, c_callK, pick10, pick01, pick0,
      ownk_ow, ownk_io, rok_ok, c_callO, tabk_s, c_tab, seqk_nx, seqk_ret, seqk_brk, seqk_cnt, seqk_err, c_seq, r_nx, c_ret, c_drop, somek_ok, c_asg, r_btup2, r_btup3, obk_ok, r_bcons, r_bnil, c_for, r_loop0, r_loop, lp1_ok, lp2_nx, lp2_cnt, lp2_brk, lp2_ret, mutk_ok, c_mut, setk_ok, lk_ok, c_setI, olk_ok, c_rng1, runk_ret, runk_nx, runk_err, r_run, runok_ret, r_runO,
      eqI, neI, neB, eqB, catI, subI, gtI, ltI, leI, geI, modI, ngk_ok, c_neg, intI, ixt20, ixt21, ixt30, ixt31, ixt32, rng_6, rng_9, b_eqT, b_eqF, b_ltT, b_ltF, b_leT, b_leF, r_name, r_mkT, r_mkL, c_own, LIM_eq,
      List.getElem?_cons_succ, List.getElem?_cons_zero, List.set_cons_succ, List.set_cons_zero, List.length_cons, List.length_nil, List.map_cons, List.map_nil, List.replicate_succ, List.replicate_zero, List.cons_append, List.nil_append, Nat.reduceAdd, Nat.reduceSub, Nat.reduceLT, Nat.reduceEqDiff, Nat.reduceLeDiff, if_true, ite_true, ite_false, ↓reduceIte, true_and, and_true, and_self, Bool.not_true, Bool.not_false, beq_self_eq_true, Int.reduceLT, Int.reduceBEq, Int.reduceMod, Int.reduceAdd, Int.reduceSub, Int.reduceNeg, Int.reduceLE, decide_true, decide_false, r_lc0, r_lc, lc1_ok, lc2_f, lc2_t, lc3_ok, c_comp, c_scomp, wipe0, wipe1, c_key, kyk_l, kyj_ok, kyi_ok, r_keys0, r_keys, kok_ok, r_cap0, r_cap, cpk_ok, arg0, arg1, arg2, ltK_eq, gtK_eq, kAt0, kAt1, kAt2, c_lam, lmk_ok, lmj_ok, r_thunk, thk_ok, thk_err, chk_t, chk_f, c_chain, c_raise1, err1_ok, MOd, put_0i, put_0o, put_s, itk_l, itk_t, c_items, r_app, r_isL, c_fld, c_prop, prk_ok, okD_ok, c_meth, c_methK, c_makeN, c_statK, c_tupk, tupl_l, c_zipP, zpk_ok, c_enumP, enk_ok, c_comp2, zip6, enum6, Bool.false_eq_true, *]
  have f10 := bl_rep l.length
  have f11 : ((l.length : Int) == (l.length : Int)) = true := by simp
  have f12 : (b5 == b5) = true := by simp
  have f13 : (b6 == b6) = true := by simp
  unfold m_u_law_same g_u_law_same
  simp (implicitDefEqProofs := false) (maxSteps := 100000000) (disch := omega) only [c_bind, bnd_ok, bnd_err, r_pure, r_c, ifb_t, ifb_f, ifk_ok, c_eif, c_if, c_or, c_and, toB_ok, c_asB, ntk_ok, c_not, ntv_ok, c_vnot, ifv_ok, c_vand, c_vor, opk_ok, r_opt, c_bin, nowk_im, nowk_ow, nowk_io, c_itemN, c_binN, c_acons, vark_im, vark_ow, c_var, c_call0, callk_ok, callk_err, r_call1, r_call2, r_call3, c_callK, pick10, pick01, pick0,
      ownk_ow, ownk_io, rok_ok, c_callO, tabk_s, c_tab, seqk_nx, seqk_ret, seqk_brk, seqk_cnt, seqk_err, c_seq, r_nx, c_ret, c_drop, somek_ok, c_asg, r_btup2, r_btup3, obk_ok, r_bcons, r_bnil, c_for, r_loop0, r_loop, lp1_ok, lp2_nx, lp2_cnt, lp2_brk, lp2_ret, mutk_ok, c_mut, setk_ok, lk_ok, c_setI, olk_ok, c_rng1, runk_ret, runk_nx, runk_err, r_run, runok_ret, r_runO,
      eqI, neI, neB, eqB, catI, subI, gtI, ltI, leI, geI, modI, ngk_ok, c_neg, intI, ixt20, ixt21, ixt30, ixt31, ixt32, rng_6, rng_9, b_eqT, b_eqF, b_ltT, b_ltF, b_leT, b_leF, r_name, r_mkT, r_mkL, c_own, LIM_eq,
      List.getElem?_cons_succ, List.getElem?_cons_zero, List.set_cons_succ, List.set_cons_zero, List.length_cons, List.length_nil, List.map_cons, List.map_nil, List.replicate_succ, List.replicate_zero, List.cons_append, List.nil_append, Nat.reduceAdd, Nat.reduceSub, Nat.reduceLT, Nat.reduceEqDiff, Nat.reduceLeDiff, if_true, ite_true, ite_false, ↓reduceIte, true_and, and_true, and_self, Bool.not_true, Bool.not_false, beq_self_eq_true, Int.reduceLT, Int.reduceBEq, Int.reduceMod, Int.reduceAdd, Int.reduceSub, Int.reduceNeg, Int.reduceLE, decide_true, decide_false, r_lc0, r_lc, lc1_ok, lc2_f, lc2_t, lc3_ok, c_comp, c_scomp, wipe0, wipe1, c_key, kyk_l, kyj_ok, kyi_ok, r_keys0, r_keys, kok_ok, r_cap0, r_cap, cpk_ok, arg0, arg1, arg2, ltK_eq, gtK_eq, kAt0, kAt1, kAt2, c_lam, lmk_ok, lmj_ok, r_thunk, thk_ok, thk_err, chk_t, chk_f, c_chain, c_raise1, err1_ok, MOd, put_0i, put_0o, put_s, itk_l, itk_t, c_items, r_app, r_isL, c_fld, c_prop, prk_ok, okD_ok, c_meth, c_methK, c_makeN, c_statK, c_tupk, tupl_l, c_zipP, zpk_ok, c_enumP, enk_ok, c_comp2, zip6, enum6, Bool.false_eq_true, *]
theorem same_int {k : Nat} {a b : Int} (h : a = b) : m_u_law_same (k + 1) [.int a, .int b] = .ok (.bl true) := by
  subst h
  have e : m_u_law_same (k + 1) [.int a, .int a] = .ok (.bl (a == a)) := by kernel_rfl
  rw [e]; simp
theorem same_str {k : Nat} {a : Str} (h : PyData.strOk a = true) : m_u_law_same (k + 1) [.str a, .str a] = .ok (.bl true) := by
  have f1 : dEq (.str a) (.str a) = some (.bl true) := by
    unfold dEq dEqB
    have : SeqAt.shaped (.str a) = true := by
      unfold SeqAt.shaped PyData.canLay0 PyData.depth
      rw [h]; rfl
    simp only [D.py, this, PyData.eqv, Bool.and_self, if_true, beq_self_eq_true]
  have f2 : dIsN (.str a) = some (.bl false) := rfl
  have f3 : fIsi [.str a, .val (.ty "bool")] = some (.bl false) := by kernel_rfl
  have f4 : fIsi [.str a, .val (.ty "int")] = some (.bl false) := by kernel_rfl
  have f5 : fIsi [.str a, .val (.ty "str")] = some (.bl true) := by kernel_rfl
  unfold m_u_law_same g_u_law_same
  simp (implicitDefEqProofs := false) (maxSteps := 100000000) (disch := omega) only [c_bind, bnd_ok, bnd_err, r_pure, r_c, ifb_t, ifb_f, ifk_ok, c_eif, c_if, c_or, c_and, toB_ok, c_asB, ntk_ok, c_not, ntv_ok, c_vnot, ifv_ok, c_vand, c_vor, opk_ok, r_opt, c_bin, nowk_im, nowk_ow, nowk_io, c_itemN, c_binN, c_acons, vark_im, vark_ow, c_var, c_call0, callk_ok, callk_err, r_call1, r_call2, r_call3, c_callK, pick10, pick01, pick0,
      ownk_ow, ownk_io, rok_ok, c_callO, tabk_s, c_tab, seqk_nx, seqk_ret, seqk_brk, seqk_cnt, seqk_err, c_seq, r_nx, c_ret, c_drop, somek_ok, c_asg, r_btup2, r_btup3, obk_ok, r_bcons, r_bnil, c_for, r_loop0, r_loop, lp1_ok, lp2_nx, lp2_cnt, lp2_brk, lp2_ret, mutk_ok, c_mut, setk_ok, lk_ok, c_setI, olk_ok, c_rng1, runk_ret, runk_nx, runk_err, r_run, runok_ret, r_runO,
      eqI, neI, neB, eqB, catI, subI, gtI, ltI, leI, geI, modI, ngk_ok, c_neg, intI, ixt20, ixt21, ixt30, ixt31, ixt32, rng_6, rng_9, b_eqT, b_eqF, b_ltT, b_ltF, b_leT, b_leF, r_name, r_mkT, r_mkL, c_own, LIM_eq,
      List.getElem?_cons_succ, List.getElem?_cons_zero, List.set_cons_succ, List.set_cons_zero, List.length_cons, List.length_nil, List.map_cons, List.map_nil, List.replicate_succ, List.replicate_zero, List.cons_append, List.nil_append, Nat.reduceAdd, Nat.reduceSub, Nat.reduceLT, Nat.reduceEqDiff, Nat.reduceLeDiff, if_true, ite_true, ite_false, ↓reduceIte, true_and, and_true, and_self, Bool.not_true, Bool.not_false, beq_self_eq_true, Int.reduceLT, Int.reduceBEq, Int.reduceMod, Int.reduceAdd, Int.reduceSub, Int.reduceNeg, Int.reduceLE, decide_true, decide_false, r_lc0, r_lc, lc1_ok, lc2_f, lc2_t, lc3_ok, c_comp, c_scomp, wipe0, wipe1, c_key, kyk_l, kyj_ok, kyi_ok, r_keys0, r_keys, kok_ok, r_cap0, r_cap, cpk_ok, arg0, arg1, arg2, ltK_eq, gtK_eq, kAt0, kAt1, kAt2, c_lam, lmk_ok, lmj_ok, r_thunk, thk_ok, thk_err, chk_t, chk_f, c_chain, c_raise1, err1_ok, MOd, put_0i, put_0o, put_s, itk_l, itk_t, c_items, r_app, r_isL, c_fld, c_prop, prk_ok, okD_ok, c_meth, c_methK, c_makeN, c_statK, c_tupk, tupl_l, c_zipP, zpk_ok, c_enumP, enk_ok, c_comp2, zip6, enum6, Bool.false_eq_true, *]
theorem same_bl {k : Nat} {a b : Bool} (h : a = b) : m_u_law_same (k + 1) [.bl a, .bl b] = .ok (.bl true) := by
  subst h
  cases a <;> kernel_rfl
/-- plain data, not deeper than k -/
def pl : Nat → D → Bool
  | 0, _ => false
  | _ + 1, .int _ => true
  | _ + 1, .bl _ => true
  | _ + 1, .str a => PyData.strOk a
  | k + 1, .tup l => l.all (pl k) && decide (l.length ≤ 1000)
  | k + 1, .lst l => l.all (pl k) && decide (l.length ≤ 1000)
  | _ + 1, _ => false
theorem same_refl : ∀ {k : Nat} {d : D}, pl k d = true → m_u_law_same k [d, d] = .ok (.bl true)
  | 0, _, h => by unfold pl at h; cases h
  | k + 1, d, h => by
    cases d with
    | int a => exact same_int rfl
    | bl a => exact same_bl rfl
    | str a => unfold pl at h; exact same_str h
    | tup l =>
      unfold pl at h
      simp only [Bool.and_eq_true, List.all_eq_true, decide_eq_true_eq] at h
      exact same_seq (.inl rfl) (fun x hx => same_refl (h.1 x hx)) h.2
    | lst l =>
      unfold pl at h
      simp only [Bool.and_eq_true, List.all_eq_true, decide_eq_true_eq] at h
      exact same_seq (.inr rfl) (fun x hx => same_refl (h.1 x hx)) h.2
    | _ => unfold pl at h; cases h
end T
set_option Elab.async false
set_option linter.all false
set_option maxRecDepth 100000
set_option maxHeartbeats 4000000
namespace T
open PySem PySem.Spec PyProof.Rows L2 LamX PL
variable [Tbls]
abbrev pot (l : List Int) : MO := .lst (l.map D.int)
def nng (l : List Int) : Prop := ∀ z ∈ l, 0 ≤ z
theorem py_ints : ∀ l : List Int, pyAll (l.map D.int) = some (l.map PyData.int)
  | [] => by rw [List.map_nil, List.map_nil, pyAll]
  | z :: l => by rw [List.map_cons, List.map_cons, pyAll, D.py, py_ints l]
theorem lay_ints : ∀ l : List Int, PyData.canLayAll0 (l.map PyData.int) = true
  | [] => by rw [List.map_nil, PyData.canLayAll0]
  | z :: l => by rw [List.map_cons, PyData.canLayAll0, PyData.canLay0, lay_ints l]; rfl
theorem dep_ints : ∀ l : List Int, PyData.depthAll (l.map PyData.int) = 0
  | [] => by rw [List.map_nil, PyData.depthAll]
  | z :: l => by rw [List.map_cons, PyData.depthAll, PyData.depth, dep_ints l]; rfl
theorem eq_nil (l : List Int) : dEq (.lst (l.map D.int)) (.lst []) = some (.bl l.isEmpty) := by
  have h1 : (D.lst (l.map D.int)).py = some (.list (l.map PyData.int)) := by rw [D.py, py_ints]
  have h2 : (D.lst []).py = some (.list []) := by rw [D.py, pyAll]
  have h3 : SeqAt.shaped (.list (l.map PyData.int)) = true := by
    unfold SeqAt.shaped
    rw [PyData.canLay0, lay_ints, PyData.depth, dep_ints]; rfl
  have h4 : SeqAt.shaped (.list []) = true := by decide
  unfold dEq dEqB
  rw [h1, h2]
  dsimp only
  rw [h3, h4]
  cases l with
  | nil => simp [PyData.eqv, PyData.eqvAll]
  | cons z l => simp [PyData.eqv, PyData.eqvAll]
theorem ix_hd (z : Int) (l : List D) : dIx (.lst (.int z :: l)) (.int 0) = some (.int z) := atI_nat (i := 0) rfl
theorem set_hd (z q : Int) (l : List D) : fSetI (.int z :: l) (.int 0) (.int q) = some (.int q :: l) := by
  unfold fSetI ixN
  dsimp only
  rw [if_pos (by omega), if_pos (by rw [List.length_cons]; omega)]
  rfl
theorem pop_hd (d : D) (l : List D) : fPop (.lst (d :: l)) [.int 0] = some (.lst l) := rfl
abbrev bodyDraw : S := (sSeq (sIf (bOr (asB (eBinN dEq 0 (M.bind (M.pure []) mkL))) (asB (eBin dNe (eItemN 0 (eC (.int 0))) (eC (.int 0))))) (sSeq (M.pure .brk) sNx) sNx) (sSeq (sMut 0 fPop isL (aCons (eC (.int 0)) (M.pure []))) sNx))
theorem draw_loop (d : D) : ∀ (n : Nat) (lo : Int) (l : List Int) (s : Sl), ∃ (l2 : List Int) (s' : Sl), loopS (bName 2) bodyDraw (PL.intsFrom lo n) [.io (pot l), .im d, s, .no] = .ok .nx [.io (pot l2), .im d, s', .no] ∧ ∀ z ∈ l2, z ∈ l
  | 0, lo, l, s => ⟨l, s, by rw [PL.intsFrom, r_loop0], fun z h => h⟩
  | n + 1, lo, l, s => by
    rw [PL.intsFrom]
    cases l with
    | nil =>
      have h1 : dEq (.lst []) (.lst []) = some (.bl true) := eq_nil []
      refine ⟨[], .im (.int lo), ?_, fun z h => h⟩
      simp (implicitDefEqProofs := false) (maxSteps := 100000000) (disch := omega) only [c_bind, bnd_ok, bnd_err, r_pure, r_c, ifb_t, ifb_f, ifk_ok, c_eif, c_if, c_or, c_and, toB_ok, c_asB, ntk_ok, c_not, ntv_ok, c_vnot, ifv_ok, c_vand, c_vor, opk_ok, r_opt, c_bin, nowk_im, nowk_ow, nowk_io, c_itemN, c_binN, c_acons, vark_im, vark_ow, c_var, c_call0, callk_ok, callk_err, r_call1, r_call2, r_call3, c_callK, pick10, pick01, pick0,
      ownk_ow, ownk_io, rok_ok, c_callO, tabk_s, c_tab, seqk_nx, seqk_ret, seqk_brk, seqk_cnt, seqk_err, c_seq, r_nx, c_ret, c_drop, somek_ok, c_asg, r_btup2, r_btup3, obk_ok, r_bcons, r_bnil, c_for, r_loop0, r_loop, lp1_ok, lp2_nx, lp2_cnt, lp2_brk, lp2_ret, mutk_ok, c_mut, setk_ok, lk_ok, c_setI, olk_ok, c_rng1, runk_ret, runk_nx, runk_err, r_run, runok_ret, r_runO,
      eqI, neI, neB, eqB, catI, subI, gtI, ltI, leI, geI, modI, ngk_ok, c_neg, intI, ixt20, ixt21, ixt30, ixt31, ixt32, rng_6, rng_9, b_eqT, b_eqF, b_ltT, b_ltF, b_leT, b_leF, r_name, r_mkT, r_mkL, c_own, LIM_eq,
      List.getElem?_cons_succ, List.getElem?_cons_zero, List.set_cons_succ, List.set_cons_zero, List.length_cons, List.length_nil, List.map_cons, List.map_nil, List.replicate_succ, List.replicate_zero, List.cons_append, List.nil_append, Nat.reduceAdd, Nat.reduceSub, Nat.reduceLT, Nat.reduceEqDiff, Nat.reduceLeDiff, if_true, ite_true, ite_false, ↓reduceIte, true_and, and_true, and_self, Bool.not_true, Bool.not_false, beq_self_eq_true, Int.reduceLT, Int.reduceBEq, Int.reduceMod, Int.reduceAdd, Int.reduceSub, Int.reduceNeg, Int.reduceLE, decide_true, decide_false, r_lc0, r_lc, lc1_ok, lc2_f, lc2_t, lc3_ok, c_comp, c_scomp, wipe0, wipe1, c_key, kyk_l, kyj_ok, kyi_ok, r_keys0, r_keys, kok_ok, r_cap0, r_cap, cpk_ok, arg0, arg1, arg2, ltK_eq, gtK_eq, kAt0, kAt1, kAt2, c_lam, lmk_ok, lmj_ok, r_thunk, thk_ok, thk_err, chk_t, chk_f, c_chain, c_raise1, err1_ok, MOd, put_0i, put_0o, put_s, itk_l, itk_t, c_items, r_app, r_isL, c_fld, c_prop, prk_ok, okD_ok, c_meth, c_methK, c_makeN, c_statK, c_tupk, tupl_l, c_zipP, zpk_ok, c_enumP, enk_ok, c_comp2, zip6, enum6, Bool.false_eq_true, *]
    | cons z r =>
      have h1 : dEq (.lst (.int z :: r.map D.int)) (.lst []) = some (.bl false) := eq_nil (z :: r)
      have h2 := ix_hd z (r.map D.int)
      have h3 := pop_hd (.int z) (r.map D.int)
      have h4 : ∀ l : List D, isL (.lst l) = true := fun _ => rfl
      by_cases hz : z = 0
      · subst hz
        obtain ⟨l2, s', e, hm⟩ := draw_loop d n (lo + 1) r (.im (.int lo))
        refine ⟨l2, s', ?_, fun y hy => List.mem_cons_of_mem _ (hm y hy)⟩
        have h3' : fPop (pot (0 :: r)) [.int 0] = some (.lst (r.map D.int)) := rfl
        have e' : loopS (bName 2) bodyDraw (PL.intsFrom (lo + 1) n) [.io (.lst (r.map D.int)), .im d, .im (.int lo), .no] = .ok .nx [.io (pot l2), .im d, s', .no] := e
        simp (implicitDefEqProofs := false) (maxSteps := 100000000) (disch := omega) only [c_bind, bnd_ok, bnd_err, r_pure, r_c, ifb_t, ifb_f, ifk_ok, c_eif, c_if, c_or, c_and, toB_ok, c_asB, ntk_ok, c_not, ntv_ok, c_vnot, ifv_ok, c_vand, c_vor, opk_ok, r_opt, c_bin, nowk_im, nowk_ow, nowk_io, c_itemN, c_binN, c_acons, vark_im, vark_ow, c_var, c_call0, callk_ok, callk_err, r_call1, r_call2, r_call3, c_callK, pick10, pick01, pick0,
      ownk_ow, ownk_io, rok_ok, c_callO, tabk_s, c_tab, seqk_nx, seqk_ret, seqk_brk, seqk_cnt, seqk_err, c_seq, r_nx, c_ret, c_drop, somek_ok, c_asg, r_btup2, r_btup3, obk_ok, r_bcons, r_bnil, c_for, r_loop0, r_loop, lp1_ok, lp2_nx, lp2_cnt, lp2_brk, lp2_ret, mutk_ok, c_mut, setk_ok, lk_ok, c_setI, olk_ok, c_rng1, runk_ret, runk_nx, runk_err, r_run, runok_ret, r_runO,
      eqI, neI, neB, eqB, catI, subI, gtI, ltI, leI, geI, modI, ngk_ok, c_neg, intI, ixt20, ixt21, ixt30, ixt31, ixt32, rng_6, rng_9, b_eqT, b_eqF, b_ltT, b_ltF, b_leT, b_leF, r_name, r_mkT, r_mkL, c_own, LIM_eq,
      List.getElem?_cons_succ, List.getElem?_cons_zero, List.set_cons_succ, List.set_cons_zero, List.length_cons, List.length_nil, List.map_cons, List.map_nil, List.replicate_succ, List.replicate_zero, List.cons_append, List.nil_append, Nat.reduceAdd, Nat.reduceSub, Nat.reduceLT, Nat.reduceEqDiff, Nat.reduceLeDiff, if_true, ite_true, ite_false, ↓reduceIte, true_and, and_true, and_self, Bool.not_true, Bool.not_false, beq_self_eq_true, Int.reduceLT, Int.reduceBEq, Int.reduceMod, Int.reduceAdd, Int.reduceSub, Int.reduceNeg, Int.reduceLE, decide_true, decide_false, r_lc0, r_lc, lc1_ok, lc2_f, lc2_t, lc3_ok, c_comp, c_scomp, wipe0, wipe1, c_key, kyk_l, kyj_ok, kyi_ok, r_keys0, r_keys, kok_ok, r_cap0, r_cap, cpk_ok, arg0, arg1, arg2, ltK_eq, gtK_eq, kAt0, kAt1, kAt2, c_lam, lmk_ok, lmj_ok, r_thunk, thk_ok, thk_err, chk_t, chk_f, c_chain, c_raise1, err1_ok, MOd, put_0i, put_0o, put_s, itk_l, itk_t, c_items, r_app, r_isL, c_fld, c_prop, prk_ok, okD_ok, c_meth, c_methK, c_makeN, c_statK, c_tupk, tupl_l, c_zipP, zpk_ok, c_enumP, enk_ok, c_comp2, zip6, enum6, Bool.false_eq_true, *]
      · refine ⟨z :: r, .im (.int lo), ?_, fun y hy => hy⟩
        simp (implicitDefEqProofs := false) (maxSteps := 100000000) (disch := omega) only [c_bind, bnd_ok, bnd_err, r_pure, r_c, ifb_t, ifb_f, ifk_ok, c_eif, c_if, c_or, c_and, toB_ok, c_asB, ntk_ok, c_not, ntv_ok, c_vnot, ifv_ok, c_vand, c_vor, opk_ok, r_opt, c_bin, nowk_im, nowk_ow, nowk_io, c_itemN, c_binN, c_acons, vark_im, vark_ow, c_var, c_call0, callk_ok, callk_err, r_call1, r_call2, r_call3, c_callK, pick10, pick01, pick0,
      ownk_ow, ownk_io, rok_ok, c_callO, tabk_s, c_tab, seqk_nx, seqk_ret, seqk_brk, seqk_cnt, seqk_err, c_seq, r_nx, c_ret, c_drop, somek_ok, c_asg, r_btup2, r_btup3, obk_ok, r_bcons, r_bnil, c_for, r_loop0, r_loop, lp1_ok, lp2_nx, lp2_cnt, lp2_brk, lp2_ret, mutk_ok, c_mut, setk_ok, lk_ok, c_setI, olk_ok, c_rng1, runk_ret, runk_nx, runk_err, r_run, runok_ret, r_runO,
      eqI, neI, neB, eqB, catI, subI, gtI, ltI, leI, geI, modI, ngk_ok, c_neg, intI, ixt20, ixt21, ixt30, ixt31, ixt32, rng_6, rng_9, b_eqT, b_eqF, b_ltT, b_ltF, b_leT, b_leF, r_name, r_mkT, r_mkL, c_own, LIM_eq,
      List.getElem?_cons_succ, List.getElem?_cons_zero, List.set_cons_succ, List.set_cons_zero, List.length_cons, List.length_nil, List.map_cons, List.map_nil, List.replicate_succ, List.replicate_zero, List.cons_append, List.nil_append, Nat.reduceAdd, Nat.reduceSub, Nat.reduceLT, Nat.reduceEqDiff, Nat.reduceLeDiff, if_true, ite_true, ite_false, ↓reduceIte, true_and, and_true, and_self, Bool.not_true, Bool.not_false, beq_self_eq_true, Int.reduceLT, Int.reduceBEq, Int.reduceMod, Int.reduceAdd, Int.reduceSub, Int.reduceNeg, Int.reduceLE, decide_true, decide_false, r_lc0, r_lc, lc1_ok, lc2_f, lc2_t, lc3_ok, c_comp, c_scomp, wipe0, wipe1, c_key, kyk_l, kyj_ok, kyi_ok, r_keys0, r_keys, kok_ok, r_cap0, r_cap, cpk_ok, arg0, arg1, arg2, ltK_eq, gtK_eq, kAt0, kAt1, kAt2, c_lam, lmk_ok, lmj_ok, r_thunk, thk_ok, thk_err, chk_t, chk_f, c_chain, c_raise1, err1_ok, MOd, put_0i, put_0o, put_s, itk_l, itk_t, c_items, r_app, r_isL, c_fld, c_prop, prk_ok, okD_ok, c_meth, c_methK, c_makeN, c_statK, c_tupk, tupl_l, c_zipP, zpk_ok, c_enumP, enk_ok, c_comp2, zip6, enum6, Bool.false_eq_true, *]
theorem draw_ok (l : List Int) (hl : nng l) (many : Int) (hm : 0 < many) (hb : (decide (0 < many) && decide (many.natAbs.log2 < 9000)) = true) :
    ∃ (r : Int) (l' : List Int), m_u_law_draw (pot l) [.int many] = .ok (.int r) (pot l') ∧ 0 ≤ r ∧ r < many ∧ nng l' := by
  obtain ⟨l2, s', e, hs⟩ := draw_loop (.int many) 64 0 l .no
  have h64 : rng1 [.int 64] = some (PL.intsFrom 0 64) := by kernel_rfl
  have e' : loopS (bName 2) bodyDraw (PL.intsFrom 0 64) [.io (.lst (l.map D.int)), .im (.int many), .no, .no] = .ok .nx [.io (pot l2), .im (.int many), s', .no] := e
  have h2 : nng l2 := fun z hz => hl z (hs z hz)
  cases l2 with
  | nil =>
    have h1 : dEq (.lst []) (.lst []) = some (.bl true) := eq_nil []
    refine ⟨0, [], ?_, by omega, hm, fun z hz => nomatch hz⟩
    unfold m_u_law_draw g_u_law_draw
    simp (implicitDefEqProofs := false) (maxSteps := 100000000) (disch := omega) only [c_bind, bnd_ok, bnd_err, r_pure, r_c, ifb_t, ifb_f, ifk_ok, c_eif, c_if, c_or, c_and, toB_ok, c_asB, ntk_ok, c_not, ntv_ok, c_vnot, ifv_ok, c_vand, c_vor, opk_ok, r_opt, c_bin, nowk_im, nowk_ow, nowk_io, c_itemN, c_binN, c_acons, vark_im, vark_ow, c_var, c_call0, callk_ok, callk_err, r_call1, r_call2, r_call3, c_callK, pick10, pick01, pick0,
      ownk_ow, ownk_io, rok_ok, c_callO, tabk_s, c_tab, seqk_nx, seqk_ret, seqk_brk, seqk_cnt, seqk_err, c_seq, r_nx, c_ret, c_drop, somek_ok, c_asg, r_btup2, r_btup3, obk_ok, r_bcons, r_bnil, c_for, r_loop0, r_loop, lp1_ok, lp2_nx, lp2_cnt, lp2_brk, lp2_ret, mutk_ok, c_mut, setk_ok, lk_ok, c_setI, olk_ok, c_rng1, runk_ret, runk_nx, runk_err, r_run, runok_ret, r_runO,
      eqI, neI, neB, eqB, catI, subI, gtI, ltI, leI, geI, modI, ngk_ok, c_neg, intI, ixt20, ixt21, ixt30, ixt31, ixt32, rng_6, rng_9, b_eqT, b_eqF, b_ltT, b_ltF, b_leT, b_leF, r_name, r_mkT, r_mkL, c_own, LIM_eq,
      List.getElem?_cons_succ, List.getElem?_cons_zero, List.set_cons_succ, List.set_cons_zero, List.length_cons, List.length_nil, List.map_cons, List.map_nil, List.replicate_succ, List.replicate_zero, List.cons_append, List.nil_append, Nat.reduceAdd, Nat.reduceSub, Nat.reduceLT, Nat.reduceEqDiff, Nat.reduceLeDiff, if_true, ite_true, ite_false, ↓reduceIte, true_and, and_true, and_self, Bool.not_true, Bool.not_false, beq_self_eq_true, Int.reduceLT, Int.reduceBEq, Int.reduceMod, Int.reduceAdd, Int.reduceSub, Int.reduceNeg, Int.reduceLE, decide_true, decide_false, r_lc0, r_lc, lc1_ok, lc2_f, lc2_t, lc3_ok, c_comp, c_scomp, wipe0, wipe1, c_key, kyk_l, kyj_ok, kyi_ok, r_keys0, r_keys, kok_ok, r_cap0, r_cap, cpk_ok, arg0, arg1, arg2, ltK_eq, gtK_eq, kAt0, kAt1, kAt2, c_lam, lmk_ok, lmj_ok, r_thunk, thk_ok, thk_err, chk_t, chk_f, c_chain, c_raise1, err1_ok, MOd, put_0i, put_0o, put_s, itk_l, itk_t, c_items, r_app, r_isL, c_fld, c_prop, prk_ok, okD_ok, c_meth, c_methK, c_makeN, c_statK, c_tupk, tupl_l, c_zipP, zpk_ok, c_enumP, enk_ok, c_comp2, zip6, enum6, Bool.false_eq_true, *]
  | cons z r =>
    have h1 : dEq (.lst (.int z :: r.map D.int)) (.lst []) = some (.bl false) := eq_nil (z :: r)
    have h3 := ix_hd z (r.map D.int)
    have h4 := set_hd z (z / many) (r.map D.int)
    have h5 : dFdivW (.int z) (.int many) = some (.int (z / many)) := fdvI hb
    refine ⟨z % many, (z / many) :: r, ?_, Int.emod_nonneg _ (by omega), Int.emod_lt_of_pos _ hm, fun y hy => ?_⟩
    · unfold m_u_law_draw g_u_law_draw
      simp (implicitDefEqProofs := false) (maxSteps := 100000000) (disch := omega) only [c_bind, bnd_ok, bnd_err, r_pure, r_c, ifb_t, ifb_f, ifk_ok, c_eif, c_if, c_or, c_and, toB_ok, c_asB, ntk_ok, c_not, ntv_ok, c_vnot, ifv_ok, c_vand, c_vor, opk_ok, r_opt, c_bin, nowk_im, nowk_ow, nowk_io, c_itemN, c_binN, c_acons, vark_im, vark_ow, c_var, c_call0, callk_ok, callk_err, r_call1, r_call2, r_call3, c_callK, pick10, pick01, pick0,
      ownk_ow, ownk_io, rok_ok, c_callO, tabk_s, c_tab, seqk_nx, seqk_ret, seqk_brk, seqk_cnt, seqk_err, c_seq, r_nx, c_ret, c_drop, somek_ok, c_asg, r_btup2, r_btup3, obk_ok, r_bcons, r_bnil, c_for, r_loop0, r_loop, lp1_ok, lp2_nx, lp2_cnt, lp2_brk, lp2_ret, mutk_ok, c_mut, setk_ok, lk_ok, c_setI, olk_ok, c_rng1, runk_ret, runk_nx, runk_err, r_run, runok_ret, r_runO,
      eqI, neI, neB, eqB, catI, subI, gtI, ltI, leI, geI, modI, ngk_ok, c_neg, intI, ixt20, ixt21, ixt30, ixt31, ixt32, rng_6, rng_9, b_eqT, b_eqF, b_ltT, b_ltF, b_leT, b_leF, r_name, r_mkT, r_mkL, c_own, LIM_eq,
      List.getElem?_cons_succ, List.getElem?_cons_zero, List.set_cons_succ, List.set_cons_zero, List.length_cons, List.length_nil, List.map_cons, List.map_nil, List.replicate_succ, List.replicate_zero, List.cons_append, List.nil_append, Nat.reduceAdd, Nat.reduceSub, Nat.reduceLT, Nat.reduceEqDiff, Nat.reduceLeDiff, if_true, ite_true, ite_false, ↓reduceIte, true_and, and_true, and_self, Bool.not_true, Bool.not_false, beq_self_eq_true, Int.reduceLT, Int.reduceBEq, Int.reduceMod, Int.reduceAdd, Int.reduceSub, Int.reduceNeg, Int.reduceLE, decide_true, decide_false, r_lc0, r_lc, lc1_ok, lc2_f, lc2_t, lc3_ok, c_comp, c_scomp, wipe0, wipe1, c_key, kyk_l, kyj_ok, kyi_ok, r_keys0, r_keys, kok_ok, r_cap0, r_cap, cpk_ok, arg0, arg1, arg2, ltK_eq, gtK_eq, kAt0, kAt1, kAt2, c_lam, lmk_ok, lmj_ok, r_thunk, thk_ok, thk_err, chk_t, chk_f, c_chain, c_raise1, err1_ok, MOd, put_0i, put_0o, put_s, itk_l, itk_t, c_items, r_app, r_isL, c_fld, c_prop, prk_ok, okD_ok, c_meth, c_methK, c_makeN, c_statK, c_tupk, tupl_l, c_zipP, zpk_ok, c_enumP, enk_ok, c_comp2, zip6, enum6, Bool.false_eq_true, *]
      rfl
    · rcases List.mem_cons.mp hy with rfl | hy
      · exact Int.ediv_nonneg (h2 z List.mem_cons_self) (by omega)
      · exact h2 y (List.mem_cons_of_mem _ hy)
theorem p39 : dPow (.int 10) (.int 39) = some (.int 1000000000000000000000000000000000000000) := by kernel_rfl
theorem p30 : dPow (.int 10) (.int 30) = some (.int 1000000000000000000000000000000) := by kernel_rfl
theorem number_ok (l : List Int) (hl : nng l) (mode : Int) (h0 : 0 ≤ mode) (h3 : mode < 3) (shift : Int) : ∃ (x : Int) (l' : List Int), m_u_law_number (pot l) [.int mode, .int shift] = .ok (.int x) (pot l') ∧ nng l' ∧ -1000000000000000000000000000000000000000 ≤ x ∧ x ≤ 1000000000000000000000000000000000000000 := by
  have q39 := p39
  have q30 := p30
  by_cases hm : mode = 0
  · subst hm
    obtain ⟨r, l1, e1, a1, b1, c1⟩ := draw_ok l hl 7 (by decide) (by decide)
    refine ⟨(r + shift) % 7 - 3, l1, ?_, c1, by omega, by omega⟩
    unfold m_u_law_number g_u_law_number
    simp (implicitDefEqProofs := false) (maxSteps := 100000000) (disch := omega) only [c_bind, bnd_ok, bnd_err, r_pure, r_c, ifb_t, ifb_f, ifk_ok, c_eif, c_if, c_or, c_and, toB_ok, c_asB, ntk_ok, c_not, ntv_ok, c_vnot, ifv_ok, c_vand, c_vor, opk_ok, r_opt, c_bin, nowk_im, nowk_ow, nowk_io, c_itemN, c_binN, c_acons, vark_im, vark_ow, c_var, c_call0, callk_ok, callk_err, r_call1, r_call2, r_call3, c_callK, pick10, pick01, pick0,
      ownk_ow, ownk_io, rok_ok, c_callO, tabk_s, c_tab, seqk_nx, seqk_ret, seqk_brk, seqk_cnt, seqk_err, c_seq, r_nx, c_ret, c_drop, somek_ok, c_asg, r_btup2, r_btup3, obk_ok, r_bcons, r_bnil, c_for, r_loop0, r_loop, lp1_ok, lp2_nx, lp2_cnt, lp2_brk, lp2_ret, mutk_ok, c_mut, setk_ok, lk_ok, c_setI, olk_ok, c_rng1, runk_ret, runk_nx, runk_err, r_run, runok_ret, r_runO,
      eqI, neI, neB, eqB, catI, subI, gtI, ltI, leI, geI, modI, ngk_ok, c_neg, intI, ixt20, ixt21, ixt30, ixt31, ixt32, rng_6, rng_9, b_eqT, b_eqF, b_ltT, b_ltF, b_leT, b_leF, r_name, r_mkT, r_mkL, c_own, LIM_eq,
      List.getElem?_cons_succ, List.getElem?_cons_zero, List.set_cons_succ, List.set_cons_zero, List.length_cons, List.length_nil, List.map_cons, List.map_nil, List.replicate_succ, List.replicate_zero, List.cons_append, List.nil_append, Nat.reduceAdd, Nat.reduceSub, Nat.reduceLT, Nat.reduceEqDiff, Nat.reduceLeDiff, if_true, ite_true, ite_false, ↓reduceIte, true_and, and_true, and_self, Bool.not_true, Bool.not_false, beq_self_eq_true, Int.reduceLT, Int.reduceBEq, Int.reduceMod, Int.reduceAdd, Int.reduceSub, Int.reduceNeg, Int.reduceLE, decide_true, decide_false, r_lc0, r_lc, lc1_ok, lc2_f, lc2_t, lc3_ok, c_comp, c_scomp, wipe0, wipe1, c_key, kyk_l, kyj_ok, kyi_ok, r_keys0, r_keys, kok_ok, r_cap0, r_cap, cpk_ok, arg0, arg1, arg2, ltK_eq, gtK_eq, kAt0, kAt1, kAt2, c_lam, lmk_ok, lmj_ok, r_thunk, thk_ok, thk_err, chk_t, chk_f, c_chain, c_raise1, err1_ok, MOd, put_0i, put_0o, put_s, itk_l, itk_t, c_items, r_app, r_isL, c_fld, c_prop, prk_ok, okD_ok, c_meth, c_methK, c_makeN, c_statK, c_tupk, tupl_l, c_zipP, zpk_ok, c_enumP, enk_ok, c_comp2, zip6, enum6, Bool.false_eq_true, *]
  · obtain ⟨r, l1, e1, a1, b1, c1⟩ := draw_ok l hl 1000000000000000000000000000000000000000 (by decide) (by decide)
    obtain ⟨r2, l2, e2, a2, b2, c2⟩ := draw_ok l1 c1 2 (by decide) (by decide)
    unfold m_u_law_number g_u_law_number
    by_cases hm2 : mode = 2
    · subst hm2
      by_cases hr : r2 = 1
      · subst hr
        refine ⟨-(1000000000000000000000000000000 + r % 100), l2, ?_, c2, by omega, by omega⟩
        simp (implicitDefEqProofs := false) (maxSteps := 100000000) (disch := omega) only [c_bind, bnd_ok, bnd_err, r_pure, r_c, ifb_t, ifb_f, ifk_ok, c_eif, c_if, c_or, c_and, toB_ok, c_asB, ntk_ok, c_not, ntv_ok, c_vnot, ifv_ok, c_vand, c_vor, opk_ok, r_opt, c_bin, nowk_im, nowk_ow, nowk_io, c_itemN, c_binN, c_acons, vark_im, vark_ow, c_var, c_call0, callk_ok, callk_err, r_call1, r_call2, r_call3, c_callK, pick10, pick01, pick0,
      ownk_ow, ownk_io, rok_ok, c_callO, tabk_s, c_tab, seqk_nx, seqk_ret, seqk_brk, seqk_cnt, seqk_err, c_seq, r_nx, c_ret, c_drop, somek_ok, c_asg, r_btup2, r_btup3, obk_ok, r_bcons, r_bnil, c_for, r_loop0, r_loop, lp1_ok, lp2_nx, lp2_cnt, lp2_brk, lp2_ret, mutk_ok, c_mut, setk_ok, lk_ok, c_setI, olk_ok, c_rng1, runk_ret, runk_nx, runk_err, r_run, runok_ret, r_runO,
      eqI, neI, neB, eqB, catI, subI, gtI, ltI, leI, geI, modI, ngk_ok, c_neg, intI, ixt20, ixt21, ixt30, ixt31, ixt32, rng_6, rng_9, b_eqT, b_eqF, b_ltT, b_ltF, b_leT, b_leF, r_name, r_mkT, r_mkL, c_own, LIM_eq,
      List.getElem?_cons_succ, List.getElem?_cons_zero, List.set_cons_succ, List.set_cons_zero, List.length_cons, List.length_nil, List.map_cons, List.map_nil, List.replicate_succ, List.replicate_zero, List.cons_append, List.nil_append, Nat.reduceAdd, Nat.reduceSub, Nat.reduceLT, Nat.reduceEqDiff, Nat.reduceLeDiff, if_true, ite_true, ite_false, ↓reduceIte, true_and, and_true, and_self, Bool.not_true, Bool.not_false, beq_self_eq_true, Int.reduceLT, Int.reduceBEq, Int.reduceMod, Int.reduceAdd, Int.reduceSub, Int.reduceNeg, Int.reduceLE, decide_true, decide_false, r_lc0, r_lc, lc1_ok, lc2_f, lc2_t, lc3_ok, c_comp, c_scomp, wipe0, wipe1, c_key, kyk_l, kyj_ok, kyi_ok, r_keys0, r_keys, kok_ok, r_cap0, r_cap, cpk_ok, arg0, arg1, arg2, ltK_eq, gtK_eq, kAt0, kAt1, kAt2, c_lam, lmk_ok, lmj_ok, r_thunk, thk_ok, thk_err, chk_t, chk_f, c_chain, c_raise1, err1_ok, MOd, put_0i, put_0o, put_s, itk_l, itk_t, c_items, r_app, r_isL, c_fld, c_prop, prk_ok, okD_ok, c_meth, c_methK, c_makeN, c_statK, c_tupk, tupl_l, c_zipP, zpk_ok, c_enumP, enk_ok, c_comp2, zip6, enum6, Bool.false_eq_true, *]
      · refine ⟨1000000000000000000000000000000 + r % 100, l2, ?_, c2, by omega, by omega⟩
        simp (implicitDefEqProofs := false) (maxSteps := 100000000) (disch := omega) only [c_bind, bnd_ok, bnd_err, r_pure, r_c, ifb_t, ifb_f, ifk_ok, c_eif, c_if, c_or, c_and, toB_ok, c_asB, ntk_ok, c_not, ntv_ok, c_vnot, ifv_ok, c_vand, c_vor, opk_ok, r_opt, c_bin, nowk_im, nowk_ow, nowk_io, c_itemN, c_binN, c_acons, vark_im, vark_ow, c_var, c_call0, callk_ok, callk_err, r_call1, r_call2, r_call3, c_callK, pick10, pick01, pick0,
      ownk_ow, ownk_io, rok_ok, c_callO, tabk_s, c_tab, seqk_nx, seqk_ret, seqk_brk, seqk_cnt, seqk_err, c_seq, r_nx, c_ret, c_drop, somek_ok, c_asg, r_btup2, r_btup3, obk_ok, r_bcons, r_bnil, c_for, r_loop0, r_loop, lp1_ok, lp2_nx, lp2_cnt, lp2_brk, lp2_ret, mutk_ok, c_mut, setk_ok, lk_ok, c_setI, olk_ok, c_rng1, runk_ret, runk_nx, runk_err, r_run, runok_ret, r_runO,
      eqI, neI, neB, eqB, catI, subI, gtI, ltI, leI, geI, modI, ngk_ok, c_neg, intI, ixt20, ixt21, ixt30, ixt31, ixt32, rng_6, rng_9, b_eqT, b_eqF, b_ltT, b_ltF, b_leT, b_leF, r_name, r_mkT, r_mkL, c_own, LIM_eq,
      List.getElem?_cons_succ, List.getElem?_cons_zero, List.set_cons_succ, List.set_cons_zero, List.length_cons, List.length_nil, List.map_cons, List.map_nil, List.replicate_succ, List.replicate_zero, List.cons_append, List.nil_append, Nat.reduceAdd, Nat.reduceSub, Nat.reduceLT, Nat.reduceEqDiff, Nat.reduceLeDiff, if_true, ite_true, ite_false, ↓reduceIte, true_and, and_true, and_self, Bool.not_true, Bool.not_false, beq_self_eq_true, Int.reduceLT, Int.reduceBEq, Int.reduceMod, Int.reduceAdd, Int.reduceSub, Int.reduceNeg, Int.reduceLE, decide_true, decide_false, r_lc0, r_lc, lc1_ok, lc2_f, lc2_t, lc3_ok, c_comp, c_scomp, wipe0, wipe1, c_key, kyk_l, kyj_ok, kyi_ok, r_keys0, r_keys, kok_ok, r_cap0, r_cap, cpk_ok, arg0, arg1, arg2, ltK_eq, gtK_eq, kAt0, kAt1, kAt2, c_lam, lmk_ok, lmj_ok, r_thunk, thk_ok, thk_err, chk_t, chk_f, c_chain, c_raise1, err1_ok, MOd, put_0i, put_0o, put_s, itk_l, itk_t, c_items, r_app, r_isL, c_fld, c_prop, prk_ok, okD_ok, c_meth, c_methK, c_makeN, c_statK, c_tupk, tupl_l, c_zipP, zpk_ok, c_enumP, enk_ok, c_comp2, zip6, enum6, Bool.false_eq_true, *]
    · by_cases hr : r2 = 1
      · subst hr
        refine ⟨-r, l2, ?_, c2, by omega, by omega⟩
        simp (implicitDefEqProofs := false) (maxSteps := 100000000) (disch := omega) only [c_bind, bnd_ok, bnd_err, r_pure, r_c, ifb_t, ifb_f, ifk_ok, c_eif, c_if, c_or, c_and, toB_ok, c_asB, ntk_ok, c_not, ntv_ok, c_vnot, ifv_ok, c_vand, c_vor, opk_ok, r_opt, c_bin, nowk_im, nowk_ow, nowk_io, c_itemN, c_binN, c_acons, vark_im, vark_ow, c_var, c_call0, callk_ok, callk_err, r_call1, r_call2, r_call3, c_callK, pick10, pick01, pick0,
      ownk_ow, ownk_io, rok_ok, c_callO, tabk_s, c_tab, seqk_nx, seqk_ret, seqk_brk, seqk_cnt, seqk_err, c_seq, r_nx, c_ret, c_drop, somek_ok, c_asg, r_btup2, r_btup3, obk_ok, r_bcons, r_bnil, c_for, r_loop0, r_loop, lp1_ok, lp2_nx, lp2_cnt, lp2_brk, lp2_ret, mutk_ok, c_mut, setk_ok, lk_ok, c_setI, olk_ok, c_rng1, runk_ret, runk_nx, runk_err, r_run, runok_ret, r_runO,
      eqI, neI, neB, eqB, catI, subI, gtI, ltI, leI, geI, modI, ngk_ok, c_neg, intI, ixt20, ixt21, ixt30, ixt31, ixt32, rng_6, rng_9, b_eqT, b_eqF, b_ltT, b_ltF, b_leT, b_leF, r_name, r_mkT, r_mkL, c_own, LIM_eq,
      List.getElem?_cons_succ, List.getElem?_cons_zero, List.set_cons_succ, List.set_cons_zero, List.length_cons, List.length_nil, List.map_cons, List.map_nil, List.replicate_succ, List.replicate_zero, List.cons_append, List.nil_append, Nat.reduceAdd, Nat.reduceSub, Nat.reduceLT, Nat.reduceEqDiff, Nat.reduceLeDiff, if_true, ite_true, ite_false, ↓reduceIte, true_and, and_true, and_self, Bool.not_true, Bool.not_false, beq_self_eq_true, Int.reduceLT, Int.reduceBEq, Int.reduceMod, Int.reduceAdd, Int.reduceSub, Int.reduceNeg, Int.reduceLE, decide_true, decide_false, r_lc0, r_lc, lc1_ok, lc2_f, lc2_t, lc3_ok, c_comp, c_scomp, wipe0, wipe1, c_key, kyk_l, kyj_ok, kyi_ok, r_keys0, r_keys, kok_ok, r_cap0, r_cap, cpk_ok, arg0, arg1, arg2, ltK_eq, gtK_eq, kAt0, kAt1, kAt2, c_lam, lmk_ok, lmj_ok, r_thunk, thk_ok, thk_err, chk_t, chk_f, c_chain, c_raise1, err1_ok, MOd, put_0i, put_0o, put_s, itk_l, itk_t, c_items, r_app, r_isL, c_fld, c_prop, prk_ok, okD_ok, c_meth, c_methK, c_makeN, c_statK, c_tupk, tupl_l, c_zipP, zpk_ok, c_enumP, enk_ok, c_comp2, zip6, enum6, Bool.false_eq_true, *]
      · refine ⟨r, l2, ?_, c2, by omega, by omega⟩
        simp (implicitDefEqProofs := false) (maxSteps := 100000000) (disch := omega) only [c_bind, bnd_ok, bnd_err, r_pure, r_c, ifb_t, ifb_f, ifk_ok, c_eif, c_if, c_or, c_and, toB_ok, c_asB, ntk_ok, c_not, ntv_ok, c_vnot, ifv_ok, c_vand, c_vor, opk_ok, r_opt, c_bin, nowk_im, nowk_ow, nowk_io, c_itemN, c_binN, c_acons, vark_im, vark_ow, c_var, c_call0, callk_ok, callk_err, r_call1, r_call2, r_call3, c_callK, pick10, pick01, pick0,
      ownk_ow, ownk_io, rok_ok, c_callO, tabk_s, c_tab, seqk_nx, seqk_ret, seqk_brk, seqk_cnt, seqk_err, c_seq, r_nx, c_ret, c_drop, somek_ok, c_asg, r_btup2, r_btup3, obk_ok, r_bcons, r_bnil, c_for, r_loop0, r_loop, lp1_ok, lp2_nx, lp2_cnt, lp2_brk, lp2_ret, mutk_ok, c_mut, setk_ok, lk_ok, c_setI, olk_ok, c_rng1, runk_ret, runk_nx, runk_err, r_run, runok_ret, r_runO,
      eqI, neI, neB, eqB, catI, subI, gtI, ltI, leI, geI, modI, ngk_ok, c_neg, intI, ixt20, ixt21, ixt30, ixt31, ixt32, rng_6, rng_9, b_eqT, b_eqF, b_ltT, b_ltF, b_leT, b_leF, r_name, r_mkT, r_mkL, c_own, LIM_eq,
      List.getElem?_cons_succ, List.getElem?_cons_zero, List.set_cons_succ, List.set_cons_zero, List.length_cons, List.length_nil, List.map_cons, List.map_nil, List.replicate_succ, List.replicate_zero, List.cons_append, List.nil_append, Nat.reduceAdd, Nat.reduceSub, Nat.reduceLT, Nat.reduceEqDiff, Nat.reduceLeDiff, if_true, ite_true, ite_false, ↓reduceIte, true_and, and_true, and_self, Bool.not_true, Bool.not_false, beq_self_eq_true, Int.reduceLT, Int.reduceBEq, Int.reduceMod, Int.reduceAdd, Int.reduceSub, Int.reduceNeg, Int.reduceLE, decide_true, decide_false, r_lc0, r_lc, lc1_ok, lc2_f, lc2_t, lc3_ok, c_comp, c_scomp, wipe0, wipe1, c_key, kyk_l, kyj_ok, kyi_ok, r_keys0, r_keys, kok_ok, r_cap0, r_cap, cpk_ok, arg0, arg1, arg2, ltK_eq, gtK_eq, kAt0, kAt1, kAt2, c_lam, lmk_ok, lmj_ok, r_thunk, thk_ok, thk_err, chk_t, chk_f, c_chain, c_raise1, err1_ok, MOd, put_0i, put_0o, put_s, itk_l, itk_t, c_items, r_app, r_isL, c_fld, c_prop, prk_ok, okD_ok, c_meth, c_methK, c_makeN, c_statK, c_tupk, tupl_l, c_zipP, zpk_ok, c_enumP, enk_ok, c_comp2, zip6, enum6, Bool.false_eq_true, *]
end T
set_option Elab.async false
set_option linter.all false
set_option maxRecDepth 100000
set_option maxHeartbeats 4000000
namespace T
open PySem PySem.Spec PyProof.Rows L2 LamX PL
variable [Tbls]
abbrev I6 (a b c d e f : Int) : List D := [.int a, .int b, .int c, .int d, .int e, .int f]
abbrev R6 (a b c d e f : Int) : D := .lst (I6 a b c d e f)
abbrev PN (a b c d e f : Int) : D := .obj "Pen" [("reaches", .tup (I6 a b c d e f))]
abbrev S6 (a b c d e f : Int) : List D := I6 (f + b - a) (a + c - b) (b + d - c) (c + e - d) (d + f - e) (e + a - f)
theorem sides_ok (a b c d e f : Int) : m_u_law_sides [R6 a b c d e f] = .ok (.lst (S6 a b c d e f)) := by kernel_rfl
theorem psides_ok (a b c d e f : Int) : m_Pen_sides [PN a b c d e f] = .ok (.tup (S6 a b c d e f)) := by kernel_rfl
theorem moved_ok (a b c d e f x y : Int) : m_u_law_moved [R6 a b c d e f, P2 x y] = .ok (R6 (a + (x + y)) (b + y) (c + -x) (d + -(x + y)) (e + -y) (f + - -x)) := by kernel_rfl
theorem mk_pen (a b c d e f : Int) (δ : En) : mkn "Pen" 1 1 0 pl_Pen_1 m_Pen_uu_init__ [R6 a b c d e f] [] δ = .ok (PN a b c d e f) δ := by kernel_rfl
theorem even_ok (n : Int) : m_Pen_even [.int n] = .ok (PN n n n n n n) := by kernel_rfl
def rim (a b c d e f : Int) : Int := [f + b - a, a + c - b, b + d - c, c + e - d, d + f - e, e + a - f].sum
theorem rim_ok (a b c d e f : Int) : m_Pen_rim [PN a b c d e f] = .ok (.int (rim a b c d e f)) := by kernel_rfl
theorem lrim_ok (a b c d e f : Int) : fSum2 [.lst (S6 a b c d e f)] = some (.int (rim a b c d e f)) := by kernel_rfl
theorem met_sides (a b c d e f : Int) : methD "Pen" "sides" (PN a b c d e f) = true := by kernel_rfl
theorem fld_r (a b c d e f : Int) : dFld "Pen" "reaches" (PN a b c d e f) = some (.tup (I6 a b c d e f)) := by kernel_rfl
/-- reaches within bounds -/
def Bd (n : Nat) (a b c d e f : Int) : Prop := (a.natAbs ≤ n ∧ b.natAbs ≤ n ∧ c.natAbs ≤ n) ∧ d.natAbs ≤ n ∧ e.natAbs ≤ n ∧ f.natAbs ≤ n
abbrev BIG : Nat := 10 ^ 60
theorem wide_sr {n : Nat} {x y z r : Int} (hx : x.natAbs ≤ BIG) (hy : y.natAbs ≤ BIG) (hz : z.natAbs ≤ BIG) (hr : r.natAbs ≤ BIG) : wideOk (x + y - z) r = true := by
  have p : (10 : Nat) ^ 60 * 3 ≤ 10 ^ 200 := by decide +kernel
  have q : ((10 : Int) ^ 200) = (((10 : Nat) ^ 200 : Nat) : Int) := by norm_cast
  have hx : x.natAbs ≤ 10 ^ 60 := hx
  have hy : y.natAbs ≤ 10 ^ 60 := hy
  have hz : z.natAbs ≤ 10 ^ 60 := hz
  have hr : r.natAbs ≤ 10 ^ 60 := hr
  have key : ∀ i : Int, i.natAbs ≤ 10 ^ 200 → -(10 ^ 200) ≤ i ∧ i ≤ 10 ^ 200 := fun i hi => by
    rw [q]
    generalize (10 : Nat) ^ 200 = M at *
    omega
  generalize (10 : Nat) ^ 60 = N at *
  have k1 := key (x + y - z) (Nat.le_trans (by omega) p)
  have k2 := key r (Nat.le_trans (by omega) p)
  exact wideOk_of k1.1 k1.2 k2.1 k2.2
def mx (a b c d e f A B C D' E F : Int) : Int := [(f + b - a) * A, (a + c - b) * B, (b + d - c) * C, (c + e - d) * D', (d + f - e) * E, (e + a - f) * F].sum
section
variable {a b c d e f A B C D' E F : Int}
theorem mixed_ok (h : Bd BIG a b c d e f) (h' : Bd BIG A B C D' E F) : m_mixed [PN a b c d e f, PN A B C D' E F] = .ok (.int (mx a b c d e f A B C D' E F)) := by
  obtain ⟨⟨h0, h1, h2⟩, h3, h4, h5⟩ := h
  obtain ⟨⟨k0, k1, k2⟩, k3, k4, k5⟩ := h'
  have w0 := mulX_ok (wide_sr (n := 0) h5 h1 h0 k0)
  have w1 := mulX_ok (wide_sr (n := 0) h0 h2 h1 k1)
  have w2 := mulX_ok (wide_sr (n := 0) h1 h3 h2 k2)
  have w3 := mulX_ok (wide_sr (n := 0) h2 h4 h3 k3)
  have w4 := mulX_ok (wide_sr (n := 0) h3 h5 h4 k4)
  have w5 := mulX_ok (wide_sr (n := 0) h4 h0 h5 k5)
  have m0 := mtk_ok (m := "sides") (n := 1) (g := m_Pen_sides) (gs := M.pure []) (δ := [.im (PN a b c d e f), .im (PN A B C D' E F), .no, .no]) (met_sides a b c d e f)
  have s0 := psides_ok a b c d e f
  have f0 := fld_r A B C D' E F
  have e0 : fSum2 [.lst (I6 ((f + b - a) * A) ((a + c - b) * B) ((b + d - c) * C) ((c + e - d) * D') ((d + f - e) * E) ((e + a - f) * F))] = some (.int (mx a b c d e f A B C D' E F)) := by kernel_rfl
  unfold m_mixed g_mixed
  simp (implicitDefEqProofs := false) (maxSteps := 100000000) (disch := omega) only [c_bind, bnd_ok, bnd_err, r_pure, r_c, ifb_t, ifb_f, ifk_ok, c_eif, c_if, c_or, c_and, toB_ok, c_asB, ntk_ok, c_not, ntv_ok, c_vnot, ifv_ok, c_vand, c_vor, opk_ok, r_opt, c_bin, nowk_im, nowk_ow, nowk_io, c_itemN, c_binN, c_acons, vark_im, vark_ow, c_var, c_call0, callk_ok, callk_err, r_call1, r_call2, r_call3, c_callK, pick10, pick01, pick0,
      ownk_ow, ownk_io, rok_ok, c_callO, tabk_s, c_tab, seqk_nx, seqk_ret, seqk_brk, seqk_cnt, seqk_err, c_seq, r_nx, c_ret, c_drop, somek_ok, c_asg, r_btup2, r_btup3, obk_ok, r_bcons, r_bnil, c_for, r_loop0, r_loop, lp1_ok, lp2_nx, lp2_cnt, lp2_brk, lp2_ret, mutk_ok, c_mut, setk_ok, lk_ok, c_setI, olk_ok, c_rng1, runk_ret, runk_nx, runk_err, r_run, runok_ret, r_runO,
      eqI, neI, neB, eqB, catI, subI, gtI, ltI, leI, geI, modI, ngk_ok, c_neg, intI, ixt20, ixt21, ixt30, ixt31, ixt32, rng_6, rng_9, b_eqT, b_eqF, b_ltT, b_ltF, b_leT, b_leF, r_name, r_mkT, r_mkL, c_own, LIM_eq,
      List.getElem?_cons_succ, List.getElem?_cons_zero, List.set_cons_succ, List.set_cons_zero, List.length_cons, List.length_nil, List.map_cons, List.map_nil, List.replicate_succ, List.replicate_zero, List.cons_append, List.nil_append, Nat.reduceAdd, Nat.reduceSub, Nat.reduceLT, Nat.reduceEqDiff, Nat.reduceLeDiff, if_true, ite_true, ite_false, ↓reduceIte, true_and, and_true, and_self, Bool.not_true, Bool.not_false, beq_self_eq_true, Int.reduceLT, Int.reduceBEq, Int.reduceMod, Int.reduceAdd, Int.reduceSub, Int.reduceNeg, Int.reduceLE, decide_true, decide_false, r_lc0, r_lc, lc1_ok, lc2_f, lc2_t, lc3_ok, c_comp, c_scomp, wipe0, wipe1, c_key, kyk_l, kyj_ok, kyi_ok, r_keys0, r_keys, kok_ok, r_cap0, r_cap, cpk_ok, arg0, arg1, arg2, ltK_eq, gtK_eq, kAt0, kAt1, kAt2, c_lam, lmk_ok, lmj_ok, r_thunk, thk_ok, thk_err, chk_t, chk_f, c_chain, c_raise1, err1_ok, MOd, put_0i, put_0o, put_s, itk_l, itk_t, c_items, r_app, r_isL, c_fld, c_prop, prk_ok, okD_ok, c_meth, c_methK, c_makeN, c_statK, c_tupk, tupl_l, c_zipP, zpk_ok, c_enumP, enk_ok, c_comp2, zip6, enum6, Bool.false_eq_true, w0, w1, w2, w3, w4, w5, m0, s0, f0, e0]
theorem area_ok (h : Bd BIG a b c d e f) : m_Pen_area [PN a b c d e f] = .ok (.int (mx a b c d e f a b c d e f)) := by
  obtain ⟨⟨h0, h1, h2⟩, h3, h4, h5⟩ := h
  have w0 := mulX_ok (wide_sr (n := 0) h5 h1 h0 h0)
  have w1 := mulX_ok (wide_sr (n := 0) h0 h2 h1 h1)
  have w2 := mulX_ok (wide_sr (n := 0) h1 h3 h2 h2)
  have w3 := mulX_ok (wide_sr (n := 0) h2 h4 h3 h3)
  have w4 := mulX_ok (wide_sr (n := 0) h3 h5 h4 h4)
  have w5 := mulX_ok (wide_sr (n := 0) h4 h0 h5 h5)
  have m0 := mtk_ok (m := "sides") (n := 1) (g := m_Pen_sides) (gs := M.pure []) (δ := [.im (PN a b c d e f), .no, .no]) (met_sides a b c d e f)
  have s0 := psides_ok a b c d e f
  have f0 := fld_r a b c d e f
  have e0 : fSum2 [.lst (I6 ((f + b - a) * a) ((a + c - b) * b) ((b + d - c) * c) ((c + e - d) * d) ((d + f - e) * e) ((e + a - f) * f))] = some (.int (mx a b c d e f a b c d e f)) := by kernel_rfl
  unfold m_Pen_area g_Pen_area
  simp (implicitDefEqProofs := false) (maxSteps := 100000000) (disch := omega) only [c_bind, bnd_ok, bnd_err, r_pure, r_c, ifb_t, ifb_f, ifk_ok, c_eif, c_if, c_or, c_and, toB_ok, c_asB, ntk_ok, c_not, ntv_ok, c_vnot, ifv_ok, c_vand, c_vor, opk_ok, r_opt, c_bin, nowk_im, nowk_ow, nowk_io, c_itemN, c_binN, c_acons, vark_im, vark_ow, c_var, c_call0, callk_ok, callk_err, r_call1, r_call2, r_call3, c_callK, pick10, pick01, pick0,
      ownk_ow, ownk_io, rok_ok, c_callO, tabk_s, c_tab, seqk_nx, seqk_ret, seqk_brk, seqk_cnt, seqk_err, c_seq, r_nx, c_ret, c_drop, somek_ok, c_asg, r_btup2, r_btup3, obk_ok, r_bcons, r_bnil, c_for, r_loop0, r_loop, lp1_ok, lp2_nx, lp2_cnt, lp2_brk, lp2_ret, mutk_ok, c_mut, setk_ok, lk_ok, c_setI, olk_ok, c_rng1, runk_ret, runk_nx, runk_err, r_run, runok_ret, r_runO,
      eqI, neI, neB, eqB, catI, subI, gtI, ltI, leI, geI, modI, ngk_ok, c_neg, intI, ixt20, ixt21, ixt30, ixt31, ixt32, rng_6, rng_9, b_eqT, b_eqF, b_ltT, b_ltF, b_leT, b_leF, r_name, r_mkT, r_mkL, c_own, LIM_eq,
      List.getElem?_cons_succ, List.getElem?_cons_zero, List.set_cons_succ, List.set_cons_zero, List.length_cons, List.length_nil, List.map_cons, List.map_nil, List.replicate_succ, List.replicate_zero, List.cons_append, List.nil_append, Nat.reduceAdd, Nat.reduceSub, Nat.reduceLT, Nat.reduceEqDiff, Nat.reduceLeDiff, if_true, ite_true, ite_false, ↓reduceIte, true_and, and_true, and_self, Bool.not_true, Bool.not_false, beq_self_eq_true, Int.reduceLT, Int.reduceBEq, Int.reduceMod, Int.reduceAdd, Int.reduceSub, Int.reduceNeg, Int.reduceLE, decide_true, decide_false, r_lc0, r_lc, lc1_ok, lc2_f, lc2_t, lc3_ok, c_comp, c_scomp, wipe0, wipe1, c_key, kyk_l, kyj_ok, kyi_ok, r_keys0, r_keys, kok_ok, r_cap0, r_cap, cpk_ok, arg0, arg1, arg2, ltK_eq, gtK_eq, kAt0, kAt1, kAt2, c_lam, lmk_ok, lmj_ok, r_thunk, thk_ok, thk_err, chk_t, chk_f, c_chain, c_raise1, err1_ok, MOd, put_0i, put_0o, put_s, itk_l, itk_t, c_items, r_app, r_isL, c_fld, c_prop, prk_ok, okD_ok, c_meth, c_methK, c_makeN, c_statK, c_tupk, tupl_l, c_zipP, zpk_ok, c_enumP, enk_ok, c_comp2, zip6, enum6, Bool.false_eq_true, w0, w1, w2, w3, w4, w5, m0, s0, f0, e0]
theorem lmixed_ok (h : Bd BIG a b c d e f) (h' : Bd BIG A B C D' E F) : m_u_law_mixed [R6 a b c d e f, R6 A B C D' E F] = .ok (.int (mx a b c d e f A B C D' E F)) := by
  obtain ⟨⟨h0, h1, h2⟩, h3, h4, h5⟩ := h
  obtain ⟨⟨k0, k1, k2⟩, k3, k4, k5⟩ := h'
  have w0 := mulX_ok (wide_sr (n := 0) h5 h1 h0 k0)
  have w1 := mulX_ok (wide_sr (n := 0) h0 h2 h1 k1)
  have w2 := mulX_ok (wide_sr (n := 0) h1 h3 h2 k2)
  have w3 := mulX_ok (wide_sr (n := 0) h2 h4 h3 k3)
  have w4 := mulX_ok (wide_sr (n := 0) h3 h5 h4 k4)
  have w5 := mulX_ok (wide_sr (n := 0) h4 h0 h5 k5)
  have s0 := sides_ok a b c d e f
  have r6 : rng1 [.int 6] = some [.int 0, .int 1, .int 2, .int 3, .int 4, .int 5] := by kernel_rfl
  have i0 : ∀ x0 x1 x2 x3 x4 x5 : Int, dIx (.lst (I6 x0 x1 x2 x3 x4 x5)) (.int 0) = some (.int x0) := fun _ _ _ _ _ _ => by kernel_rfl
  have i1 : ∀ x0 x1 x2 x3 x4 x5 : Int, dIx (.lst (I6 x0 x1 x2 x3 x4 x5)) (.int 1) = some (.int x1) := fun _ _ _ _ _ _ => by kernel_rfl
  have i2 : ∀ x0 x1 x2 x3 x4 x5 : Int, dIx (.lst (I6 x0 x1 x2 x3 x4 x5)) (.int 2) = some (.int x2) := fun _ _ _ _ _ _ => by kernel_rfl
  have i3 : ∀ x0 x1 x2 x3 x4 x5 : Int, dIx (.lst (I6 x0 x1 x2 x3 x4 x5)) (.int 3) = some (.int x3) := fun _ _ _ _ _ _ => by kernel_rfl
  have i4 : ∀ x0 x1 x2 x3 x4 x5 : Int, dIx (.lst (I6 x0 x1 x2 x3 x4 x5)) (.int 4) = some (.int x4) := fun _ _ _ _ _ _ => by kernel_rfl
  have i5 : ∀ x0 x1 x2 x3 x4 x5 : Int, dIx (.lst (I6 x0 x1 x2 x3 x4 x5)) (.int 5) = some (.int x5) := fun _ _ _ _ _ _ => by kernel_rfl
  have e0 : fSum2 [.lst (I6 ((f + b - a) * A) ((a + c - b) * B) ((b + d - c) * C) ((c + e - d) * D') ((d + f - e) * E) ((e + a - f) * F))] = some (.int (mx a b c d e f A B C D' E F)) := by kernel_rfl
  unfold m_u_law_mixed g_u_law_mixed
  simp (implicitDefEqProofs := false) (maxSteps := 100000000) (disch := omega) only [c_bind, bnd_ok, bnd_err, r_pure, r_c, ifb_t, ifb_f, ifk_ok, c_eif, c_if, c_or, c_and, toB_ok, c_asB, ntk_ok, c_not, ntv_ok, c_vnot, ifv_ok, c_vand, c_vor, opk_ok, r_opt, c_bin, nowk_im, nowk_ow, nowk_io, c_itemN, c_binN, c_acons, vark_im, vark_ow, c_var, c_call0, callk_ok, callk_err, r_call1, r_call2, r_call3, c_callK, pick10, pick01, pick0,
      ownk_ow, ownk_io, rok_ok, c_callO, tabk_s, c_tab, seqk_nx, seqk_ret, seqk_brk, seqk_cnt, seqk_err, c_seq, r_nx, c_ret, c_drop, somek_ok, c_asg, r_btup2, r_btup3, obk_ok, r_bcons, r_bnil, c_for, r_loop0, r_loop, lp1_ok, lp2_nx, lp2_cnt, lp2_brk, lp2_ret, mutk_ok, c_mut, setk_ok, lk_ok, c_setI, olk_ok, c_rng1, runk_ret, runk_nx, runk_err, r_run, runok_ret, r_runO,
      eqI, neI, neB, eqB, catI, subI, gtI, ltI, leI, geI, modI, ngk_ok, c_neg, intI, ixt20, ixt21, ixt30, ixt31, ixt32, rng_6, rng_9, b_eqT, b_eqF, b_ltT, b_ltF, b_leT, b_leF, r_name, r_mkT, r_mkL, c_own, LIM_eq,
      List.getElem?_cons_succ, List.getElem?_cons_zero, List.set_cons_succ, List.set_cons_zero, List.length_cons, List.length_nil, List.map_cons, List.map_nil, List.replicate_succ, List.replicate_zero, List.cons_append, List.nil_append, Nat.reduceAdd, Nat.reduceSub, Nat.reduceLT, Nat.reduceEqDiff, Nat.reduceLeDiff, if_true, ite_true, ite_false, ↓reduceIte, true_and, and_true, and_self, Bool.not_true, Bool.not_false, beq_self_eq_true, Int.reduceLT, Int.reduceBEq, Int.reduceMod, Int.reduceAdd, Int.reduceSub, Int.reduceNeg, Int.reduceLE, decide_true, decide_false, r_lc0, r_lc, lc1_ok, lc2_f, lc2_t, lc3_ok, c_comp, c_scomp, wipe0, wipe1, c_key, kyk_l, kyj_ok, kyi_ok, r_keys0, r_keys, kok_ok, r_cap0, r_cap, cpk_ok, arg0, arg1, arg2, ltK_eq, gtK_eq, kAt0, kAt1, kAt2, c_lam, lmk_ok, lmj_ok, r_thunk, thk_ok, thk_err, chk_t, chk_f, c_chain, c_raise1, err1_ok, MOd, put_0i, put_0o, put_s, itk_l, itk_t, c_items, r_app, r_isL, c_fld, c_prop, prk_ok, okD_ok, c_meth, c_methK, c_makeN, c_statK, c_tupk, tupl_l, c_zipP, zpk_ok, c_enumP, enk_ok, c_comp2, zip6, enum6, Bool.false_eq_true, w0, w1, w2, w3, w4, w5, s0, e0, r6, i0, i1, i2, i3, i4, i5]
end
end T
set_option Elab.async false
set_option linter.all false
set_option maxRecDepth 100000
set_option maxHeartbeats 4000000
namespace T
open PySem PySem.Spec PyProof.Rows L2 LamX PL
variable [Tbls]
section
variable {a b c d e f A B C D' E F x y n : Int}
theorem mx_comm : mx A B C D' E F a b c d e f = mx a b c d e f A B C D' E F := by
  unfold mx
  simp only [List.sum_cons, List.sum_nil]
  grind
theorem mx_moveL : mx (a + (x + y)) (b + y) (c + -x) (d + -(x + y)) (e + -y) (f + - -x) A B C D' E F = mx a b c d e f A B C D' E F := by
  unfold mx
  simp only [List.sum_cons, List.sum_nil]
  grind
theorem mx_evenL : mx n n n n n n a b c d e f = n * rim a b c d e f := by
  unfold mx rim
  simp only [List.sum_cons, List.sum_nil]
  grind
theorem mx_even : mx a b c d e f n n n n n n = n * rim a b c d e f := by rw [mx_comm, mx_evenL]
abbrev MID : Nat := 10 ^ 45
theorem Bd.up (h : Bd MID a b c d e f) : Bd BIG a b c d e f := by
  have p : MID ≤ BIG := by decide +kernel
  obtain ⟨⟨h0, h1, h2⟩, h3, h4, h5⟩ := h
  exact ⟨⟨Nat.le_trans h0 p, Nat.le_trans h1 p, Nat.le_trans h2 p⟩, Nat.le_trans h3 p, Nat.le_trans h4 p, Nat.le_trans h5 p⟩
theorem Bd.moved (h : Bd MID a b c d e f) (hx : x.natAbs ≤ MID) (hy : y.natAbs ≤ MID) : Bd BIG (a + (x + y)) (b + y) (c + -x) (d + -(x + y)) (e + -y) (f + - -x) := by
  have p : MID * 3 ≤ BIG := by decide +kernel
  obtain ⟨⟨h0, h1, h2⟩, h3, h4, h5⟩ := h
  unfold Bd
  generalize MID = N at *
  generalize BIG = M at *
  refine ⟨⟨?_, ?_, ?_⟩, ?_, ?_, ?_⟩ <;> omega
theorem Bd.even (hn : n.natAbs ≤ MID) : Bd BIG n n n n n n := Bd.up ⟨⟨hn, hn, hn⟩, hn, hn, hn⟩
theorem rim_wide (h : Bd MID a b c d e f) (hn : n.natAbs ≤ MID) : wideOk n (rim a b c d e f) = true := by
  have p : MID * 18 ≤ BIG := by decide +kernel
  have p2 : MID ≤ BIG := by decide +kernel
  have z : (rim a b c d e f).natAbs ≤ BIG := by
    obtain ⟨⟨h0, h1, h2⟩, h3, h4, h5⟩ := h
    unfold rim
    simp only [List.sum_cons, List.sum_nil]
    generalize MID = N at *
    generalize BIG = M at *
    omega
  have e : wideOk (n + 0 - 0) (rim a b c d e f) = true := wide_sr (n := 0) (Nat.le_trans hn p2) (Nat.zero_le _) (Nat.zero_le _) z
  rwa [Int.add_zero, Int.sub_zero] at e
theorem pl_ints {k : Nat} {l : List Int} (h : l.length ≤ 1000) : pl (k + 2) (.lst (l.map D.int)) = true := by
  unfold pl
  simp only [Bool.and_eq_true, List.all_eq_true, decide_eq_true_eq, List.length_map]
  refine ⟨fun d hd => ?_, h⟩
  obtain ⟨i, _, rfl⟩ := List.mem_map.mp hd
  rfl
theorem mixed_fits_ok (h : Bd MID a b c d e f) (h' : Bd MID A B C D' E F) (hx : x.natAbs ≤ MID) (hy : y.natAbs ≤ MID) (hn : n.natAbs ≤ MID) :
    m_u_law_mixed_fits [R6 a b c d e f, R6 A B C D' E F, P2 x y, .int n] = .ok (.bl true) := by
  have q0 := fun δ => mk_pen a b c d e f δ
  have q1 := fun δ => mk_pen A B C D' E F δ
  have mv := moved_ok a b c d e f x y
  have q2 := fun δ => mk_pen (a + (x + y)) (b + y) (c + -x) (d + -(x + y)) (e + -y) (f + - -x) δ
  have v0 := lmixed_ok h.up h'.up
  have v1 := mixed_ok h.up h'.up
  have v2 : m_mixed [PN A B C D' E F, PN a b c d e f] = .ok (.int (mx a b c d e f A B C D' E F)) := by rw [mixed_ok h'.up h.up, mx_comm]
  have v3 : m_mixed [PN (a + (x + y)) (b + y) (c + -x) (d + -(x + y)) (e + -y) (f + - -x), PN A B C D' E F] = .ok (.int (mx a b c d e f A B C D' E F)) := by rw [mixed_ok (h.moved hx hy) h'.up, mx_moveL]
  have v4 : m_mixed [PN A B C D' E F, PN (a + (x + y)) (b + y) (c + -x) (d + -(x + y)) (e + -y) (f + - -x)] = .ok (.int (mx a b c d e f A B C D' E F)) := by rw [mixed_ok h'.up (h.moved hx hy), mx_comm, mx_moveL]
  have v5 : m_mixed [PN a b c d e f, PN n n n n n n] = .ok (.int (n * rim a b c d e f)) := by rw [mixed_ok h.up (Bd.even hn), mx_even]
  have v6 : m_mixed [PN n n n n n n, PN a b c d e f] = .ok (.int (n * rim a b c d e f)) := by rw [mixed_ok (Bd.even hn) h.up, mx_evenL]
  have v7 : m_mixed [PN a b c d e f, PN 1 1 1 1 1 1] = .ok (.int (rim a b c d e f)) := by rw [mixed_ok h.up (Bd.even (n := 1) (by decide)), mx_even, Int.one_mul]
  have ev := even_ok n
  have e1 := even_ok 1
  have rm := rim_ok a b c d e f
  have lr := lrim_ok a b c d e f
  have ls := sides_ok a b c d e f
  have w0 := mulX_ok (rim_wide h hn)
  have r5 : rng1 [.int 5] = some [.int 0, .int 1, .int 2, .int 3, .int 4] := by kernel_rfl
  generalize mx a b c d e f A B C D' E F = M at *
  generalize rim a b c d e f = RM at *
  have s5 : m_u_law_same 5 [.lst [.int M, .int M, .int M, .int M, .int M], .lst [.int M, .int M, .int M, .int M, .int M]] = .ok (.bl true) := same_refl (pl_ints (l := [M, M, M, M, M]) (by simp))
  have s2 : m_u_law_same 5 [.lst [.int (n * RM), .int (n * RM)], .lst [.int (n * RM), .int (n * RM)]] = .ok (.bl true) := same_refl (pl_ints (l := [n * RM, n * RM]) (by simp))
  have s3 : m_u_law_same 5 [.lst [.int RM, .int RM], .lst [.int RM, .int RM]] = .ok (.bl true) := same_refl (pl_ints (l := [RM, RM]) (by simp))
  unfold m_u_law_mixed_fits g_u_law_mixed_fits
  simp (implicitDefEqProofs := false) (maxSteps := 100000000) (disch := omega) only [c_bind, bnd_ok, bnd_err, r_pure, r_c, ifb_t, ifb_f, ifk_ok, c_eif, c_if, c_or, c_and, toB_ok, c_asB, ntk_ok, c_not, ntv_ok, c_vnot, ifv_ok, c_vand, c_vor, opk_ok, r_opt, c_bin, nowk_im, nowk_ow, nowk_io, c_itemN, c_binN, c_acons, vark_im, vark_ow, c_var, c_call0, callk_ok, callk_err, r_call1, r_call2, r_call3, c_callK, pick10, pick01, pick0,
      ownk_ow, ownk_io, rok_ok, c_callO, tabk_s, c_tab, seqk_nx, seqk_ret, seqk_brk, seqk_cnt, seqk_err, c_seq, r_nx, c_ret, c_drop, somek_ok, c_asg, r_btup2, r_btup3, obk_ok, r_bcons, r_bnil, c_for, r_loop0, r_loop, lp1_ok, lp2_nx, lp2_cnt, lp2_brk, lp2_ret, mutk_ok, c_mut, setk_ok, lk_ok, c_setI, olk_ok, c_rng1, runk_ret, runk_nx, runk_err, r_run, runok_ret, r_runO,
      eqI, neI, neB, eqB, catI, subI, gtI, ltI, leI, geI, modI, ngk_ok, c_neg, intI, ixt20, ixt21, ixt30, ixt31, ixt32, rng_6, rng_9, b_eqT, b_eqF, b_ltT, b_ltF, b_leT, b_leF, r_name, r_mkT, r_mkL, c_own, LIM_eq,
      List.getElem?_cons_succ, List.getElem?_cons_zero, List.set_cons_succ, List.set_cons_zero, List.length_cons, List.length_nil, List.map_cons, List.map_nil, List.replicate_succ, List.replicate_zero, List.cons_append, List.nil_append, Nat.reduceAdd, Nat.reduceSub, Nat.reduceLT, Nat.reduceEqDiff, Nat.reduceLeDiff, if_true, ite_true, ite_false, ↓reduceIte, true_and, and_true, and_self, Bool.not_true, Bool.not_false, beq_self_eq_true, Int.reduceLT, Int.reduceBEq, Int.reduceMod, Int.reduceAdd, Int.reduceSub, Int.reduceNeg, Int.reduceLE, decide_true, decide_false, r_lc0, r_lc, lc1_ok, lc2_f, lc2_t, lc3_ok, c_comp, c_scomp, wipe0, wipe1, c_key, kyk_l, kyj_ok, kyi_ok, r_keys0, r_keys, kok_ok, r_cap0, r_cap, cpk_ok, arg0, arg1, arg2, ltK_eq, gtK_eq, kAt0, kAt1, kAt2, c_lam, lmk_ok, lmj_ok, r_thunk, thk_ok, thk_err, chk_t, chk_f, c_chain, c_raise1, err1_ok, MOd, put_0i, put_0o, put_s, itk_l, itk_t, c_items, r_app, r_isL, c_fld, c_prop, prk_ok, okD_ok, c_meth, c_methK, c_makeN, c_statK, c_tupk, tupl_l, c_zipP, zpk_ok, c_enumP, enk_ok, c_comp2, zip6, enum6, Bool.false_eq_true, q0, q1, mv, q2, v0, v1, v2, v3, v4, v5, v6, v7, ev, e1, rm, lr, ls, w0, r5, s5, s2, s3]
end
end T
set_option Elab.async false
set_option linter.all false
set_option maxRecDepth 100000
set_option maxHeartbeats 4000000
namespace T
open PySem PySem.Spec PyProof.Rows L2 LamX PL
variable [Tbls]
theorem lp2_err {x : Exn} {δ : En} {bd : PL.Bd} {body : S} {ds : List D} : lp2 (.err x δ) bd body ds = .err x δ := rfl
def sd (a b c d e f k : Int) : Int := if k = 0 then f + b - a else if k = 1 then a + c - b else if k = 2 then b + d - c else if k = 3 then c + e - d else if k = 4 then d + f - e else e + a - f
def bel (a b c d e f : Int) : List Int := [0, 1, 2, 3, 4, 5].filter fun k => decide (sd a b c d e f k < 0)
theorem bel_len (a b c d e f : Int) : (bel a b c d e f).length ≤ 6 := List.length_filter_le _ _
def tsd (a b c d e f : Int) (x : D) : Bool := match x with
  | .int k => decide (sd a b c d e f k < 0)
  | _ => false
section
variable {a b c d e f A B C D' E F x y n : Int}
theorem bel_loop0 (S : D) (z : Sl) : loopC (bName 3) (asB (eBin dLt (eBin dIx (M.bind (aCons (eVar 0) (M.pure [])) (callN 1 m_u_law_sides)) (eVar 3)) (eC (.int 0)))) (eVar 3) [3] [.int 0, .int 1, .int 2, .int 3, .int 4, .int 5] [] [.im (R6 a b c d e f), .im S, z, .no] = .ok ((bel a b c d e f).map D.int) [.im (R6 a b c d e f), .im S, z, .no] := by
  have e := loopC_all (bd := bName 3) (gt := asB (eBin dLt (eBin dIx (M.bind (aCons (eVar 0) (M.pure [])) (callN 1 m_u_law_sides)) (eVar 3)) (eC (.int 0)))) (ge := eVar 3) (vl := [3]) (δ := [.im (R6 a b c d e f), .im S, z, .no]) (t := tsd a b c d e f) (f := id) (ds := [.int 0, .int 1, .int 2, .int 3, .int 4, .int 5]) (acc := []) (fun q hq => ?_) (by rw [LIM_eq, List.length_nil]; simp)
  · rw [e, List.nil_append, List.map_id]
    have : ([.int 0, .int 1, .int 2, .int 3, .int 4, .int 5] : List D) = ([0, 1, 2, 3, 4, 5] : List Int).map D.int := rfl
    rw [this, List.filter_map]
    rfl
  · have s0 := sides_ok a b c d e f
    simp only [List.mem_cons, List.not_mem_nil, or_false] at hq
    rcases hq with rfl | rfl | rfl | rfl | rfl | rfl
    · have t0 : tsd a b c d e f (.int 0) = decide (f + b - a < 0) := rfl
      have i0 : dIx (.lst (S6 a b c d e f)) (.int 0) = some (.int (f + b - a)) := by kernel_rfl
      refine ⟨[.im (R6 a b c d e f), .im S, z, .im (.int 0)], [.im (R6 a b c d e f), .im S, z, .im (.int 0)], rfl, ?_, rfl, fun _ => ⟨[.im (R6 a b c d e f), .im S, z, .im (.int 0)], rfl, rfl⟩⟩
      rw [t0]
      simp (implicitDefEqProofs := false) (maxSteps := 100000000) (disch := omega) only [c_bind, bnd_ok, bnd_err, r_pure, r_c, ifb_t, ifb_f, ifk_ok, c_eif, c_if, c_or, c_and, toB_ok, c_asB, ntk_ok, c_not, ntv_ok, c_vnot, ifv_ok, c_vand, c_vor, opk_ok, r_opt, c_bin, nowk_im, nowk_ow, nowk_io, c_itemN, c_binN, c_acons, vark_im, vark_ow, c_var, c_call0, callk_ok, callk_err, r_call1, r_call2, r_call3, c_callK, pick10, pick01, pick0,
      ownk_ow, ownk_io, rok_ok, c_callO, tabk_s, c_tab, seqk_nx, seqk_ret, seqk_brk, seqk_cnt, seqk_err, c_seq, r_nx, c_ret, c_drop, somek_ok, c_asg, r_btup2, r_btup3, obk_ok, r_bcons, r_bnil, c_for, r_loop0, r_loop, lp1_ok, lp2_nx, lp2_cnt, lp2_brk, lp2_ret, mutk_ok, c_mut, setk_ok, lk_ok, c_setI, olk_ok, c_rng1, runk_ret, runk_nx, runk_err, r_run, runok_ret, r_runO,
      eqI, neI, neB, eqB, catI, subI, gtI, ltI, leI, geI, modI, ngk_ok, c_neg, intI, ixt20, ixt21, ixt30, ixt31, ixt32, rng_6, rng_9, b_eqT, b_eqF, b_ltT, b_ltF, b_leT, b_leF, r_name, r_mkT, r_mkL, c_own, LIM_eq,
      List.getElem?_cons_succ, List.getElem?_cons_zero, List.set_cons_succ, List.set_cons_zero, List.length_cons, List.length_nil, List.map_cons, List.map_nil, List.replicate_succ, List.replicate_zero, List.cons_append, List.nil_append, Nat.reduceAdd, Nat.reduceSub, Nat.reduceLT, Nat.reduceEqDiff, Nat.reduceLeDiff, if_true, ite_true, ite_false, ↓reduceIte, true_and, and_true, and_self, Bool.not_true, Bool.not_false, beq_self_eq_true, Int.reduceLT, Int.reduceBEq, Int.reduceMod, Int.reduceAdd, Int.reduceSub, Int.reduceNeg, Int.reduceLE, decide_true, decide_false, r_lc0, r_lc, lc1_ok, lc2_f, lc2_t, lc3_ok, c_comp, c_scomp, wipe0, wipe1, c_key, kyk_l, kyj_ok, kyi_ok, r_keys0, r_keys, kok_ok, r_cap0, r_cap, cpk_ok, arg0, arg1, arg2, ltK_eq, gtK_eq, kAt0, kAt1, kAt2, c_lam, lmk_ok, lmj_ok, r_thunk, thk_ok, thk_err, chk_t, chk_f, c_chain, c_raise1, err1_ok, MOd, put_0i, put_0o, put_s, itk_l, itk_t, c_items, r_app, r_isL, c_fld, c_prop, prk_ok, okD_ok, c_meth, c_methK, c_makeN, c_statK, c_tupk, tupl_l, c_zipP, zpk_ok, c_enumP, enk_ok, c_comp2, zip6, enum6, Bool.false_eq_true, s0, i0]
    · have t0 : tsd a b c d e f (.int 1) = decide (a + c - b < 0) := rfl
      have i0 : dIx (.lst (S6 a b c d e f)) (.int 1) = some (.int (a + c - b)) := by kernel_rfl
      refine ⟨[.im (R6 a b c d e f), .im S, z, .im (.int 1)], [.im (R6 a b c d e f), .im S, z, .im (.int 1)], rfl, ?_, rfl, fun _ => ⟨[.im (R6 a b c d e f), .im S, z, .im (.int 1)], rfl, rfl⟩⟩
      rw [t0]
      simp (implicitDefEqProofs := false) (maxSteps := 100000000) (disch := omega) only [c_bind, bnd_ok, bnd_err, r_pure, r_c, ifb_t, ifb_f, ifk_ok, c_eif, c_if, c_or, c_and, toB_ok, c_asB, ntk_ok, c_not, ntv_ok, c_vnot, ifv_ok, c_vand, c_vor, opk_ok, r_opt, c_bin, nowk_im, nowk_ow, nowk_io, c_itemN, c_binN, c_acons, vark_im, vark_ow, c_var, c_call0, callk_ok, callk_err, r_call1, r_call2, r_call3, c_callK, pick10, pick01, pick0,
      ownk_ow, ownk_io, rok_ok, c_callO, tabk_s, c_tab, seqk_nx, seqk_ret, seqk_brk, seqk_cnt, seqk_err, c_seq, r_nx, c_ret, c_drop, somek_ok, c_asg, r_btup2, r_btup3, obk_ok, r_bcons, r_bnil, c_for, r_loop0, r_loop, lp1_ok, lp2_nx, lp2_cnt, lp2_brk, lp2_ret, mutk_ok, c_mut, setk_ok, lk_ok, c_setI, olk_ok, c_rng1, runk_ret, runk_nx, runk_err, r_run, runok_ret, r_runO,
      eqI, neI, neB, eqB, catI, subI, gtI, ltI, leI, geI, modI, ngk_ok, c_neg, intI, ixt20, ixt21, ixt30, ixt31, ixt32, rng_6, rng_9, b_eqT, b_eqF, b_ltT, b_ltF, b_leT, b_leF, r_name, r_mkT, r_mkL, c_own, LIM_eq,
      List.getElem?_cons_succ, List.getElem?_cons_zero, List.set_cons_succ, List.set_cons_zero, List.length_cons, List.length_nil, List.map_cons, List.map_nil, List.replicate_succ, List.replicate_zero, List.cons_append, List.nil_append, Nat.reduceAdd, Nat.reduceSub, Nat.reduceLT, Nat.reduceEqDiff, Nat.reduceLeDiff, if_true, ite_true, ite_false, ↓reduceIte, true_and, and_true, and_self, Bool.not_true, Bool.not_false, beq_self_eq_true, Int.reduceLT, Int.reduceBEq, Int.reduceMod, Int.reduceAdd, Int.reduceSub, Int.reduceNeg, Int.reduceLE, decide_true, decide_false, r_lc0, r_lc, lc1_ok, lc2_f, lc2_t, lc3_ok, c_comp, c_scomp, wipe0, wipe1, c_key, kyk_l, kyj_ok, kyi_ok, r_keys0, r_keys, kok_ok, r_cap0, r_cap, cpk_ok, arg0, arg1, arg2, ltK_eq, gtK_eq, kAt0, kAt1, kAt2, c_lam, lmk_ok, lmj_ok, r_thunk, thk_ok, thk_err, chk_t, chk_f, c_chain, c_raise1, err1_ok, MOd, put_0i, put_0o, put_s, itk_l, itk_t, c_items, r_app, r_isL, c_fld, c_prop, prk_ok, okD_ok, c_meth, c_methK, c_makeN, c_statK, c_tupk, tupl_l, c_zipP, zpk_ok, c_enumP, enk_ok, c_comp2, zip6, enum6, Bool.false_eq_true, s0, i0]
    · have t0 : tsd a b c d e f (.int 2) = decide (b + d - c < 0) := rfl
      have i0 : dIx (.lst (S6 a b c d e f)) (.int 2) = some (.int (b + d - c)) := by kernel_rfl
      refine ⟨[.im (R6 a b c d e f), .im S, z, .im (.int 2)], [.im (R6 a b c d e f), .im S, z, .im (.int 2)], rfl, ?_, rfl, fun _ => ⟨[.im (R6 a b c d e f), .im S, z, .im (.int 2)], rfl, rfl⟩⟩
      rw [t0]
      simp (implicitDefEqProofs := false) (maxSteps := 100000000) (disch := omega) only [c_bind, bnd_ok, bnd_err, r_pure, r_c, ifb_t, ifb_f, ifk_ok, c_eif, c_if, c_or, c_and, toB_ok, c_asB, ntk_ok, c_not, ntv_ok, c_vnot, ifv_ok, c_vand, c_vor, opk_ok, r_opt, c_bin, nowk_im, nowk_ow, nowk_io, c_itemN, c_binN, c_acons, vark_im, vark_ow, c_var, c_call0, callk_ok, callk_err, r_call1, r_call2, r_call3, c_callK, pick10, pick01, pick0,
      ownk_ow, ownk_io, rok_ok, c_callO, tabk_s, c_tab, seqk_nx, seqk_ret, seqk_brk, seqk_cnt, seqk_err, c_seq, r_nx, c_ret, c_drop, somek_ok, c_asg, r_btup2, r_btup3, obk_ok, r_bcons, r_bnil, c_for, r_loop0, r_loop, lp1_ok, lp2_nx, lp2_cnt, lp2_brk, lp2_ret, mutk_ok, c_mut, setk_ok, lk_ok, c_setI, olk_ok, c_rng1, runk_ret, runk_nx, runk_err, r_run, runok_ret, r_runO,
      eqI, neI, neB, eqB, catI, subI, gtI, ltI, leI, geI, modI, ngk_ok, c_neg, intI, ixt20, ixt21, ixt30, ixt31, ixt32, rng_6, rng_9, b_eqT, b_eqF, b_ltT, b_ltF, b_leT, b_leF, r_name, r_mkT, r_mkL, c_own, LIM_eq,
      List.getElem?_cons_succ, List.getElem?_cons_zero, List.set_cons_succ, List.set_cons_zero, List.length_cons, List.length_nil, List.map_cons, List.map_nil, List.replicate_succ, List.replicate_zero, List.cons_append, List.nil_append, Nat.reduceAdd, Nat.reduceSub, Nat.reduceLT, Nat.reduceEqDiff, Nat.reduceLeDiff, if_true, ite_true, ite_false, ↓reduceIte, true_and, and_true, and_self, Bool.not_true, Bool.not_false, beq_self_eq_true, Int.reduceLT, Int.reduceBEq, Int.reduceMod, Int.reduceAdd, Int.reduceSub, Int.reduceNeg, Int.reduceLE, decide_true, decide_false, r_lc0, r_lc, lc1_ok, lc2_f, lc2_t, lc3_ok, c_comp, c_scomp, wipe0, wipe1, c_key, kyk_l, kyj_ok, kyi_ok, r_keys0, r_keys, kok_ok, r_cap0, r_cap, cpk_ok, arg0, arg1, arg2, ltK_eq, gtK_eq, kAt0, kAt1, kAt2, c_lam, lmk_ok, lmj_ok, r_thunk, thk_ok, thk_err, chk_t, chk_f, c_chain, c_raise1, err1_ok, MOd, put_0i, put_0o, put_s, itk_l, itk_t, c_items, r_app, r_isL, c_fld, c_prop, prk_ok, okD_ok, c_meth, c_methK, c_makeN, c_statK, c_tupk, tupl_l, c_zipP, zpk_ok, c_enumP, enk_ok, c_comp2, zip6, enum6, Bool.false_eq_true, s0, i0]
    · have t0 : tsd a b c d e f (.int 3) = decide (c + e - d < 0) := rfl
      have i0 : dIx (.lst (S6 a b c d e f)) (.int 3) = some (.int (c + e - d)) := by kernel_rfl
      refine ⟨[.im (R6 a b c d e f), .im S, z, .im (.int 3)], [.im (R6 a b c d e f), .im S, z, .im (.int 3)], rfl, ?_, rfl, fun _ => ⟨[.im (R6 a b c d e f), .im S, z, .im (.int 3)], rfl, rfl⟩⟩
      rw [t0]
      simp (implicitDefEqProofs := false) (maxSteps := 100000000) (disch := omega) only [c_bind, bnd_ok, bnd_err, r_pure, r_c, ifb_t, ifb_f, ifk_ok, c_eif, c_if, c_or, c_and, toB_ok, c_asB, ntk_ok, c_not, ntv_ok, c_vnot, ifv_ok, c_vand, c_vor, opk_ok, r_opt, c_bin, nowk_im, nowk_ow, nowk_io, c_itemN, c_binN, c_acons, vark_im, vark_ow, c_var, c_call0, callk_ok, callk_err, r_call1, r_call2, r_call3, c_callK, pick10, pick01, pick0,
      ownk_ow, ownk_io, rok_ok, c_callO, tabk_s, c_tab, seqk_nx, seqk_ret, seqk_brk, seqk_cnt, seqk_err, c_seq, r_nx, c_ret, c_drop, somek_ok, c_asg, r_btup2, r_btup3, obk_ok, r_bcons, r_bnil, c_for, r_loop0, r_loop, lp1_ok, lp2_nx, lp2_cnt, lp2_brk, lp2_ret, mutk_ok, c_mut, setk_ok, lk_ok, c_setI, olk_ok, c_rng1, runk_ret, runk_nx, runk_err, r_run, runok_ret, r_runO,
      eqI, neI, neB, eqB, catI, subI, gtI, ltI, leI, geI, modI, ngk_ok, c_neg, intI, ixt20, ixt21, ixt30, ixt31, ixt32, rng_6, rng_9, b_eqT, b_eqF, b_ltT, b_ltF, b_leT, b_leF, r_name, r_mkT, r_mkL, c_own, LIM_eq,
      List.getElem?_cons_succ, List.getElem?_cons_zero, List.set_cons_succ, List.set_cons_zero, List.length_cons, List.length_nil, List.map_cons, List.map_nil, List.replicate_succ, List.replicate_zero, List.cons_append, List.nil_append, Nat.reduceAdd, Nat.reduceSub, Nat.reduceLT, Nat.reduceEqDiff, Nat.reduceLeDiff, if_true, ite_true, ite_false, ↓reduceIte, true_and, and_true, and_self, Bool.not_true, Bool.not_false, beq_self_eq_true, Int.reduceLT, Int.reduceBEq, Int.reduceMod, Int.reduceAdd, Int.reduceSub, Int.reduceNeg, Int.reduceLE, decide_true, decide_false, r_lc0, r_lc, lc1_ok, lc2_f, lc2_t, lc3_ok, c_comp, c_scomp, wipe0, wipe1, c_key, kyk_l, kyj_ok, kyi_ok, r_keys0, r_keys, kok_ok, r_cap0, r_cap, cpk_ok, arg0, arg1, arg2, ltK_eq, gtK_eq, kAt0, kAt1, kAt2, c_lam, lmk_ok, lmj_ok, r_thunk, thk_ok, thk_err, chk_t, chk_f, c_chain, c_raise1, err1_ok, MOd, put_0i, put_0o, put_s, itk_l, itk_t, c_items, r_app, r_isL, c_fld, c_prop, prk_ok, okD_ok, c_meth, c_methK, c_makeN, c_statK, c_tupk, tupl_l, c_zipP, zpk_ok, c_enumP, enk_ok, c_comp2, zip6, enum6, Bool.false_eq_true, s0, i0]
    · have t0 : tsd a b c d e f (.int 4) = decide (d + f - e < 0) := rfl
      have i0 : dIx (.lst (S6 a b c d e f)) (.int 4) = some (.int (d + f - e)) := by kernel_rfl
      refine ⟨[.im (R6 a b c d e f), .im S, z, .im (.int 4)], [.im (R6 a b c d e f), .im S, z, .im (.int 4)], rfl, ?_, rfl, fun _ => ⟨[.im (R6 a b c d e f), .im S, z, .im (.int 4)], rfl, rfl⟩⟩
      rw [t0]
      simp (implicitDefEqProofs := false) (maxSteps := 100000000) (disch := omega) only [c_bind, bnd_ok, bnd_err, r_pure, r_c, ifb_t, ifb_f, ifk_ok, c_eif, c_if, c_or, c_and, toB_ok, c_asB, ntk_ok, c_not, ntv_ok, c_vnot, ifv_ok, c_vand, c_vor, opk_ok, r_opt, c_bin, nowk_im, nowk_ow, nowk_io, c_itemN, c_binN, c_acons, vark_im, vark_ow, c_var, c_call0, callk_ok, callk_err, r_call1, r_call2, r_call3, c_callK, pick10, pick01, pick0,
      ownk_ow, ownk_io, rok_ok, c_callO, tabk_s, c_tab, seqk_nx, seqk_ret, seqk_brk, seqk_cnt, seqk_err, c_seq, r_nx, c_ret, c_drop, somek_ok, c_asg, r_btup2, r_btup3, obk_ok, r_bcons, r_bnil, c_for, r_loop0, r_loop, lp1_ok, lp2_nx, lp2_cnt, lp2_brk, lp2_ret, mutk_ok, c_mut, setk_ok, lk_ok, c_setI, olk_ok, c_rng1, runk_ret, runk_nx, runk_err, r_run, runok_ret, r_runO,
      eqI, neI, neB, eqB, catI, subI, gtI, ltI, leI, geI, modI, ngk_ok, c_neg, intI, ixt20, ixt21, ixt30, ixt31, ixt32, rng_6, rng_9, b_eqT, b_eqF, b_ltT, b_ltF, b_leT, b_leF, r_name, r_mkT, r_mkL, c_own, LIM_eq,
      List.getElem?_cons_succ, List.getElem?_cons_zero, List.set_cons_succ, List.set_cons_zero, List.length_cons, List.length_nil, List.map_cons, List.map_nil, List.replicate_succ, List.replicate_zero, List.cons_append, List.nil_append, Nat.reduceAdd, Nat.reduceSub, Nat.reduceLT, Nat.reduceEqDiff, Nat.reduceLeDiff, if_true, ite_true, ite_false, ↓reduceIte, true_and, and_true, and_self, Bool.not_true, Bool.not_false, beq_self_eq_true, Int.reduceLT, Int.reduceBEq, Int.reduceMod, Int.reduceAdd, Int.reduceSub, Int.reduceNeg, Int.reduceLE, decide_true, decide_false, r_lc0, r_lc, lc1_ok, lc2_f, lc2_t, lc3_ok, c_comp, c_scomp, wipe0, wipe1, c_key, kyk_l, kyj_ok, kyi_ok, r_keys0, r_keys, kok_ok, r_cap0, r_cap, cpk_ok, arg0, arg1, arg2, ltK_eq, gtK_eq, kAt0, kAt1, kAt2, c_lam, lmk_ok, lmj_ok, r_thunk, thk_ok, thk_err, chk_t, chk_f, c_chain, c_raise1, err1_ok, MOd, put_0i, put_0o, put_s, itk_l, itk_t, c_items, r_app, r_isL, c_fld, c_prop, prk_ok, okD_ok, c_meth, c_methK, c_makeN, c_statK, c_tupk, tupl_l, c_zipP, zpk_ok, c_enumP, enk_ok, c_comp2, zip6, enum6, Bool.false_eq_true, s0, i0]
    · have t0 : tsd a b c d e f (.int 5) = decide (e + a - f < 0) := rfl
      have i0 : dIx (.lst (S6 a b c d e f)) (.int 5) = some (.int (e + a - f)) := by kernel_rfl
      refine ⟨[.im (R6 a b c d e f), .im S, z, .im (.int 5)], [.im (R6 a b c d e f), .im S, z, .im (.int 5)], rfl, ?_, rfl, fun _ => ⟨[.im (R6 a b c d e f), .im S, z, .im (.int 5)], rfl, rfl⟩⟩
      rw [t0]
      simp (implicitDefEqProofs := false) (maxSteps := 100000000) (disch := omega) only [c_bind, bnd_ok, bnd_err, r_pure, r_c, ifb_t, ifb_f, ifk_ok, c_eif, c_if, c_or, c_and, toB_ok, c_asB, ntk_ok, c_not, ntv_ok, c_vnot, ifv_ok, c_vand, c_vor, opk_ok, r_opt, c_bin, nowk_im, nowk_ow, nowk_io, c_itemN, c_binN, c_acons, vark_im, vark_ow, c_var, c_call0, callk_ok, callk_err, r_call1, r_call2, r_call3, c_callK, pick10, pick01, pick0,
      ownk_ow, ownk_io, rok_ok, c_callO, tabk_s, c_tab, seqk_nx, seqk_ret, seqk_brk, seqk_cnt, seqk_err, c_seq, r_nx, c_ret, c_drop, somek_ok, c_asg, r_btup2, r_btup3, obk_ok, r_bcons, r_bnil, c_for, r_loop0, r_loop, lp1_ok, lp2_nx, lp2_cnt, lp2_brk, lp2_ret, mutk_ok, c_mut, setk_ok, lk_ok, c_setI, olk_ok, c_rng1, runk_ret, runk_nx, runk_err, r_run, runok_ret, r_runO,
      eqI, neI, neB, eqB, catI, subI, gtI, ltI, leI, geI, modI, ngk_ok, c_neg, intI, ixt20, ixt21, ixt30, ixt31, ixt32, rng_6, rng_9, b_eqT, b_eqF, b_ltT, b_ltF, b_leT, b_leF, r_name, r_mkT, r_mkL, c_own, LIM_eq,
      List.getElem?_cons_succ, List.getElem?_cons_zero, List.set_cons_succ, List.set_cons_zero, List.length_cons, List.length_nil, List.map_cons, List.map_nil, List.replicate_succ, List.replicate_zero, List.cons_append, List.nil_append, Nat.reduceAdd, Nat.reduceSub, Nat.reduceLT, Nat.reduceEqDiff, Nat.reduceLeDiff, if_true, ite_true, ite_false, ↓reduceIte, true_and, and_true, and_self, Bool.not_true, Bool.not_false, beq_self_eq_true, Int.reduceLT, Int.reduceBEq, Int.reduceMod, Int.reduceAdd, Int.reduceSub, Int.reduceNeg, Int.reduceLE, decide_true, decide_false, r_lc0, r_lc, lc1_ok, lc2_f, lc2_t, lc3_ok, c_comp, c_scomp, wipe0, wipe1, c_key, kyk_l, kyj_ok, kyi_ok, r_keys0, r_keys, kok_ok, r_cap0, r_cap, cpk_ok, arg0, arg1, arg2, ltK_eq, gtK_eq, kAt0, kAt1, kAt2, c_lam, lmk_ok, lmj_ok, r_thunk, thk_ok, thk_err, chk_t, chk_f, c_chain, c_raise1, err1_ok, MOd, put_0i, put_0o, put_s, itk_l, itk_t, c_items, r_app, r_isL, c_fld, c_prop, prk_ok, okD_ok, c_meth, c_methK, c_makeN, c_statK, c_tupk, tupl_l, c_zipP, zpk_ok, c_enumP, enk_ok, c_comp2, zip6, enum6, Bool.false_eq_true, s0, i0]
theorem bel_loop1 (S : D) (z : Sl) : loopC (bName 3) (asB (eBin dLt (eBin dIx (M.bind (aCons (eVar 1) (M.pure [])) (callN 1 m_u_law_sides)) (eVar 3)) (eC (.int 0)))) (eVar 3) [3] [.int 0, .int 1, .int 2, .int 3, .int 4, .int 5] [] [.im S, .im (R6 a b c d e f), z, .no] = .ok ((bel a b c d e f).map D.int) [.im S, .im (R6 a b c d e f), z, .no] := by
  have e := loopC_all (bd := bName 3) (gt := asB (eBin dLt (eBin dIx (M.bind (aCons (eVar 1) (M.pure [])) (callN 1 m_u_law_sides)) (eVar 3)) (eC (.int 0)))) (ge := eVar 3) (vl := [3]) (δ := [.im S, .im (R6 a b c d e f), z, .no]) (t := tsd a b c d e f) (f := id) (ds := [.int 0, .int 1, .int 2, .int 3, .int 4, .int 5]) (acc := []) (fun q hq => ?_) (by rw [LIM_eq, List.length_nil]; simp)
  · rw [e, List.nil_append, List.map_id]
    have : ([.int 0, .int 1, .int 2, .int 3, .int 4, .int 5] : List D) = ([0, 1, 2, 3, 4, 5] : List Int).map D.int := rfl
    rw [this, List.filter_map]
    rfl
  · have s0 := sides_ok a b c d e f
    simp only [List.mem_cons, List.not_mem_nil, or_false] at hq
    rcases hq with rfl | rfl | rfl | rfl | rfl | rfl
    · have t0 : tsd a b c d e f (.int 0) = decide (f + b - a < 0) := rfl
      have i0 : dIx (.lst (S6 a b c d e f)) (.int 0) = some (.int (f + b - a)) := by kernel_rfl
      refine ⟨[.im S, .im (R6 a b c d e f), z, .im (.int 0)], [.im S, .im (R6 a b c d e f), z, .im (.int 0)], rfl, ?_, rfl, fun _ => ⟨[.im S, .im (R6 a b c d e f), z, .im (.int 0)], rfl, rfl⟩⟩
      rw [t0]
      simp (implicitDefEqProofs := false) (maxSteps := 100000000) (disch := omega) only [c_bind, bnd_ok, bnd_err, r_pure, r_c, ifb_t, ifb_f, ifk_ok, c_eif, c_if, c_or, c_and, toB_ok, c_asB, ntk_ok, c_not, ntv_ok, c_vnot, ifv_ok, c_vand, c_vor, opk_ok, r_opt, c_bin, nowk_im, nowk_ow, nowk_io, c_itemN, c_binN, c_acons, vark_im, vark_ow, c_var, c_call0, callk_ok, callk_err, r_call1, r_call2, r_call3, c_callK, pick10, pick01, pick0,
      ownk_ow, ownk_io, rok_ok, c_callO, tabk_s, c_tab, seqk_nx, seqk_ret, seqk_brk, seqk_cnt, seqk_err, c_seq, r_nx, c_ret, c_drop, somek_ok, c_asg, r_btup2, r_btup3, obk_ok, r_bcons, r_bnil, c_for, r_loop0, r_loop, lp1_ok, lp2_nx, lp2_cnt, lp2_brk, lp2_ret, mutk_ok, c_mut, setk_ok, lk_ok, c_setI, olk_ok, c_rng1, runk_ret, runk_nx, runk_err, r_run, runok_ret, r_runO,
      eqI, neI, neB, eqB, catI, subI, gtI, ltI, leI, geI, modI, ngk_ok, c_neg, intI, ixt20, ixt21, ixt30, ixt31, ixt32, rng_6, rng_9, b_eqT, b_eqF, b_ltT, b_ltF, b_leT, b_leF, r_name, r_mkT, r_mkL, c_own, LIM_eq,
      List.getElem?_cons_succ, List.getElem?_cons_zero, List.set_cons_succ, List.set_cons_zero, List.length_cons, List.length_nil, List.map_cons, List.map_nil, List.replicate_succ, List.replicate_zero, List.cons_append, List.nil_append, Nat.reduceAdd, Nat.reduceSub, Nat.reduceLT, Nat.reduceEqDiff, Nat.reduceLeDiff, if_true, ite_true, ite_false, ↓reduceIte, true_and, and_true, and_self, Bool.not_true, Bool.not_false, beq_self_eq_true, Int.reduceLT, Int.reduceBEq, Int.reduceMod, Int.reduceAdd, Int.reduceSub, Int.reduceNeg, Int.reduceLE, decide_true, decide_false, r_lc0, r_lc, lc1_ok, lc2_f, lc2_t, lc3_ok, c_comp, c_scomp, wipe0, wipe1, c_key, kyk_l, kyj_ok, kyi_ok, r_keys0, r_keys, kok_ok, r_cap0, r_cap, cpk_ok, arg0, arg1, arg2, ltK_eq, gtK_eq, kAt0, kAt1, kAt2, c_lam, lmk_ok, lmj_ok, r_thunk, thk_ok, thk_err, chk_t, chk_f, c_chain, c_raise1, err1_ok, MOd, put_0i, put_0o, put_s, itk_l, itk_t, c_items, r_app, r_isL, c_fld, c_prop, prk_ok, okD_ok, c_meth, c_methK, c_makeN, c_statK, c_tupk, tupl_l, c_zipP, zpk_ok, c_enumP, enk_ok, c_comp2, zip6, enum6, Bool.false_eq_true, s0, i0]
    · have t0 : tsd a b c d e f (.int 1) = decide (a + c - b < 0) := rfl
      have i0 : dIx (.lst (S6 a b c d e f)) (.int 1) = some (.int (a + c - b)) := by kernel_rfl
      refine ⟨[.im S, .im (R6 a b c d e f), z, .im (.int 1)], [.im S, .im (R6 a b c d e f), z, .im (.int 1)], rfl, ?_, rfl, fun _ => ⟨[.im S, .im (R6 a b c d e f), z, .im (.int 1)], rfl, rfl⟩⟩
      rw [t0]
      simp (implicitDefEqProofs := false) (maxSteps := 100000000) (disch := omega) only [c_bind, bnd_ok, bnd_err, r_pure, r_c, ifb_t, ifb_f, ifk_ok, c_eif, c_if, c_or, c_and, toB_ok, c_asB, ntk_ok, c_not, ntv_ok, c_vnot, ifv_ok, c_vand, c_vor, opk_ok, r_opt, c_bin, nowk_im, nowk_ow, nowk_io, c_itemN, c_binN, c_acons, vark_im, vark_ow, c_var, c_call0, callk_ok, callk_err, r_call1, r_call2, r_call3, c_callK, pick10, pick01, pick0,
      ownk_ow, ownk_io, rok_ok, c_callO, tabk_s, c_tab, seqk_nx, seqk_ret, seqk_brk, seqk_cnt, seqk_err, c_seq, r_nx, c_ret, c_drop, somek_ok, c_asg, r_btup2, r_btup3, obk_ok, r_bcons, r_bnil, c_for, r_loop0, r_loop, lp1_ok, lp2_nx, lp2_cnt, lp2_brk, lp2_ret, mutk_ok, c_mut, setk_ok, lk_ok, c_setI, olk_ok, c_rng1, runk_ret, runk_nx, runk_err, r_run, runok_ret, r_runO,
      eqI, neI, neB, eqB, catI, subI, gtI, ltI, leI, geI, modI, ngk_ok, c_neg, intI, ixt20, ixt21, ixt30, ixt31, ixt32, rng_6, rng_9, b_eqT, b_eqF, b_ltT, b_ltF, b_leT, b_leF, r_name, r_mkT, r_mkL, c_own, LIM_eq,
      List.getElem?_cons_succ, List.getElem?_cons_zero, List.set_cons_succ, List.set_cons_zero, List.length_cons, List.length_nil, List.map_cons, List.map_nil, List.replicate_succ, List.replicate_zero, List.cons_append, List.nil_append, Nat.reduceAdd, Nat.reduceSub, Nat.reduceLT, Nat.reduceEqDiff, Nat.reduceLeDiff, if_true, ite_true, ite_false, ↓reduceIte, true_and, and_true, and_self, Bool.not_true, Bool.not_false, beq_self_eq_true, Int.reduceLT, Int.reduceBEq, Int.reduceMod, Int.reduceAdd, Int.reduceSub, Int.reduceNeg, Int.reduceLE, decide_true, decide_false, r_lc0, r_lc, lc1_ok, lc2_f, lc2_t, lc3_ok, c_comp, c_scomp, wipe0, wipe1, c_key, kyk_l, kyj_ok, kyi_ok, r_keys0, r_keys, kok_ok, r_cap0, r_cap, cpk_ok, arg0, arg1, arg2, ltK_eq, gtK_eq, kAt0, kAt1, kAt2, c_lam, lmk_ok, lmj_ok, r_thunk, thk_ok, thk_err, chk_t, chk_f, c_chain, c_raise1, err1_ok, MOd, put_0i, put_0o, put_s, itk_l, itk_t, c_items, r_app, r_isL, c_fld, c_prop, prk_ok, okD_ok, c_meth, c_methK, c_makeN, c_statK, c_tupk, tupl_l, c_zipP, zpk_ok, c_enumP, enk_ok, c_comp2, zip6, enum6, Bool.false_eq_true, s0, i0]
    · have t0 : tsd a b c d e f (.int 2) = decide (b + d - c < 0) := rfl
      have i0 : dIx (.lst (S6 a b c d e f)) (.int 2) = some (.int (b + d - c)) := by kernel_rfl
      refine ⟨[.im S, .im (R6 a b c d e f), z, .im (.int 2)], [.im S, .im (R6 a b c d e f), z, .im (.int 2)], rfl, ?_, rfl, fun _ => ⟨[.im S, .im (R6 a b c d e f), z, .im (.int 2)], rfl, rfl⟩⟩
      rw [t0]
      simp (implicitDefEqProofs := false) (maxSteps := 100000000) (disch := omega) only [c_bind, bnd_ok, bnd_err, r_pure, r_c, ifb_t, ifb_f, ifk_ok, c_eif, c_if, c_or, c_and, toB_ok, c_asB, ntk_ok, c_not, ntv_ok, c_vnot, ifv_ok, c_vand, c_vor, opk_ok, r_opt, c_bin, nowk_im, nowk_ow, nowk_io, c_itemN, c_binN, c_acons, vark_im, vark_ow, c_var, c_call0, callk_ok, callk_err, r_call1, r_call2, r_call3, c_callK, pick10, pick01, pick0,
      ownk_ow, ownk_io, rok_ok, c_callO, tabk_s, c_tab, seqk_nx, seqk_ret, seqk_brk, seqk_cnt, seqk_err, c_seq, r_nx, c_ret, c_drop, somek_ok, c_asg, r_btup2, r_btup3, obk_ok, r_bcons, r_bnil, c_for, r_loop0, r_loop, lp1_ok, lp2_nx, lp2_cnt, lp2_brk, lp2_ret, mutk_ok, c_mut, setk_ok, lk_ok, c_setI, olk_ok, c_rng1, runk_ret, runk_nx, runk_err, r_run, runok_ret, r_runO,
      eqI, neI, neB, eqB, catI, subI, gtI, ltI, leI, geI, modI, ngk_ok, c_neg, intI, ixt20, ixt21, ixt30, ixt31, ixt32, rng_6, rng_9, b_eqT, b_eqF, b_ltT, b_ltF, b_leT, b_leF, r_name, r_mkT, r_mkL, c_own, LIM_eq,
      List.getElem?_cons_succ, List.getElem?_cons_zero, List.set_cons_succ, List.set_cons_zero, List.length_cons, List.length_nil, List.map_cons, List.map_nil, List.replicate_succ, List.replicate_zero, List.cons_append, List.nil_append, Nat.reduceAdd, Nat.reduceSub, Nat.reduceLT, Nat.reduceEqDiff, Nat.reduceLeDiff, if_true, ite_true, ite_false, ↓reduceIte, true_and, and_true, and_self, Bool.not_true, Bool.not_false, beq_self_eq_true, Int.reduceLT, Int.reduceBEq, Int.reduceMod, Int.reduceAdd, Int.reduceSub, Int.reduceNeg, Int.reduceLE, decide_true, decide_false, r_lc0, r_lc, lc1_ok, lc2_f, lc2_t, lc3_ok, c_comp, c_scomp, wipe0, wipe1, c_key, kyk_l, kyj_ok, kyi_ok, r_keys0, r_keys, kok_ok, r_cap0, r_cap, cpk_ok, arg0, arg1, arg2, ltK_eq, gtK_eq, kAt0, kAt1, kAt2, c_lam, lmk_ok, lmj_ok, r_thunk, thk_ok, thk_err, chk_t, chk_f, c_chain, c_raise1, err1_ok, MOd, put_0i, put_0o, put_s, itk_l, itk_t, c_items, r_app, r_isL, c_fld, c_prop, prk_ok, okD_ok, c_meth, c_methK, c_makeN, c_statK, c_tupk, tupl_l, c_zipP, zpk_ok, c_enumP, enk_ok, c_comp2, zip6, enum6, Bool.false_eq_true, s0, i0]
    · have t0 : tsd a b c d e f (.int 3) = decide (c + e - d < 0) := rfl
      have i0 : dIx (.lst (S6 a b c d e f)) (.int 3) = some (.int (c + e - d)) := by kernel_rfl
      refine ⟨[.im S, .im (R6 a b c d e f), z, .im (.int 3)], [.im S, .im (R6 a b c d e f), z, .im (.int 3)], rfl, ?_, rfl, fun _ => ⟨[.im S, .im (R6 a b c d e f), z, .im (.int 3)], rfl, rfl⟩⟩
      rw [t0]
      simp (implicitDefEqProofs := false) (maxSteps := 100000000) (disch := omega) only [c_bind, bnd_ok, bnd_err, r_pure, r_c, ifb_t, ifb_f, ifk_ok, c_eif, c_if, c_or, c_and, toB_ok, c_asB, ntk_ok, c_not, ntv_ok, c_vnot, ifv_ok, c_vand, c_vor, opk_ok, r_opt, c_bin, nowk_im, nowk_ow, nowk_io, c_itemN, c_binN, c_acons, vark_im, vark_ow, c_var, c_call0, callk_ok, callk_err, r_call1, r_call2, r_call3, c_callK, pick10, pick01, pick0,
      ownk_ow, ownk_io, rok_ok, c_callO, tabk_s, c_tab, seqk_nx, seqk_ret, seqk_brk, seqk_cnt, seqk_err, c_seq, r_nx, c_ret, c_drop, somek_ok, c_asg, r_btup2, r_btup3, obk_ok, r_bcons, r_bnil, c_for, r_loop0, r_loop, lp1_ok, lp2_nx, lp2_cnt, lp2_brk, lp2_ret, mutk_ok, c_mut, setk_ok, lk_ok, c_setI, olk_ok, c_rng1, runk_ret, runk_nx, runk_err, r_run, runok_ret, r_runO,
      eqI, neI, neB, eqB, catI, subI, gtI, ltI, leI, geI, modI, ngk_ok, c_neg, intI, ixt20, ixt21, ixt30, ixt31, ixt32, rng_6, rng_9, b_eqT, b_eqF, b_ltT, b_ltF, b_leT, b_leF, r_name, r_mkT, r_mkL, c_own, LIM_eq,
      List.getElem?_cons_succ, List.getElem?_cons_zero, List.set_cons_succ, List.set_cons_zero, List.length_cons, List.length_nil, List.map_cons, List.map_nil, List.replicate_succ, List.replicate_zero, List.cons_append, List.nil_append, Nat.reduceAdd, Nat.reduceSub, Nat.reduceLT, Nat.reduceEqDiff, Nat.reduceLeDiff, if_true, ite_true, ite_false, ↓reduceIte, true_and, and_true, and_self, Bool.not_true, Bool.not_false, beq_self_eq_true, Int.reduceLT, Int.reduceBEq, Int.reduceMod, Int.reduceAdd, Int.reduceSub, Int.reduceNeg, Int.reduceLE, decide_true, decide_false, r_lc0, r_lc, lc1_ok, lc2_f, lc2_t, lc3_ok, c_comp, c_scomp, wipe0, wipe1, c_key, kyk_l, kyj_ok, kyi_ok, r_keys0, r_keys, kok_ok, r_cap0, r_cap, cpk_ok, arg0, arg1, arg2, ltK_eq, gtK_eq, kAt0, kAt1, kAt2, c_lam, lmk_ok, lmj_ok, r_thunk, thk_ok, thk_err, chk_t, chk_f, c_chain, c_raise1, err1_ok, MOd, put_0i, put_0o, put_s, itk_l, itk_t, c_items, r_app, r_isL, c_fld, c_prop, prk_ok, okD_ok, c_meth, c_methK, c_makeN, c_statK, c_tupk, tupl_l, c_zipP, zpk_ok, c_enumP, enk_ok, c_comp2, zip6, enum6, Bool.false_eq_true, s0, i0]
    · have t0 : tsd a b c d e f (.int 4) = decide (d + f - e < 0) := rfl
      have i0 : dIx (.lst (S6 a b c d e f)) (.int 4) = some (.int (d + f - e)) := by kernel_rfl
      refine ⟨[.im S, .im (R6 a b c d e f), z, .im (.int 4)], [.im S, .im (R6 a b c d e f), z, .im (.int 4)], rfl, ?_, rfl, fun _ => ⟨[.im S, .im (R6 a b c d e f), z, .im (.int 4)], rfl, rfl⟩⟩
      rw [t0]
      simp (implicitDefEqProofs := false) (maxSteps := 100000000) (disch := omega) only [c_bind, bnd_ok, bnd_err, r_pure, r_c, ifb_t, ifb_f, ifk_ok, c_eif, c_if, c_or, c_and, toB_ok, c_asB, ntk_ok, c_not, ntv_ok, c_vnot, ifv_ok, c_vand, c_vor, opk_ok, r_opt, c_bin, nowk_im, nowk_ow, nowk_io, c_itemN, c_binN, c_acons, vark_im, vark_ow, c_var, c_call0, callk_ok, callk_err, r_call1, r_call2, r_call3, c_callK, pick10, pick01, pick0,
      ownk_ow, ownk_io, rok_ok, c_callO, tabk_s, c_tab, seqk_nx, seqk_ret, seqk_brk, seqk_cnt, seqk_err, c_seq, r_nx, c_ret, c_drop, somek_ok, c_asg, r_btup2, r_btup3, obk_ok, r_bcons, r_bnil, c_for, r_loop0, r_loop, lp1_ok, lp2_nx, lp2_cnt, lp2_brk, lp2_ret, mutk_ok, c_mut, setk_ok, lk_ok, c_setI, olk_ok, c_rng1, runk_ret, runk_nx, runk_err, r_run, runok_ret, r_runO,
      eqI, neI, neB, eqB, catI, subI, gtI, ltI, leI, geI, modI, ngk_ok, c_neg, intI, ixt20, ixt21, ixt30, ixt31, ixt32, rng_6, rng_9, b_eqT, b_eqF, b_ltT, b_ltF, b_leT, b_leF, r_name, r_mkT, r_mkL, c_own, LIM_eq,
      List.getElem?_cons_succ, List.getElem?_cons_zero, List.set_cons_succ, List.set_cons_zero, List.length_cons, List.length_nil, List.map_cons, List.map_nil, List.replicate_succ, List.replicate_zero, List.cons_append, List.nil_append, Nat.reduceAdd, Nat.reduceSub, Nat.reduceLT, Nat.reduceEqDiff, Nat.reduceLeDiff, if_true, ite_true, ite_false, ↓reduceIte, true_and, and_true, and_self, Bool.not_true, Bool.not_false, beq_self_eq_true, Int.reduceLT, Int.reduceBEq, Int.reduceMod, Int.reduceAdd, Int.reduceSub, Int.reduceNeg, Int.reduceLE, decide_true, decide_false, r_lc0, r_lc, lc1_ok, lc2_f, lc2_t, lc3_ok, c_comp, c_scomp, wipe0, wipe1, c_key, kyk_l, kyj_ok, kyi_ok, r_keys0, r_keys, kok_ok, r_cap0, r_cap, cpk_ok, arg0, arg1, arg2, ltK_eq, gtK_eq, kAt0, kAt1, kAt2, c_lam, lmk_ok, lmj_ok, r_thunk, thk_ok, thk_err, chk_t, chk_f, c_chain, c_raise1, err1_ok, MOd, put_0i, put_0o, put_s, itk_l, itk_t, c_items, r_app, r_isL, c_fld, c_prop, prk_ok, okD_ok, c_meth, c_methK, c_makeN, c_statK, c_tupk, tupl_l, c_zipP, zpk_ok, c_enumP, enk_ok, c_comp2, zip6, enum6, Bool.false_eq_true, s0, i0]
    · have t0 : tsd a b c d e f (.int 5) = decide (e + a - f < 0) := rfl
      have i0 : dIx (.lst (S6 a b c d e f)) (.int 5) = some (.int (e + a - f)) := by kernel_rfl
      refine ⟨[.im S, .im (R6 a b c d e f), z, .im (.int 5)], [.im S, .im (R6 a b c d e f), z, .im (.int 5)], rfl, ?_, rfl, fun _ => ⟨[.im S, .im (R6 a b c d e f), z, .im (.int 5)], rfl, rfl⟩⟩
      rw [t0]
      simp (implicitDefEqProofs := false) (maxSteps := 100000000) (disch := omega) only [c_bind, bnd_ok, bnd_err, r_pure, r_c, ifb_t, ifb_f, ifk_ok, c_eif, c_if, c_or, c_and, toB_ok, c_asB, ntk_ok, c_not, ntv_ok, c_vnot, ifv_ok, c_vand, c_vor, opk_ok, r_opt, c_bin, nowk_im, nowk_ow, nowk_io, c_itemN, c_binN, c_acons, vark_im, vark_ow, c_var, c_call0, callk_ok, callk_err, r_call1, r_call2, r_call3, c_callK, pick10, pick01, pick0,
      ownk_ow, ownk_io, rok_ok, c_callO, tabk_s, c_tab, seqk_nx, seqk_ret, seqk_brk, seqk_cnt, seqk_err, c_seq, r_nx, c_ret, c_drop, somek_ok, c_asg, r_btup2, r_btup3, obk_ok, r_bcons, r_bnil, c_for, r_loop0, r_loop, lp1_ok, lp2_nx, lp2_cnt, lp2_brk, lp2_ret, mutk_ok, c_mut, setk_ok, lk_ok, c_setI, olk_ok, c_rng1, runk_ret, runk_nx, runk_err, r_run, runok_ret, r_runO,
      eqI, neI, neB, eqB, catI, subI, gtI, ltI, leI, geI, modI, ngk_ok, c_neg, intI, ixt20, ixt21, ixt30, ixt31, ixt32, rng_6, rng_9, b_eqT, b_eqF, b_ltT, b_ltF, b_leT, b_leF, r_name, r_mkT, r_mkL, c_own, LIM_eq,
      List.getElem?_cons_succ, List.getElem?_cons_zero, List.set_cons_succ, List.set_cons_zero, List.length_cons, List.length_nil, List.map_cons, List.map_nil, List.replicate_succ, List.replicate_zero, List.cons_append, List.nil_append, Nat.reduceAdd, Nat.reduceSub, Nat.reduceLT, Nat.reduceEqDiff, Nat.reduceLeDiff, if_true, ite_true, ite_false, ↓reduceIte, true_and, and_true, and_self, Bool.not_true, Bool.not_false, beq_self_eq_true, Int.reduceLT, Int.reduceBEq, Int.reduceMod, Int.reduceAdd, Int.reduceSub, Int.reduceNeg, Int.reduceLE, decide_true, decide_false, r_lc0, r_lc, lc1_ok, lc2_f, lc2_t, lc3_ok, c_comp, c_scomp, wipe0, wipe1, c_key, kyk_l, kyj_ok, kyi_ok, r_keys0, r_keys, kok_ok, r_cap0, r_cap, cpk_ok, arg0, arg1, arg2, ltK_eq, gtK_eq, kAt0, kAt1, kAt2, c_lam, lmk_ok, lmj_ok, r_thunk, thk_ok, thk_err, chk_t, chk_f, c_chain, c_raise1, err1_ok, MOd, put_0i, put_0o, put_s, itk_l, itk_t, c_items, r_app, r_isL, c_fld, c_prop, prk_ok, okD_ok, c_meth, c_methK, c_makeN, c_statK, c_tupk, tupl_l, c_zipP, zpk_ok, c_enumP, enk_ok, c_comp2, zip6, enum6, Bool.false_eq_true, s0, i0]
theorem drawn_case : (bel a b c d e f = [] ∧ m_check_drawn [PN a b c d e f] = .ok .non ∧ ((0 ≤ f + b - a ∧ 0 ≤ a + c - b ∧ 0 ≤ b + d - c) ∧ 0 ≤ c + e - d ∧ 0 ≤ d + f - e ∧ 0 ≤ e + a - f)) ∨
    ∃ (j : Int) (t : List Int), bel a b c d e f = j :: t ∧ m_check_drawn [PN a b c d e f] = .err ⟨"NotDrawn", [("side", .int j)]⟩ := by
  have s0 := psides_ok a b c d e f
  have m0 := mtk_ok (m := "sides") (n := 1) (g := m_Pen_sides) (gs := M.pure []) (δ := [.im (PN a b c d e f), .no, .no]) (met_sides a b c d e f)
  have le := @lp2_err
  have z0 : sd a b c d e f 0 = f + b - a := rfl
  have z1 : sd a b c d e f 1 = a + c - b := rfl
  have z2 : sd a b c d e f 2 = b + d - c := rfl
  have z3 : sd a b c d e f 3 = c + e - d := rfl
  have z4 : sd a b c d e f 4 = d + f - e := rfl
  have z5 : sd a b c d e f 5 = e + a - f := rfl
  by_cases h0 : f + b - a < 0
  · right
    refine ⟨0, ([1, 2, 3, 4, 5] : List Int).filter fun k => decide (sd a b c d e f k < 0), ?_, ?_⟩
    · unfold bel
      simp only [List.filter_cons, z0, h0, decide_true, decide_false, if_true, if_false, Bool.false_eq_true, ite_false, ite_true]
    · unfold m_check_drawn g_check_drawn
      simp (implicitDefEqProofs := false) (maxSteps := 100000000) (disch := omega) only [c_bind, bnd_ok, bnd_err, r_pure, r_c, ifb_t, ifb_f, ifk_ok, c_eif, c_if, c_or, c_and, toB_ok, c_asB, ntk_ok, c_not, ntv_ok, c_vnot, ifv_ok, c_vand, c_vor, opk_ok, r_opt, c_bin, nowk_im, nowk_ow, nowk_io, c_itemN, c_binN, c_acons, vark_im, vark_ow, c_var, c_call0, callk_ok, callk_err, r_call1, r_call2, r_call3, c_callK, pick10, pick01, pick0,
      ownk_ow, ownk_io, rok_ok, c_callO, tabk_s, c_tab, seqk_nx, seqk_ret, seqk_brk, seqk_cnt, seqk_err, c_seq, r_nx, c_ret, c_drop, somek_ok, c_asg, r_btup2, r_btup3, obk_ok, r_bcons, r_bnil, c_for, r_loop0, r_loop, lp1_ok, lp2_nx, lp2_cnt, lp2_brk, lp2_ret, mutk_ok, c_mut, setk_ok, lk_ok, c_setI, olk_ok, c_rng1, runk_ret, runk_nx, runk_err, r_run, runok_ret, r_runO,
      eqI, neI, neB, eqB, catI, subI, gtI, ltI, leI, geI, modI, ngk_ok, c_neg, intI, ixt20, ixt21, ixt30, ixt31, ixt32, rng_6, rng_9, b_eqT, b_eqF, b_ltT, b_ltF, b_leT, b_leF, r_name, r_mkT, r_mkL, c_own, LIM_eq,
      List.getElem?_cons_succ, List.getElem?_cons_zero, List.set_cons_succ, List.set_cons_zero, List.length_cons, List.length_nil, List.map_cons, List.map_nil, List.replicate_succ, List.replicate_zero, List.cons_append, List.nil_append, Nat.reduceAdd, Nat.reduceSub, Nat.reduceLT, Nat.reduceEqDiff, Nat.reduceLeDiff, if_true, ite_true, ite_false, ↓reduceIte, true_and, and_true, and_self, Bool.not_true, Bool.not_false, beq_self_eq_true, Int.reduceLT, Int.reduceBEq, Int.reduceMod, Int.reduceAdd, Int.reduceSub, Int.reduceNeg, Int.reduceLE, decide_true, decide_false, r_lc0, r_lc, lc1_ok, lc2_f, lc2_t, lc3_ok, c_comp, c_scomp, wipe0, wipe1, c_key, kyk_l, kyj_ok, kyi_ok, r_keys0, r_keys, kok_ok, r_cap0, r_cap, cpk_ok, arg0, arg1, arg2, ltK_eq, gtK_eq, kAt0, kAt1, kAt2, c_lam, lmk_ok, lmj_ok, r_thunk, thk_ok, thk_err, chk_t, chk_f, c_chain, c_raise1, err1_ok, MOd, put_0i, put_0o, put_s, itk_l, itk_t, c_items, r_app, r_isL, c_fld, c_prop, prk_ok, okD_ok, c_meth, c_methK, c_makeN, c_statK, c_tupk, tupl_l, c_zipP, zpk_ok, c_enumP, enk_ok, c_comp2, zip6, enum6, Bool.false_eq_true, s0, m0, le]
  · skip
    by_cases h1 : a + c - b < 0
    · right
      refine ⟨1, ([2, 3, 4, 5] : List Int).filter fun k => decide (sd a b c d e f k < 0), ?_, ?_⟩
      · unfold bel
        simp only [List.filter_cons, z0, z1, h0, h1, decide_true, decide_false, if_true, if_false, Bool.false_eq_true, ite_false, ite_true]
      · unfold m_check_drawn g_check_drawn
        simp (implicitDefEqProofs := false) (maxSteps := 100000000) (disch := omega) only [c_bind, bnd_ok, bnd_err, r_pure, r_c, ifb_t, ifb_f, ifk_ok, c_eif, c_if, c_or, c_and, toB_ok, c_asB, ntk_ok, c_not, ntv_ok, c_vnot, ifv_ok, c_vand, c_vor, opk_ok, r_opt, c_bin, nowk_im, nowk_ow, nowk_io, c_itemN, c_binN, c_acons, vark_im, vark_ow, c_var, c_call0, callk_ok, callk_err, r_call1, r_call2, r_call3, c_callK, pick10, pick01, pick0,
      ownk_ow, ownk_io, rok_ok, c_callO, tabk_s, c_tab, seqk_nx, seqk_ret, seqk_brk, seqk_cnt, seqk_err, c_seq, r_nx, c_ret, c_drop, somek_ok, c_asg, r_btup2, r_btup3, obk_ok, r_bcons, r_bnil, c_for, r_loop0, r_loop, lp1_ok, lp2_nx, lp2_cnt, lp2_brk, lp2_ret, mutk_ok, c_mut, setk_ok, lk_ok, c_setI, olk_ok, c_rng1, runk_ret, runk_nx, runk_err, r_run, runok_ret, r_runO,
      eqI, neI, neB, eqB, catI, subI, gtI, ltI, leI, geI, modI, ngk_ok, c_neg, intI, ixt20, ixt21, ixt30, ixt31, ixt32, rng_6, rng_9, b_eqT, b_eqF, b_ltT, b_ltF, b_leT, b_leF, r_name, r_mkT, r_mkL, c_own, LIM_eq,
      List.getElem?_cons_succ, List.getElem?_cons_zero, List.set_cons_succ, List.set_cons_zero, List.length_cons, List.length_nil, List.map_cons, List.map_nil, List.replicate_succ, List.replicate_zero, List.cons_append, List.nil_append, Nat.reduceAdd, Nat.reduceSub, Nat.reduceLT, Nat.reduceEqDiff, Nat.reduceLeDiff, if_true, ite_true, ite_false, ↓reduceIte, true_and, and_true, and_self, Bool.not_true, Bool.not_false, beq_self_eq_true, Int.reduceLT, Int.reduceBEq, Int.reduceMod, Int.reduceAdd, Int.reduceSub, Int.reduceNeg, Int.reduceLE, decide_true, decide_false, r_lc0, r_lc, lc1_ok, lc2_f, lc2_t, lc3_ok, c_comp, c_scomp, wipe0, wipe1, c_key, kyk_l, kyj_ok, kyi_ok, r_keys0, r_keys, kok_ok, r_cap0, r_cap, cpk_ok, arg0, arg1, arg2, ltK_eq, gtK_eq, kAt0, kAt1, kAt2, c_lam, lmk_ok, lmj_ok, r_thunk, thk_ok, thk_err, chk_t, chk_f, c_chain, c_raise1, err1_ok, MOd, put_0i, put_0o, put_s, itk_l, itk_t, c_items, r_app, r_isL, c_fld, c_prop, prk_ok, okD_ok, c_meth, c_methK, c_makeN, c_statK, c_tupk, tupl_l, c_zipP, zpk_ok, c_enumP, enk_ok, c_comp2, zip6, enum6, Bool.false_eq_true, s0, m0, le]
    · skip
      by_cases h2 : b + d - c < 0
      · right
        refine ⟨2, ([3, 4, 5] : List Int).filter fun k => decide (sd a b c d e f k < 0), ?_, ?_⟩
        · unfold bel
          simp only [List.filter_cons, z0, z1, z2, h0, h1, h2, decide_true, decide_false, if_true, if_false, Bool.false_eq_true, ite_false, ite_true]
        · unfold m_check_drawn g_check_drawn
          simp (implicitDefEqProofs := false) (maxSteps := 100000000) (disch := omega) only [c_bind, bnd_ok, bnd_err, r_pure, r_c, ifb_t, ifb_f, ifk_ok, c_eif, c_if, c_or, c_and, toB_ok, c_asB, ntk_ok, c_not, ntv_ok, c_vnot, ifv_ok, c_vand, c_vor, opk_ok, r_opt, c_bin, nowk_im, nowk_ow, nowk_io, c_itemN, c_binN, c_acons, vark_im, vark_ow, c_var, c_call0, callk_ok, callk_err, r_call1, r_call2, r_call3, c_callK, pick10, pick01, pick0,
      ownk_ow, ownk_io, rok_ok, c_callO, tabk_s, c_tab, seqk_nx, seqk_ret, seqk_brk, seqk_cnt, seqk_err, c_seq, r_nx, c_ret, c_drop, somek_ok, c_asg, r_btup2, r_btup3, obk_ok, r_bcons, r_bnil, c_for, r_loop0, r_loop, lp1_ok, lp2_nx, lp2_cnt, lp2_brk, lp2_ret, mutk_ok, c_mut, setk_ok, lk_ok, c_setI, olk_ok, c_rng1, runk_ret, runk_nx, runk_err, r_run, runok_ret, r_runO,
      eqI, neI, neB, eqB, catI, subI, gtI, ltI, leI, geI, modI, ngk_ok, c_neg, intI, ixt20, ixt21, ixt30, ixt31, ixt32, rng_6, rng_9, b_eqT, b_eqF, b_ltT, b_ltF, b_leT, b_leF, r_name, r_mkT, r_mkL, c_own, LIM_eq,
      List.getElem?_cons_succ, List.getElem?_cons_zero, List.set_cons_succ, List.set_cons_zero, List.length_cons, List.length_nil, List.map_cons, List.map_nil, List.replicate_succ, List.replicate_zero, List.cons_append, List.nil_append, Nat.reduceAdd, Nat.reduceSub, Nat.reduceLT, Nat.reduceEqDiff, Nat.reduceLeDiff, if_true, ite_true, ite_false, ↓reduceIte, true_and, and_true, and_self, Bool.not_true, Bool.not_false, beq_self_eq_true, Int.reduceLT, Int.reduceBEq, Int.reduceMod, Int.reduceAdd, Int.reduceSub, Int.reduceNeg, Int.reduceLE, decide_true, decide_false, r_lc0, r_lc, lc1_ok, lc2_f, lc2_t, lc3_ok, c_comp, c_scomp, wipe0, wipe1, c_key, kyk_l, kyj_ok, kyi_ok, r_keys0, r_keys, kok_ok, r_cap0, r_cap, cpk_ok, arg0, arg1, arg2, ltK_eq, gtK_eq, kAt0, kAt1, kAt2, c_lam, lmk_ok, lmj_ok, r_thunk, thk_ok, thk_err, chk_t, chk_f, c_chain, c_raise1, err1_ok, MOd, put_0i, put_0o, put_s, itk_l, itk_t, c_items, r_app, r_isL, c_fld, c_prop, prk_ok, okD_ok, c_meth, c_methK, c_makeN, c_statK, c_tupk, tupl_l, c_zipP, zpk_ok, c_enumP, enk_ok, c_comp2, zip6, enum6, Bool.false_eq_true, s0, m0, le]
      · skip
        by_cases h3 : c + e - d < 0
        · right
          refine ⟨3, ([4, 5] : List Int).filter fun k => decide (sd a b c d e f k < 0), ?_, ?_⟩
          · unfold bel
            simp only [List.filter_cons, z0, z1, z2, z3, h0, h1, h2, h3, decide_true, decide_false, if_true, if_false, Bool.false_eq_true, ite_false, ite_true]
          · unfold m_check_drawn g_check_drawn
            simp (implicitDefEqProofs := false) (maxSteps := 100000000) (disch := omega) only [c_bind, bnd_ok, bnd_err, r_pure, r_c, ifb_t, ifb_f, ifk_ok, c_eif, c_if, c_or, c_and, toB_ok, c_asB, ntk_ok, c_not, ntv_ok, c_vnot, ifv_ok, c_vand, c_vor, opk_ok, r_opt, c_bin, nowk_im, nowk_ow, nowk_io, c_itemN, c_binN, c_acons, vark_im, vark_ow, c_var, c_call0, callk_ok, callk_err, r_call1, r_call2, r_call3, c_callK, pick10, pick01, pick0,
      ownk_ow, ownk_io, rok_ok, c_callO, tabk_s, c_tab, seqk_nx, seqk_ret, seqk_brk, seqk_cnt, seqk_err, c_seq, r_nx, c_ret, c_drop, somek_ok, c_asg, r_btup2, r_btup3, obk_ok, r_bcons, r_bnil, c_for, r_loop0, r_loop, lp1_ok, lp2_nx, lp2_cnt, lp2_brk, lp2_ret, mutk_ok, c_mut, setk_ok, lk_ok, c_setI, olk_ok, c_rng1, runk_ret, runk_nx, runk_err, r_run, runok_ret, r_runO,
      eqI, neI, neB, eqB, catI, subI, gtI, ltI, leI, geI, modI, ngk_ok, c_neg, intI, ixt20, ixt21, ixt30, ixt31, ixt32, rng_6, rng_9, b_eqT, b_eqF, b_ltT, b_ltF, b_leT, b_leF, r_name, r_mkT, r_mkL, c_own, LIM_eq,
      List.getElem?_cons_succ, List.getElem?_cons_zero, List.set_cons_succ, List.set_cons_zero, List.length_cons, List.length_nil, List.map_cons, List.map_nil, List.replicate_succ, List.replicate_zero, List.cons_append, List.nil_append, Nat.reduceAdd, Nat.reduceSub, Nat.reduceLT, Nat.reduceEqDiff, Nat.reduceLeDiff, if_true, ite_true, ite_false, ↓reduceIte, true_and, and_true, and_self, Bool.not_true, Bool.not_false, beq_self_eq_true, Int.reduceLT, Int.reduceBEq, Int.reduceMod, Int.reduceAdd, Int.reduceSub, Int.reduceNeg, Int.reduceLE, decide_true, decide_false, r_lc0, r_lc, lc1_ok, lc2_f, lc2_t, lc3_ok, c_comp, c_scomp, wipe0, wipe1, c_key, kyk_l, kyj_ok, kyi_ok, r_keys0, r_keys, kok_ok, r_cap0, r_cap, cpk_ok, arg0, arg1, arg2, ltK_eq, gtK_eq, kAt0, kAt1, kAt2, c_lam, lmk_ok, lmj_ok, r_thunk, thk_ok, thk_err, chk_t, chk_f, c_chain, c_raise1, err1_ok, MOd, put_0i, put_0o, put_s, itk_l, itk_t, c_items, r_app, r_isL, c_fld, c_prop, prk_ok, okD_ok, c_meth, c_methK, c_makeN, c_statK, c_tupk, tupl_l, c_zipP, zpk_ok, c_enumP, enk_ok, c_comp2, zip6, enum6, Bool.false_eq_true, s0, m0, le]
        · skip
          by_cases h4 : d + f - e < 0
          · right
            refine ⟨4, ([5] : List Int).filter fun k => decide (sd a b c d e f k < 0), ?_, ?_⟩
            · unfold bel
              simp only [List.filter_cons, z0, z1, z2, z3, z4, h0, h1, h2, h3, h4, decide_true, decide_false, if_true, if_false, Bool.false_eq_true, ite_false, ite_true]
            · unfold m_check_drawn g_check_drawn
              simp (implicitDefEqProofs := false) (maxSteps := 100000000) (disch := omega) only [c_bind, bnd_ok, bnd_err, r_pure, r_c, ifb_t, ifb_f, ifk_ok, c_eif, c_if, c_or, c_and, toB_ok, c_asB, ntk_ok, c_not, ntv_ok, c_vnot, ifv_ok, c_vand, c_vor, opk_ok, r_opt, c_bin, nowk_im, nowk_ow, nowk_io, c_itemN, c_binN, c_acons, vark_im, vark_ow, c_var, c_call0, callk_ok, callk_err, r_call1, r_call2, r_call3, c_callK, pick10, pick01, pick0,
      ownk_ow, ownk_io, rok_ok, c_callO, tabk_s, c_tab, seqk_nx, seqk_ret, seqk_brk, seqk_cnt, seqk_err, c_seq, r_nx, c_ret, c_drop, somek_ok, c_asg, r_btup2, r_btup3, obk_ok, r_bcons, r_bnil, c_for, r_loop0, r_loop, lp1_ok, lp2_nx, lp2_cnt, lp2_brk, lp2_ret, mutk_ok, c_mut, setk_ok, lk_ok, c_setI, olk_ok, c_rng1, runk_ret, runk_nx, runk_err, r_run, runok_ret, r_runO,
      eqI, neI, neB, eqB, catI, subI, gtI, ltI, leI, geI, modI, ngk_ok, c_neg, intI, ixt20, ixt21, ixt30, ixt31, ixt32, rng_6, rng_9, b_eqT, b_eqF, b_ltT, b_ltF, b_leT, b_leF, r_name, r_mkT, r_mkL, c_own, LIM_eq,
      List.getElem?_cons_succ, List.getElem?_cons_zero, List.set_cons_succ, List.set_cons_zero, List.length_cons, List.length_nil, List.map_cons, List.map_nil, List.replicate_succ, List.replicate_zero, List.cons_append, List.nil_append, Nat.reduceAdd, Nat.reduceSub, Nat.reduceLT, Nat.reduceEqDiff, Nat.reduceLeDiff, if_true, ite_true, ite_false, ↓reduceIte, true_and, and_true, and_self, Bool.not_true, Bool.not_false, beq_self_eq_true, Int.reduceLT, Int.reduceBEq, Int.reduceMod, Int.reduceAdd, Int.reduceSub, Int.reduceNeg, Int.reduceLE, decide_true, decide_false, r_lc0, r_lc, lc1_ok, lc2_f, lc2_t, lc3_ok, c_comp, c_scomp, wipe0, wipe1, c_key, kyk_l, kyj_ok, kyi_ok, r_keys0, r_keys, kok_ok, r_cap0, r_cap, cpk_ok, arg0, arg1, arg2, ltK_eq, gtK_eq, kAt0, kAt1, kAt2, c_lam, lmk_ok, lmj_ok, r_thunk, thk_ok, thk_err, chk_t, chk_f, c_chain, c_raise1, err1_ok, MOd, put_0i, put_0o, put_s, itk_l, itk_t, c_items, r_app, r_isL, c_fld, c_prop, prk_ok, okD_ok, c_meth, c_methK, c_makeN, c_statK, c_tupk, tupl_l, c_zipP, zpk_ok, c_enumP, enk_ok, c_comp2, zip6, enum6, Bool.false_eq_true, s0, m0, le]
          · skip
            by_cases h5 : e + a - f < 0
            · right
              refine ⟨5, ([] : List Int).filter fun k => decide (sd a b c d e f k < 0), ?_, ?_⟩
              · unfold bel
                simp only [List.filter_cons, z0, z1, z2, z3, z4, z5, h0, h1, h2, h3, h4, h5, decide_true, decide_false, if_true, if_false, Bool.false_eq_true, ite_false, ite_true]
              · unfold m_check_drawn g_check_drawn
                simp (implicitDefEqProofs := false) (maxSteps := 100000000) (disch := omega) only [c_bind, bnd_ok, bnd_err, r_pure, r_c, ifb_t, ifb_f, ifk_ok, c_eif, c_if, c_or, c_and, toB_ok, c_asB, ntk_ok, c_not, ntv_ok, c_vnot, ifv_ok, c_vand, c_vor, opk_ok, r_opt, c_bin, nowk_im, nowk_ow, nowk_io, c_itemN, c_binN, c_acons, vark_im, vark_ow, c_var, c_call0, callk_ok, callk_err, r_call1, r_call2, r_call3, c_callK, pick10, pick01, pick0,
      ownk_ow, ownk_io, rok_ok, c_callO, tabk_s, c_tab, seqk_nx, seqk_ret, seqk_brk, seqk_cnt, seqk_err, c_seq, r_nx, c_ret, c_drop, somek_ok, c_asg, r_btup2, r_btup3, obk_ok, r_bcons, r_bnil, c_for, r_loop0, r_loop, lp1_ok, lp2_nx, lp2_cnt, lp2_brk, lp2_ret, mutk_ok, c_mut, setk_ok, lk_ok, c_setI, olk_ok, c_rng1, runk_ret, runk_nx, runk_err, r_run, runok_ret, r_runO,
      eqI, neI, neB, eqB, catI, subI, gtI, ltI, leI, geI, modI, ngk_ok, c_neg, intI, ixt20, ixt21, ixt30, ixt31, ixt32, rng_6, rng_9, b_eqT, b_eqF, b_ltT, b_ltF, b_leT, b_leF, r_name, r_mkT, r_mkL, c_own, LIM_eq,
      List.getElem?_cons_succ, List.getElem?_cons_zero, List.set_cons_succ, List.set_cons_zero, List.length_cons, List.length_nil, List.map_cons, List.map_nil, List.replicate_succ, List.replicate_zero, List.cons_append, List.nil_append, Nat.reduceAdd, Nat.reduceSub, Nat.reduceLT, Nat.reduceEqDiff, Nat.reduceLeDiff, if_true, ite_true, ite_false, ↓reduceIte, true_and, and_true, and_self, Bool.not_true, Bool.not_false, beq_self_eq_true, Int.reduceLT, Int.reduceBEq, Int.reduceMod, Int.reduceAdd, Int.reduceSub, Int.reduceNeg, Int.reduceLE, decide_true, decide_false, r_lc0, r_lc, lc1_ok, lc2_f, lc2_t, lc3_ok, c_comp, c_scomp, wipe0, wipe1, c_key, kyk_l, kyj_ok, kyi_ok, r_keys0, r_keys, kok_ok, r_cap0, r_cap, cpk_ok, arg0, arg1, arg2, ltK_eq, gtK_eq, kAt0, kAt1, kAt2, c_lam, lmk_ok, lmj_ok, r_thunk, thk_ok, thk_err, chk_t, chk_f, c_chain, c_raise1, err1_ok, MOd, put_0i, put_0o, put_s, itk_l, itk_t, c_items, r_app, r_isL, c_fld, c_prop, prk_ok, okD_ok, c_meth, c_methK, c_makeN, c_statK, c_tupk, tupl_l, c_zipP, zpk_ok, c_enumP, enk_ok, c_comp2, zip6, enum6, Bool.false_eq_true, s0, m0, le]
            · skip
              left
              refine ⟨?_, ?_, ⟨by omega, by omega, by omega⟩, by omega, by omega, by omega⟩
              · unfold bel
                simp only [List.filter_cons, List.filter_nil, z0, z1, z2, z3, z4, z5, h0, h1, h2, h3, h4, h5, decide_true, decide_false, if_true, if_false, Bool.false_eq_true, ite_false, ite_true]
              · unfold m_check_drawn g_check_drawn
                simp (implicitDefEqProofs := false) (maxSteps := 100000000) (disch := omega) only [c_bind, bnd_ok, bnd_err, r_pure, r_c, ifb_t, ifb_f, ifk_ok, c_eif, c_if, c_or, c_and, toB_ok, c_asB, ntk_ok, c_not, ntv_ok, c_vnot, ifv_ok, c_vand, c_vor, opk_ok, r_opt, c_bin, nowk_im, nowk_ow, nowk_io, c_itemN, c_binN, c_acons, vark_im, vark_ow, c_var, c_call0, callk_ok, callk_err, r_call1, r_call2, r_call3, c_callK, pick10, pick01, pick0,
      ownk_ow, ownk_io, rok_ok, c_callO, tabk_s, c_tab, seqk_nx, seqk_ret, seqk_brk, seqk_cnt, seqk_err, c_seq, r_nx, c_ret, c_drop, somek_ok, c_asg, r_btup2, r_btup3, obk_ok, r_bcons, r_bnil, c_for, r_loop0, r_loop, lp1_ok, lp2_nx, lp2_cnt, lp2_brk, lp2_ret, mutk_ok, c_mut, setk_ok, lk_ok, c_setI, olk_ok, c_rng1, runk_ret, runk_nx, runk_err, r_run, runok_ret, r_runO,
      eqI, neI, neB, eqB, catI, subI, gtI, ltI, leI, geI, modI, ngk_ok, c_neg, intI, ixt20, ixt21, ixt30, ixt31, ixt32, rng_6, rng_9, b_eqT, b_eqF, b_ltT, b_ltF, b_leT, b_leF, r_name, r_mkT, r_mkL, c_own, LIM_eq,
      List.getElem?_cons_succ, List.getElem?_cons_zero, List.set_cons_succ, List.set_cons_zero, List.length_cons, List.length_nil, List.map_cons, List.map_nil, List.replicate_succ, List.replicate_zero, List.cons_append, List.nil_append, Nat.reduceAdd, Nat.reduceSub, Nat.reduceLT, Nat.reduceEqDiff, Nat.reduceLeDiff, if_true, ite_true, ite_false, ↓reduceIte, true_and, and_true, and_self, Bool.not_true, Bool.not_false, beq_self_eq_true, Int.reduceLT, Int.reduceBEq, Int.reduceMod, Int.reduceAdd, Int.reduceSub, Int.reduceNeg, Int.reduceLE, decide_true, decide_false, r_lc0, r_lc, lc1_ok, lc2_f, lc2_t, lc3_ok, c_comp, c_scomp, wipe0, wipe1, c_key, kyk_l, kyj_ok, kyi_ok, r_keys0, r_keys, kok_ok, r_cap0, r_cap, cpk_ok, arg0, arg1, arg2, ltK_eq, gtK_eq, kAt0, kAt1, kAt2, c_lam, lmk_ok, lmj_ok, r_thunk, thk_ok, thk_err, chk_t, chk_f, c_chain, c_raise1, err1_ok, MOd, put_0i, put_0o, put_s, itk_l, itk_t, c_items, r_app, r_isL, c_fld, c_prop, prk_ok, okD_ok, c_meth, c_methK, c_makeN, c_statK, c_tupk, tupl_l, c_zipP, zpk_ok, c_enumP, enk_ok, c_comp2, zip6, enum6, Bool.false_eq_true, s0, m0, le]
end
end T
set_option Elab.async false
set_option linter.all false
set_option maxRecDepth 100000
set_option maxHeartbeats 4000000
namespace T
open PySem PySem.Spec PyProof.Rows L2 LamX PL
variable [Tbls]
section
variable {δ δ' : En} {d0 d : D}
theorem act_ok (h : δ[0]? = some (.im d0)) : eAct d0 (.ok d) δ = .ok d δ := by unfold eAct; rw [if_pos h]
theorem act_err {x : Exn} (h : δ[0]? = some (.im d0)) : eAct d0 (.err x) δ = .err x δ := by unfold eAct; rw [if_pos h]
theorem try_ok {known : Str → Bool} {i : Nat} {gb : S} {gs : Addr → Addr → Exn → S} {fl : Fl} (h : gb δ = .ok fl δ') : sTry known i gb gs δ = .ok fl δ' := by unfold sTry; rw [h]
theorem try_err {known : Str → Bool} {i : Nat} {gb : S} {gs : Addr → Addr → Exn → S} {x : Exn} {R : Rs Fl} (h : gb δ = .err x δ') (hk : known x.cls = true) (hi : i < δ'.length) (hs : ∀ a d, noSlot i (gs a d x (δ'.set i (.im (.exc a d x.fs)))) = R) : sTry known i gb gs δ = R := by
  unfold sTry
  rw [h]
  dsimp only
  rw [hk, decide_eq_true hi]
  simp only [Bool.and_self, if_true]
  unfold sameFor
  rw [if_pos (fun a d => (hs a d).trans (hs 0 0).symm)]
  exact hs 0 0
def isk (a d : Addr) (b : Bool) (v : D) (δ : En) : Rs D := match v with
  | .exc a' d' _ => if a' = a ∧ d' = d then .ok (.bl b) δ else .bad
  | _ => .bad
theorem r_isX {a dd : Addr} {b : Bool} {ge : M D} : eIsX a dd b ge δ = bnd (ge δ) (isk a dd b) := rfl
theorem isk_ok {a dd : Addr} {b : Bool} {fs : List (Str × D)} : isk a dd b (.exc a dd fs) δ = .ok (.bl b) δ := if_pos ⟨rfl, rfl⟩
def flk (a d : Addr) (f : Str) (v : D) (δ : En) : Rs D := match v with
  | .exc a' d' fs => if a' = a ∧ d' = d then opt (fs.lookup f) δ else .bad
  | _ => .bad
theorem r_fldX {a dd : Addr} {f : Str} {ge : M D} : eFldX a dd f ge δ = bnd (ge δ) (flk a dd f) := rfl
theorem flk_ok {a dd : Addr} {f : Str} {fs : List (Str × D)} : flk a dd f (.exc a dd fs) δ = opt (fs.lookup f) δ := if_pos ⟨rfl, rfl⟩
end
theorem ref_shape {x : Exn} (h : m_u_law_refusal (.err x) ≠ .bad) : ∃ v, x = ⟨"NotDrawn", [("side", v)]⟩ := by
  unfold m_u_law_refusal at h
  split at h
  · rename_i e; cases e
  · rename_i v e; cases e; exact ⟨v, rfl⟩
  · exact absurd rfl h
abbrev suiteR : Addr → Addr → Exn → S := (fun ea ed ex => (sSeq (sIf (bNot (asB (eIsX ea ed (isaB ex.cls "ValueError") (eVar 2)))) (sSeq (sRet (M.bind (aCons (eC (.str "no ValueError")) (M.pure [])) mkL))
    sNx) sNx)
    (sSeq (sIf (asB (eIsX ea ed (isaB ex.cls "NotDrawn") (eVar 2))) (sSeq (sMut 1 fApp isL (aCons (M.bind (aCons (eC (.str "side")) (aCons (eFldX ea ed "side" (eVar 2)) (M.pure []))) mkT) (M.pure [])))
    sNx) sNx)
    (sSeq (sIf (asB (eIsX ea ed (isaB ex.cls "BadCount") (eVar 2))) (sSeq (sMut 1 fApp isL (aCons (M.bind (aCons (eC (.str "count")) (aCons (eFldX ea ed "count" (eVar 2)) (M.pure []))) mkT) (M.pure [])))
    sNx) sNx)
    (sSeq (sIf (asB (eIsX ea ed (isaB ex.cls "Nowhere") (eVar 2))) (sSeq (sMut 1 fApp isL (aCons (M.bind (aCons (eC (.str "nowhere")) (M.pure [])) mkT) (M.pure [])))
    sNx) sNx)
    sNx)))))
theorem ref_err (d0 : D) {nm f : Str} (v : D) (hk : known nm = true)
    (h : ∀ (a d : Addr), noSlot 2 (suiteR a d ⟨nm, [(f, v)]⟩ [.im d0, .ow (.lst []), .im (.exc a d [(f, v)])]) = .ok .nx [.im d0, .ow (.lst [.tup [.str f, v]]), .no]) :
    runF 1 3 (gR_u_law_refusal d0 (.err ⟨nm, [(f, v)]⟩)) [d0] = .ok (.lst [.tup [.str f, v]]) := by
  have e : ∀ gs : Addr → Addr → Exn → S, (∀ a d, noSlot 2 (gs a d ⟨nm, [(f, v)]⟩ [.im d0, .ow (.lst []), .im (.exc a d [(f, v)])]) = .ok .nx [.im d0, .ow (.lst [.tup [.str f, v]]), .no]) →
      sTry known 2 (sSeq (sDrop (eAct d0 (.err ⟨nm, [(f, v)]⟩))) sNx) gs [.im d0, .ow (.lst []), .no] = .ok .nx [.im d0, .ow (.lst [.tup [.str f, v]]), .no] := fun gs hs =>
    try_err (x := ⟨nm, [(f, v)]⟩) (δ' := [.im d0, .ow (.lst []), .no]) (by
      have := act_err (δ := [.im d0, .ow (.lst []), .no]) (d0 := d0) (x := ⟨nm, [(f, v)]⟩) rfl
      simp (implicitDefEqProofs := false) (maxSteps := 100000000) (disch := omega) only [c_bind, bnd_ok, bnd_err, r_pure, r_c, ifb_t, ifb_f, ifk_ok, c_eif, c_if, c_or, c_and, toB_ok, c_asB, ntk_ok, c_not, ntv_ok, c_vnot, ifv_ok, c_vand, c_vor, opk_ok, r_opt, c_bin, nowk_im, nowk_ow, nowk_io, c_itemN, c_binN, c_acons, vark_im, vark_ow, c_var, c_call0, callk_ok, callk_err, r_call1, r_call2, r_call3, c_callK, pick10, pick01, pick0,
      ownk_ow, ownk_io, rok_ok, c_callO, tabk_s, c_tab, seqk_nx, seqk_ret, seqk_brk, seqk_cnt, seqk_err, c_seq, r_nx, c_ret, c_drop, somek_ok, c_asg, r_btup2, r_btup3, obk_ok, r_bcons, r_bnil, c_for, r_loop0, r_loop, lp1_ok, lp2_nx, lp2_cnt, lp2_brk, lp2_ret, mutk_ok, c_mut, setk_ok, lk_ok, c_setI, olk_ok, c_rng1, runk_ret, runk_nx, runk_err, r_run, runok_ret, r_runO,
      eqI, neI, neB, eqB, catI, subI, gtI, ltI, leI, geI, modI, ngk_ok, c_neg, intI, ixt20, ixt21, ixt30, ixt31, ixt32, rng_6, rng_9, b_eqT, b_eqF, b_ltT, b_ltF, b_leT, b_leF, r_name, r_mkT, r_mkL, c_own, LIM_eq,
      List.getElem?_cons_succ, List.getElem?_cons_zero, List.set_cons_succ, List.set_cons_zero, List.length_cons, List.length_nil, List.map_cons, List.map_nil, List.replicate_succ, List.replicate_zero, List.cons_append, List.nil_append, Nat.reduceAdd, Nat.reduceSub, Nat.reduceLT, Nat.reduceEqDiff, Nat.reduceLeDiff, if_true, ite_true, ite_false, ↓reduceIte, true_and, and_true, and_self, Bool.not_true, Bool.not_false, beq_self_eq_true, Int.reduceLT, Int.reduceBEq, Int.reduceMod, Int.reduceAdd, Int.reduceSub, Int.reduceNeg, Int.reduceLE, decide_true, decide_false, r_lc0, r_lc, lc1_ok, lc2_f, lc2_t, lc3_ok, c_comp, c_scomp, wipe0, wipe1, c_key, kyk_l, kyj_ok, kyi_ok, r_keys0, r_keys, kok_ok, r_cap0, r_cap, cpk_ok, arg0, arg1, arg2, ltK_eq, gtK_eq, kAt0, kAt1, kAt2, c_lam, lmk_ok, lmj_ok, r_thunk, thk_ok, thk_err, chk_t, chk_f, c_chain, c_raise1, err1_ok, MOd, put_0i, put_0o, put_s, itk_l, itk_t, c_items, r_app, r_isL, c_fld, c_prop, prk_ok, okD_ok, c_meth, c_methK, c_makeN, c_statK, c_tupk, tupl_l, c_zipP, zpk_ok, c_enumP, enk_ok, c_comp2, zip6, enum6, Bool.false_eq_true, this]) hk (by simp) hs
  have e2 := e suiteR h
  unfold gR_u_law_refusal
  rw [r_run]
  simp only [r_seq, r_own, bnd_ok, r_pure, List.map_cons, List.map_nil, List.replicate_succ, List.replicate_zero, List.cons_append, List.nil_append, Nat.reduceSub, List.length_nil, List.length_cons, LIM_eq, Nat.reduceAdd, Nat.reduceLT, Nat.zero_le, and_self, if_true, List.set_cons_succ, List.set_cons_zero, seqk_nx]
  rw [e2]
  simp (implicitDefEqProofs := false) (maxSteps := 100000000) (disch := omega) only [c_bind, bnd_ok, bnd_err, r_pure, r_c, ifb_t, ifb_f, ifk_ok, c_eif, c_if, c_or, c_and, toB_ok, c_asB, ntk_ok, c_not, ntv_ok, c_vnot, ifv_ok, c_vand, c_vor, opk_ok, r_opt, c_bin, nowk_im, nowk_ow, nowk_io, c_itemN, c_binN, c_acons, vark_im, vark_ow, c_var, c_call0, callk_ok, callk_err, r_call1, r_call2, r_call3, c_callK, pick10, pick01, pick0,
      ownk_ow, ownk_io, rok_ok, c_callO, tabk_s, c_tab, seqk_nx, seqk_ret, seqk_brk, seqk_cnt, seqk_err, c_seq, r_nx, c_ret, c_drop, somek_ok, c_asg, r_btup2, r_btup3, obk_ok, r_bcons, r_bnil, c_for, r_loop0, r_loop, lp1_ok, lp2_nx, lp2_cnt, lp2_brk, lp2_ret, mutk_ok, c_mut, setk_ok, lk_ok, c_setI, olk_ok, c_rng1, runk_ret, runk_nx, runk_err, r_run, runok_ret, r_runO,
      eqI, neI, neB, eqB, catI, subI, gtI, ltI, leI, geI, modI, ngk_ok, c_neg, intI, ixt20, ixt21, ixt30, ixt31, ixt32, rng_6, rng_9, b_eqT, b_eqF, b_ltT, b_ltF, b_leT, b_leF, r_name, r_mkT, r_mkL, c_own, LIM_eq,
      List.getElem?_cons_succ, List.getElem?_cons_zero, List.set_cons_succ, List.set_cons_zero, List.length_cons, List.length_nil, List.map_cons, List.map_nil, List.replicate_succ, List.replicate_zero, List.cons_append, List.nil_append, Nat.reduceAdd, Nat.reduceSub, Nat.reduceLT, Nat.reduceEqDiff, Nat.reduceLeDiff, if_true, ite_true, ite_false, ↓reduceIte, true_and, and_true, and_self, Bool.not_true, Bool.not_false, beq_self_eq_true, Int.reduceLT, Int.reduceBEq, Int.reduceMod, Int.reduceAdd, Int.reduceSub, Int.reduceNeg, Int.reduceLE, decide_true, decide_false, r_lc0, r_lc, lc1_ok, lc2_f, lc2_t, lc3_ok, c_comp, c_scomp, wipe0, wipe1, c_key, kyk_l, kyj_ok, kyi_ok, r_keys0, r_keys, kok_ok, r_cap0, r_cap, cpk_ok, arg0, arg1, arg2, ltK_eq, gtK_eq, kAt0, kAt1, kAt2, c_lam, lmk_ok, lmj_ok, r_thunk, thk_ok, thk_err, chk_t, chk_f, c_chain, c_raise1, err1_ok, MOd, put_0i, put_0o, put_s, itk_l, itk_t, c_items, r_app, r_isL, c_fld, c_prop, prk_ok, okD_ok, c_meth, c_methK, c_makeN, c_statK, c_tupk, tupl_l, c_zipP, zpk_ok, c_enumP, enk_ok, c_comp2, zip6, enum6, Bool.false_eq_true, seqk_nx]
theorem ref_ok (d0 : D) (r : RR) : runF 1 N_u_law_refusal.length (gR_u_law_refusal d0 r) [d0] = m_u_law_refusal r ∨ m_u_law_refusal r = .bad := by
  cases r with
  | ok d =>
    left
    show runF 1 3 _ _ = RR.ok (.lst [])
    have e : ∀ gs, sTry known 2 (sSeq (sDrop (eAct d0 (.ok d))) sNx) gs [.im d0, .ow (.lst []), .no] = .ok .nx [.im d0, .ow (.lst []), .no] := fun gs => try_ok (by
      have := act_ok (δ := [.im d0, .ow (.lst []), .no]) (d0 := d0) (d := d) rfl
      simp (implicitDefEqProofs := false) (maxSteps := 100000000) (disch := omega) only [c_bind, bnd_ok, bnd_err, r_pure, r_c, ifb_t, ifb_f, ifk_ok, c_eif, c_if, c_or, c_and, toB_ok, c_asB, ntk_ok, c_not, ntv_ok, c_vnot, ifv_ok, c_vand, c_vor, opk_ok, r_opt, c_bin, nowk_im, nowk_ow, nowk_io, c_itemN, c_binN, c_acons, vark_im, vark_ow, c_var, c_call0, callk_ok, callk_err, r_call1, r_call2, r_call3, c_callK, pick10, pick01, pick0,
      ownk_ow, ownk_io, rok_ok, c_callO, tabk_s, c_tab, seqk_nx, seqk_ret, seqk_brk, seqk_cnt, seqk_err, c_seq, r_nx, c_ret, c_drop, somek_ok, c_asg, r_btup2, r_btup3, obk_ok, r_bcons, r_bnil, c_for, r_loop0, r_loop, lp1_ok, lp2_nx, lp2_cnt, lp2_brk, lp2_ret, mutk_ok, c_mut, setk_ok, lk_ok, c_setI, olk_ok, c_rng1, runk_ret, runk_nx, runk_err, r_run, runok_ret, r_runO,
      eqI, neI, neB, eqB, catI, subI, gtI, ltI, leI, geI, modI, ngk_ok, c_neg, intI, ixt20, ixt21, ixt30, ixt31, ixt32, rng_6, rng_9, b_eqT, b_eqF, b_ltT, b_ltF, b_leT, b_leF, r_name, r_mkT, r_mkL, c_own, LIM_eq,
      List.getElem?_cons_succ, List.getElem?_cons_zero, List.set_cons_succ, List.set_cons_zero, List.length_cons, List.length_nil, List.map_cons, List.map_nil, List.replicate_succ, List.replicate_zero, List.cons_append, List.nil_append, Nat.reduceAdd, Nat.reduceSub, Nat.reduceLT, Nat.reduceEqDiff, Nat.reduceLeDiff, if_true, ite_true, ite_false, ↓reduceIte, true_and, and_true, and_self, Bool.not_true, Bool.not_false, beq_self_eq_true, Int.reduceLT, Int.reduceBEq, Int.reduceMod, Int.reduceAdd, Int.reduceSub, Int.reduceNeg, Int.reduceLE, decide_true, decide_false, r_lc0, r_lc, lc1_ok, lc2_f, lc2_t, lc3_ok, c_comp, c_scomp, wipe0, wipe1, c_key, kyk_l, kyj_ok, kyi_ok, r_keys0, r_keys, kok_ok, r_cap0, r_cap, cpk_ok, arg0, arg1, arg2, ltK_eq, gtK_eq, kAt0, kAt1, kAt2, c_lam, lmk_ok, lmj_ok, r_thunk, thk_ok, thk_err, chk_t, chk_f, c_chain, c_raise1, err1_ok, MOd, put_0i, put_0o, put_s, itk_l, itk_t, c_items, r_app, r_isL, c_fld, c_prop, prk_ok, okD_ok, c_meth, c_methK, c_makeN, c_statK, c_tupk, tupl_l, c_zipP, zpk_ok, c_enumP, enk_ok, c_comp2, zip6, enum6, Bool.false_eq_true, this])
    unfold gR_u_law_refusal
    simp (implicitDefEqProofs := false) (maxSteps := 100000000) (disch := omega) only [c_bind, bnd_ok, bnd_err, r_pure, r_c, ifb_t, ifb_f, ifk_ok, c_eif, c_if, c_or, c_and, toB_ok, c_asB, ntk_ok, c_not, ntv_ok, c_vnot, ifv_ok, c_vand, c_vor, opk_ok, r_opt, c_bin, nowk_im, nowk_ow, nowk_io, c_itemN, c_binN, c_acons, vark_im, vark_ow, c_var, c_call0, callk_ok, callk_err, r_call1, r_call2, r_call3, c_callK, pick10, pick01, pick0,
      ownk_ow, ownk_io, rok_ok, c_callO, tabk_s, c_tab, seqk_nx, seqk_ret, seqk_brk, seqk_cnt, seqk_err, c_seq, r_nx, c_ret, c_drop, somek_ok, c_asg, r_btup2, r_btup3, obk_ok, r_bcons, r_bnil, c_for, r_loop0, r_loop, lp1_ok, lp2_nx, lp2_cnt, lp2_brk, lp2_ret, mutk_ok, c_mut, setk_ok, lk_ok, c_setI, olk_ok, c_rng1, runk_ret, runk_nx, runk_err, r_run, runok_ret, r_runO,
      eqI, neI, neB, eqB, catI, subI, gtI, ltI, leI, geI, modI, ngk_ok, c_neg, intI, ixt20, ixt21, ixt30, ixt31, ixt32, rng_6, rng_9, b_eqT, b_eqF, b_ltT, b_ltF, b_leT, b_leF, r_name, r_mkT, r_mkL, c_own, LIM_eq,
      List.getElem?_cons_succ, List.getElem?_cons_zero, List.set_cons_succ, List.set_cons_zero, List.length_cons, List.length_nil, List.map_cons, List.map_nil, List.replicate_succ, List.replicate_zero, List.cons_append, List.nil_append, Nat.reduceAdd, Nat.reduceSub, Nat.reduceLT, Nat.reduceEqDiff, Nat.reduceLeDiff, if_true, ite_true, ite_false, ↓reduceIte, true_and, and_true, and_self, Bool.not_true, Bool.not_false, beq_self_eq_true, Int.reduceLT, Int.reduceBEq, Int.reduceMod, Int.reduceAdd, Int.reduceSub, Int.reduceNeg, Int.reduceLE, decide_true, decide_false, r_lc0, r_lc, lc1_ok, lc2_f, lc2_t, lc3_ok, c_comp, c_scomp, wipe0, wipe1, c_key, kyk_l, kyj_ok, kyi_ok, r_keys0, r_keys, kok_ok, r_cap0, r_cap, cpk_ok, arg0, arg1, arg2, ltK_eq, gtK_eq, kAt0, kAt1, kAt2, c_lam, lmk_ok, lmj_ok, r_thunk, thk_ok, thk_err, chk_t, chk_f, c_chain, c_raise1, err1_ok, MOd, put_0i, put_0o, put_s, itk_l, itk_t, c_items, r_app, r_isL, c_fld, c_prop, prk_ok, okD_ok, c_meth, c_methK, c_makeN, c_statK, c_tupk, tupl_l, c_zipP, zpk_ok, c_enumP, enk_ok, c_comp2, zip6, enum6, Bool.false_eq_true, e]
  | bad => right; rfl
  | err x =>
    by_cases hb : m_u_law_refusal (.err x) = .bad
    · exact .inr hb
    left
    have ns : ∀ (i : Nat) (fl : Fl) (δ : En), noSlot i (.ok fl δ) = .ok fl (δ.set i .no) := fun _ _ _ => rfl
    obtain ⟨v, rfl⟩ := ref_shape hb
    have b1 : isaB "NotDrawn" "ValueError" = true := by decide +kernel
    have b2 : isaB "NotDrawn" "NotDrawn" = true := by decide +kernel
    have b3 : isaB "NotDrawn" "BadCount" = false := by decide +kernel
    have b4 : isaB "NotDrawn" "Nowhere" = false := by decide +kernel
    have b6 : List.lookup ("side" : Str) [(("side" : Str), v)] = some v := by rfl
    have k1 : known "NotDrawn" = true := by decide +kernel
    exact ref_err d0 v k1 fun a d => by simp (implicitDefEqProofs := false) (maxSteps := 100000000) (disch := omega) only [c_bind, bnd_ok, bnd_err, r_pure, r_c, ifb_t, ifb_f, ifk_ok, c_eif, c_if, c_or, c_and, toB_ok, c_asB, ntk_ok, c_not, ntv_ok, c_vnot, ifv_ok, c_vand, c_vor, opk_ok, r_opt, c_bin, nowk_im, nowk_ow, nowk_io, c_itemN, c_binN, c_acons, vark_im, vark_ow, c_var, c_call0, callk_ok, callk_err, r_call1, r_call2, r_call3, c_callK, pick10, pick01, pick0,
      ownk_ow, ownk_io, rok_ok, c_callO, tabk_s, c_tab, seqk_nx, seqk_ret, seqk_brk, seqk_cnt, seqk_err, c_seq, r_nx, c_ret, c_drop, somek_ok, c_asg, r_btup2, r_btup3, obk_ok, r_bcons, r_bnil, c_for, r_loop0, r_loop, lp1_ok, lp2_nx, lp2_cnt, lp2_brk, lp2_ret, mutk_ok, c_mut, setk_ok, lk_ok, c_setI, olk_ok, c_rng1, runk_ret, runk_nx, runk_err, r_run, runok_ret, r_runO,
      eqI, neI, neB, eqB, catI, subI, gtI, ltI, leI, geI, modI, ngk_ok, c_neg, intI, ixt20, ixt21, ixt30, ixt31, ixt32, rng_6, rng_9, b_eqT, b_eqF, b_ltT, b_ltF, b_leT, b_leF, r_name, r_mkT, r_mkL, c_own, LIM_eq,
      List.getElem?_cons_succ, List.getElem?_cons_zero, List.set_cons_succ, List.set_cons_zero, List.length_cons, List.length_nil, List.map_cons, List.map_nil, List.replicate_succ, List.replicate_zero, List.cons_append, List.nil_append, Nat.reduceAdd, Nat.reduceSub, Nat.reduceLT, Nat.reduceEqDiff, Nat.reduceLeDiff, if_true, ite_true, ite_false, ↓reduceIte, true_and, and_true, and_self, Bool.not_true, Bool.not_false, beq_self_eq_true, Int.reduceLT, Int.reduceBEq, Int.reduceMod, Int.reduceAdd, Int.reduceSub, Int.reduceNeg, Int.reduceLE, decide_true, decide_false, r_lc0, r_lc, lc1_ok, lc2_f, lc2_t, lc3_ok, c_comp, c_scomp, wipe0, wipe1, c_key, kyk_l, kyj_ok, kyi_ok, r_keys0, r_keys, kok_ok, r_cap0, r_cap, cpk_ok, arg0, arg1, arg2, ltK_eq, gtK_eq, kAt0, kAt1, kAt2, c_lam, lmk_ok, lmj_ok, r_thunk, thk_ok, thk_err, chk_t, chk_f, c_chain, c_raise1, err1_ok, MOd, put_0i, put_0o, put_s, itk_l, itk_t, c_items, r_app, r_isL, c_fld, c_prop, prk_ok, okD_ok, c_meth, c_methK, c_makeN, c_statK, c_tupk, tupl_l, c_zipP, zpk_ok, c_enumP, enk_ok, c_comp2, zip6, enum6, Bool.false_eq_true, r_isX, isk_ok, r_fldX, flk_ok, b1, b2, b3, b4, b6, ns]
end T
set_option Elab.async false
set_option linter.all false
set_option maxRecDepth 100000
set_option maxHeartbeats 4000000
namespace T
open PySem PySem.Spec PyProof.Rows L2 LamX PL
variable [Tbls]
theorem dNe_nil (l : List Int) : dNe (.lst (l.map D.int)) (.lst []) = some (.bl (!l.isEmpty)) := by
  have h := eq_nil l
  unfold dEq at h
  unfold dNe
  cases q : dEqB (.lst (l.map D.int)) (.lst []) with
  | none => rw [q] at h; cases h
  | some c => rw [q] at h; cases h; rfl
theorem dCat_ints {l m : List Int} (h : l.length ≤ 6) (h' : m.length ≤ 6) : dCat (.lst (l.map D.int)) (.lst (m.map D.int)) = some (.lst ((l ++ m).map D.int)) := by
  show (if (l.map D.int).length + (m.map D.int).length ≤ LIM then some (D.lst (l.map D.int ++ m.map D.int)) else none) = _
  rw [if_pos (by rw [LIM_eq, List.length_map, List.length_map]; omega), List.map_append]
theorem pl_side (j : Int) : pl 5 (.lst [.lst [.tup [.str "side", .int j]], .lst [.tup [.str "side", .int j]]]) = true := by
  have h : PyData.strOk "side" = true := by decide +kernel
  simp only [pl, List.all_cons, List.all_nil, h, List.length_cons, List.length_nil, Bool.and_true, Bool.true_and]
  rfl
section
variable {a b c d e f A B C D' E F x y n : Int}
theorem spare_bad1 {z : Exn} {q : D} (h : m_check_drawn [PN a b c d e f] = .err z) : m_spare [PN a b c d e f, q] = .err z := by
  unfold m_spare g_spare
  simp (implicitDefEqProofs := false) (maxSteps := 100000000) (disch := omega) only [c_bind, bnd_ok, bnd_err, r_pure, r_c, ifb_t, ifb_f, ifk_ok, c_eif, c_if, c_or, c_and, toB_ok, c_asB, ntk_ok, c_not, ntv_ok, c_vnot, ifv_ok, c_vand, c_vor, opk_ok, r_opt, c_bin, nowk_im, nowk_ow, nowk_io, c_itemN, c_binN, c_acons, vark_im, vark_ow, c_var, c_call0, callk_ok, callk_err, r_call1, r_call2, r_call3, c_callK, pick10, pick01, pick0,
      ownk_ow, ownk_io, rok_ok, c_callO, tabk_s, c_tab, seqk_nx, seqk_ret, seqk_brk, seqk_cnt, seqk_err, c_seq, r_nx, c_ret, c_drop, somek_ok, c_asg, r_btup2, r_btup3, obk_ok, r_bcons, r_bnil, c_for, r_loop0, r_loop, lp1_ok, lp2_nx, lp2_cnt, lp2_brk, lp2_ret, mutk_ok, c_mut, setk_ok, lk_ok, c_setI, olk_ok, c_rng1, runk_ret, runk_nx, runk_err, r_run, runok_ret, r_runO,
      eqI, neI, neB, eqB, catI, subI, gtI, ltI, leI, geI, modI, ngk_ok, c_neg, intI, ixt20, ixt21, ixt30, ixt31, ixt32, rng_6, rng_9, b_eqT, b_eqF, b_ltT, b_ltF, b_leT, b_leF, r_name, r_mkT, r_mkL, c_own, LIM_eq,
      List.getElem?_cons_succ, List.getElem?_cons_zero, List.set_cons_succ, List.set_cons_zero, List.length_cons, List.length_nil, List.map_cons, List.map_nil, List.replicate_succ, List.replicate_zero, List.cons_append, List.nil_append, Nat.reduceAdd, Nat.reduceSub, Nat.reduceLT, Nat.reduceEqDiff, Nat.reduceLeDiff, if_true, ite_true, ite_false, ↓reduceIte, true_and, and_true, and_self, Bool.not_true, Bool.not_false, beq_self_eq_true, Int.reduceLT, Int.reduceBEq, Int.reduceMod, Int.reduceAdd, Int.reduceSub, Int.reduceNeg, Int.reduceLE, decide_true, decide_false, r_lc0, r_lc, lc1_ok, lc2_f, lc2_t, lc3_ok, c_comp, c_scomp, wipe0, wipe1, c_key, kyk_l, kyj_ok, kyi_ok, r_keys0, r_keys, kok_ok, r_cap0, r_cap, cpk_ok, arg0, arg1, arg2, ltK_eq, gtK_eq, kAt0, kAt1, kAt2, c_lam, lmk_ok, lmj_ok, r_thunk, thk_ok, thk_err, chk_t, chk_f, c_chain, c_raise1, err1_ok, MOd, put_0i, put_0o, put_s, itk_l, itk_t, c_items, r_app, r_isL, c_fld, c_prop, prk_ok, okD_ok, c_meth, c_methK, c_makeN, c_statK, c_tupk, tupl_l, c_zipP, zpk_ok, c_enumP, enk_ok, c_comp2, zip6, enum6, Bool.false_eq_true, h]
theorem spare_bad2 {z : Exn} {p : D} (h0 : m_check_drawn [p] = .ok .non) (h : m_check_drawn [PN a b c d e f] = .err z) : m_spare [p, PN a b c d e f] = .err z := by
  unfold m_spare g_spare
  simp (implicitDefEqProofs := false) (maxSteps := 100000000) (disch := omega) only [c_bind, bnd_ok, bnd_err, r_pure, r_c, ifb_t, ifb_f, ifk_ok, c_eif, c_if, c_or, c_and, toB_ok, c_asB, ntk_ok, c_not, ntv_ok, c_vnot, ifv_ok, c_vand, c_vor, opk_ok, r_opt, c_bin, nowk_im, nowk_ow, nowk_io, c_itemN, c_binN, c_acons, vark_im, vark_ow, c_var, c_call0, callk_ok, callk_err, r_call1, r_call2, r_call3, c_callK, pick10, pick01, pick0,
      ownk_ow, ownk_io, rok_ok, c_callO, tabk_s, c_tab, seqk_nx, seqk_ret, seqk_brk, seqk_cnt, seqk_err, c_seq, r_nx, c_ret, c_drop, somek_ok, c_asg, r_btup2, r_btup3, obk_ok, r_bcons, r_bnil, c_for, r_loop0, r_loop, lp1_ok, lp2_nx, lp2_cnt, lp2_brk, lp2_ret, mutk_ok, c_mut, setk_ok, lk_ok, c_setI, olk_ok, c_rng1, runk_ret, runk_nx, runk_err, r_run, runok_ret, r_runO,
      eqI, neI, neB, eqB, catI, subI, gtI, ltI, leI, geI, modI, ngk_ok, c_neg, intI, ixt20, ixt21, ixt30, ixt31, ixt32, rng_6, rng_9, b_eqT, b_eqF, b_ltT, b_ltF, b_leT, b_leF, r_name, r_mkT, r_mkL, c_own, LIM_eq,
      List.getElem?_cons_succ, List.getElem?_cons_zero, List.set_cons_succ, List.set_cons_zero, List.length_cons, List.length_nil, List.map_cons, List.map_nil, List.replicate_succ, List.replicate_zero, List.cons_append, List.nil_append, Nat.reduceAdd, Nat.reduceSub, Nat.reduceLT, Nat.reduceEqDiff, Nat.reduceLeDiff, if_true, ite_true, ite_false, ↓reduceIte, true_and, and_true, and_self, Bool.not_true, Bool.not_false, beq_self_eq_true, Int.reduceLT, Int.reduceBEq, Int.reduceMod, Int.reduceAdd, Int.reduceSub, Int.reduceNeg, Int.reduceLE, decide_true, decide_false, r_lc0, r_lc, lc1_ok, lc2_f, lc2_t, lc3_ok, c_comp, c_scomp, wipe0, wipe1, c_key, kyk_l, kyj_ok, kyi_ok, r_keys0, r_keys, kok_ok, r_cap0, r_cap, cpk_ok, arg0, arg1, arg2, ltK_eq, gtK_eq, kAt0, kAt1, kAt2, c_lam, lmk_ok, lmj_ok, r_thunk, thk_ok, thk_err, chk_t, chk_f, c_chain, c_raise1, err1_ok, MOd, put_0i, put_0o, put_s, itk_l, itk_t, c_items, r_app, r_isL, c_fld, c_prop, prk_ok, okD_ok, c_meth, c_methK, c_makeN, c_statK, c_tupk, tupl_l, c_zipP, zpk_ok, c_enumP, enk_ok, c_comp2, zip6, enum6, Bool.false_eq_true, h0, h]
theorem same_bad1 {z : Exn} {q : D} (h : m_check_drawn [PN a b c d e f] = .err z) : m_same_ratio [PN a b c d e f, q] = .err z := by
  unfold m_same_ratio g_same_ratio
  simp (implicitDefEqProofs := false) (maxSteps := 100000000) (disch := omega) only [c_bind, bnd_ok, bnd_err, r_pure, r_c, ifb_t, ifb_f, ifk_ok, c_eif, c_if, c_or, c_and, toB_ok, c_asB, ntk_ok, c_not, ntv_ok, c_vnot, ifv_ok, c_vand, c_vor, opk_ok, r_opt, c_bin, nowk_im, nowk_ow, nowk_io, c_itemN, c_binN, c_acons, vark_im, vark_ow, c_var, c_call0, callk_ok, callk_err, r_call1, r_call2, r_call3, c_callK, pick10, pick01, pick0,
      ownk_ow, ownk_io, rok_ok, c_callO, tabk_s, c_tab, seqk_nx, seqk_ret, seqk_brk, seqk_cnt, seqk_err, c_seq, r_nx, c_ret, c_drop, somek_ok, c_asg, r_btup2, r_btup3, obk_ok, r_bcons, r_bnil, c_for, r_loop0, r_loop, lp1_ok, lp2_nx, lp2_cnt, lp2_brk, lp2_ret, mutk_ok, c_mut, setk_ok, lk_ok, c_setI, olk_ok, c_rng1, runk_ret, runk_nx, runk_err, r_run, runok_ret, r_runO,
      eqI, neI, neB, eqB, catI, subI, gtI, ltI, leI, geI, modI, ngk_ok, c_neg, intI, ixt20, ixt21, ixt30, ixt31, ixt32, rng_6, rng_9, b_eqT, b_eqF, b_ltT, b_ltF, b_leT, b_leF, r_name, r_mkT, r_mkL, c_own, LIM_eq,
      List.getElem?_cons_succ, List.getElem?_cons_zero, List.set_cons_succ, List.set_cons_zero, List.length_cons, List.length_nil, List.map_cons, List.map_nil, List.replicate_succ, List.replicate_zero, List.cons_append, List.nil_append, Nat.reduceAdd, Nat.reduceSub, Nat.reduceLT, Nat.reduceEqDiff, Nat.reduceLeDiff, if_true, ite_true, ite_false, ↓reduceIte, true_and, and_true, and_self, Bool.not_true, Bool.not_false, beq_self_eq_true, Int.reduceLT, Int.reduceBEq, Int.reduceMod, Int.reduceAdd, Int.reduceSub, Int.reduceNeg, Int.reduceLE, decide_true, decide_false, r_lc0, r_lc, lc1_ok, lc2_f, lc2_t, lc3_ok, c_comp, c_scomp, wipe0, wipe1, c_key, kyk_l, kyj_ok, kyi_ok, r_keys0, r_keys, kok_ok, r_cap0, r_cap, cpk_ok, arg0, arg1, arg2, ltK_eq, gtK_eq, kAt0, kAt1, kAt2, c_lam, lmk_ok, lmj_ok, r_thunk, thk_ok, thk_err, chk_t, chk_f, c_chain, c_raise1, err1_ok, MOd, put_0i, put_0o, put_s, itk_l, itk_t, c_items, r_app, r_isL, c_fld, c_prop, prk_ok, okD_ok, c_meth, c_methK, c_makeN, c_statK, c_tupk, tupl_l, c_zipP, zpk_ok, c_enumP, enk_ok, c_comp2, zip6, enum6, Bool.false_eq_true, h]
theorem same_bad2 {z : Exn} {p : D} (h0 : m_check_drawn [p] = .ok .non) (h : m_check_drawn [PN a b c d e f] = .err z) : m_same_ratio [p, PN a b c d e f] = .err z := by
  unfold m_same_ratio g_same_ratio
  simp (implicitDefEqProofs := false) (maxSteps := 100000000) (disch := omega) only [c_bind, bnd_ok, bnd_err, r_pure, r_c, ifb_t, ifb_f, ifk_ok, c_eif, c_if, c_or, c_and, toB_ok, c_asB, ntk_ok, c_not, ntv_ok, c_vnot, ifv_ok, c_vand, c_vor, opk_ok, r_opt, c_bin, nowk_im, nowk_ow, nowk_io, c_itemN, c_binN, c_acons, vark_im, vark_ow, c_var, c_call0, callk_ok, callk_err, r_call1, r_call2, r_call3, c_callK, pick10, pick01, pick0,
      ownk_ow, ownk_io, rok_ok, c_callO, tabk_s, c_tab, seqk_nx, seqk_ret, seqk_brk, seqk_cnt, seqk_err, c_seq, r_nx, c_ret, c_drop, somek_ok, c_asg, r_btup2, r_btup3, obk_ok, r_bcons, r_bnil, c_for, r_loop0, r_loop, lp1_ok, lp2_nx, lp2_cnt, lp2_brk, lp2_ret, mutk_ok, c_mut, setk_ok, lk_ok, c_setI, olk_ok, c_rng1, runk_ret, runk_nx, runk_err, r_run, runok_ret, r_runO,
      eqI, neI, neB, eqB, catI, subI, gtI, ltI, leI, geI, modI, ngk_ok, c_neg, intI, ixt20, ixt21, ixt30, ixt31, ixt32, rng_6, rng_9, b_eqT, b_eqF, b_ltT, b_ltF, b_leT, b_leF, r_name, r_mkT, r_mkL, c_own, LIM_eq,
      List.getElem?_cons_succ, List.getElem?_cons_zero, List.set_cons_succ, List.set_cons_zero, List.length_cons, List.length_nil, List.map_cons, List.map_nil, List.replicate_succ, List.replicate_zero, List.cons_append, List.nil_append, Nat.reduceAdd, Nat.reduceSub, Nat.reduceLT, Nat.reduceEqDiff, Nat.reduceLeDiff, if_true, ite_true, ite_false, ↓reduceIte, true_and, and_true, and_self, Bool.not_true, Bool.not_false, beq_self_eq_true, Int.reduceLT, Int.reduceBEq, Int.reduceMod, Int.reduceAdd, Int.reduceSub, Int.reduceNeg, Int.reduceLE, decide_true, decide_false, r_lc0, r_lc, lc1_ok, lc2_f, lc2_t, lc3_ok, c_comp, c_scomp, wipe0, wipe1, c_key, kyk_l, kyj_ok, kyi_ok, r_keys0, r_keys, kok_ok, r_cap0, r_cap, cpk_ok, arg0, arg1, arg2, ltK_eq, gtK_eq, kAt0, kAt1, kAt2, c_lam, lmk_ok, lmj_ok, r_thunk, thk_ok, thk_err, chk_t, chk_f, c_chain, c_raise1, err1_ok, MOd, put_0i, put_0o, put_s, itk_l, itk_t, c_items, r_app, r_isL, c_fld, c_prop, prk_ok, okD_ok, c_meth, c_methK, c_makeN, c_statK, c_tupk, tupl_l, c_zipP, zpk_ok, c_enumP, enk_ok, c_comp2, zip6, enum6, Bool.false_eq_true, h0, h]
theorem refused_ok {j : Int} (h1 : m_spare [PN a b c d e f, PN A B C D' E F] = .err ⟨"NotDrawn", [("side", .int j)]⟩) (h2 : m_same_ratio [PN a b c d e f, PN A B C D' E F] = .err ⟨"NotDrawn", [("side", .int j)]⟩) :
    m_u_law_refused [R6 a b c d e f, R6 A B C D' E F, .int j] = .ok (.bl true) := by
  have q0 := fun δ => mk_pen a b c d e f δ
  have q1 := fun δ => mk_pen A B C D' E F δ
  have rf : m_u_law_refusal (.err ⟨"NotDrawn", [("side", .int j)]⟩) = .ok (.lst [.tup [.str "side", .int j]]) := rfl
  have s0 := same_refl (pl_side j)
  have py : (D.lst [.tup [.str "side", .int j]]).py.isSome = true := by kernel_rfl
  unfold m_u_law_refused g_u_law_refused
  simp (implicitDefEqProofs := false) (maxSteps := 100000000) (disch := omega) only [c_bind, bnd_ok, bnd_err, r_pure, r_c, ifb_t, ifb_f, ifk_ok, c_eif, c_if, c_or, c_and, toB_ok, c_asB, ntk_ok, c_not, ntv_ok, c_vnot, ifv_ok, c_vand, c_vor, opk_ok, r_opt, c_bin, nowk_im, nowk_ow, nowk_io, c_itemN, c_binN, c_acons, vark_im, vark_ow, c_var, c_call0, callk_ok, callk_err, r_call1, r_call2, r_call3, c_callK, pick10, pick01, pick0,
      ownk_ow, ownk_io, rok_ok, c_callO, tabk_s, c_tab, seqk_nx, seqk_ret, seqk_brk, seqk_cnt, seqk_err, c_seq, r_nx, c_ret, c_drop, somek_ok, c_asg, r_btup2, r_btup3, obk_ok, r_bcons, r_bnil, c_for, r_loop0, r_loop, lp1_ok, lp2_nx, lp2_cnt, lp2_brk, lp2_ret, mutk_ok, c_mut, setk_ok, lk_ok, c_setI, olk_ok, c_rng1, runk_ret, runk_nx, runk_err, r_run, runok_ret, r_runO,
      eqI, neI, neB, eqB, catI, subI, gtI, ltI, leI, geI, modI, ngk_ok, c_neg, intI, ixt20, ixt21, ixt30, ixt31, ixt32, rng_6, rng_9, b_eqT, b_eqF, b_ltT, b_ltF, b_leT, b_leF, r_name, r_mkT, r_mkL, c_own, LIM_eq,
      List.getElem?_cons_succ, List.getElem?_cons_zero, List.set_cons_succ, List.set_cons_zero, List.length_cons, List.length_nil, List.map_cons, List.map_nil, List.replicate_succ, List.replicate_zero, List.cons_append, List.nil_append, Nat.reduceAdd, Nat.reduceSub, Nat.reduceLT, Nat.reduceEqDiff, Nat.reduceLeDiff, if_true, ite_true, ite_false, ↓reduceIte, true_and, and_true, and_self, Bool.not_true, Bool.not_false, beq_self_eq_true, Int.reduceLT, Int.reduceBEq, Int.reduceMod, Int.reduceAdd, Int.reduceSub, Int.reduceNeg, Int.reduceLE, decide_true, decide_false, r_lc0, r_lc, lc1_ok, lc2_f, lc2_t, lc3_ok, c_comp, c_scomp, wipe0, wipe1, c_key, kyk_l, kyj_ok, kyi_ok, r_keys0, r_keys, kok_ok, r_cap0, r_cap, cpk_ok, arg0, arg1, arg2, ltK_eq, gtK_eq, kAt0, kAt1, kAt2, c_lam, lmk_ok, lmj_ok, r_thunk, thk_ok, thk_err, chk_t, chk_f, c_chain, c_raise1, err1_ok, MOd, put_0i, put_0o, put_s, itk_l, itk_t, c_items, r_app, r_isL, c_fld, c_prop, prk_ok, okD_ok, c_meth, c_methK, c_makeN, c_statK, c_tupk, tupl_l, c_zipP, zpk_ok, c_enumP, enk_ok, c_comp2, zip6, enum6, Bool.false_eq_true, q0, q1, h1, h2, rf, s0, py]
/-- a crossed pen: refused by its first side; otherwise what the drawn pens give -/
theorem pair_ok (hd : m_check_drawn [PN a b c d e f] = .ok .non → m_check_drawn [PN A B C D' E F] = .ok .non → ((0 ≤ f + b - a ∧ 0 ≤ a + c - b ∧ 0 ≤ b + d - c) ∧ 0 ≤ c + e - d ∧ 0 ≤ d + f - e ∧ 0 ≤ e + a - f) →
    ((0 ≤ F + B - A ∧ 0 ≤ A + C - B ∧ 0 ≤ B + D' - C) ∧ 0 ≤ C + E - D' ∧ 0 ≤ D' + F - E ∧ 0 ≤ E + A - F) → m_u_law_drawn_fits [R6 a b c d e f, R6 A B C D' E F] = .ok (.bl true)) :
    m_u_law_pair_fits [R6 a b c d e f, R6 A B C D' E F] = .ok (.bl true) := by
  have l0 := bel_loop0 (a := a) (b := b) (c := c) (d := d) (e := e) (f := f) (R6 A B C D' E F) .no
  have l1 := fun z => bel_loop1 (a := A) (b := B) (c := C) (d := D') (e := E) (f := F) (R6 a b c d e f) z
  have r6 : rng1 [.int 6] = some [.int 0, .int 1, .int 2, .int 3, .int 4, .int 5] := by kernel_rfl
  have ct := dCat_ints (bel_len a b c d e f) (bel_len A B C D' E F)
  have nn := dNe_nil (bel a b c d e f ++ bel A B C D' E F)
  have ix : ∀ (j : Int) (l : List D), dIx (.lst (.int j :: l)) (.int 0) = some (.int j) := fun j l => atI_nat (i := 0) rfl
  rcases drawn_case (a := a) (b := b) (c := c) (d := d) (e := e) (f := f) with ⟨h1, h2, h3⟩ | ⟨j, t, h1, h2⟩
  · rcases drawn_case (a := A) (b := B) (c := C) (d := D') (e := E) (f := F) with ⟨k1, k2, k3⟩ | ⟨j, t, k1, k2⟩
    · have z := hd h2 k2 h3 k3
      rw [h1, k1] at ct nn
      rw [h1] at l0
      rw [k1] at l1
      have nn : dNe (.lst []) (.lst []) = some (.bl false) := nn
      have ct : dCat (.lst []) (.lst []) = some (.lst []) := ct
      clear hd h1 h2 k1 k2 h3 k3
      unfold m_u_law_pair_fits g_u_law_pair_fits
      simp (implicitDefEqProofs := false) (maxSteps := 100000000) (disch := omega) only [c_bind, bnd_ok, bnd_err, r_pure, r_c, ifb_t, ifb_f, ifk_ok, c_eif, c_if, c_or, c_and, toB_ok, c_asB, ntk_ok, c_not, ntv_ok, c_vnot, ifv_ok, c_vand, c_vor, opk_ok, r_opt, c_bin, nowk_im, nowk_ow, nowk_io, c_itemN, c_binN, c_acons, vark_im, vark_ow, c_var, c_call0, callk_ok, callk_err, r_call1, r_call2, r_call3, c_callK, pick10, pick01, pick0,
      ownk_ow, ownk_io, rok_ok, c_callO, tabk_s, c_tab, seqk_nx, seqk_ret, seqk_brk, seqk_cnt, seqk_err, c_seq, r_nx, c_ret, c_drop, somek_ok, c_asg, r_btup2, r_btup3, obk_ok, r_bcons, r_bnil, c_for, r_loop0, r_loop, lp1_ok, lp2_nx, lp2_cnt, lp2_brk, lp2_ret, mutk_ok, c_mut, setk_ok, lk_ok, c_setI, olk_ok, c_rng1, runk_ret, runk_nx, runk_err, r_run, runok_ret, r_runO,
      eqI, neI, neB, eqB, catI, subI, gtI, ltI, leI, geI, modI, ngk_ok, c_neg, intI, ixt20, ixt21, ixt30, ixt31, ixt32, rng_6, rng_9, b_eqT, b_eqF, b_ltT, b_ltF, b_leT, b_leF, r_name, r_mkT, r_mkL, c_own, LIM_eq,
      List.getElem?_cons_succ, List.getElem?_cons_zero, List.set_cons_succ, List.set_cons_zero, List.length_cons, List.length_nil, List.map_cons, List.map_nil, List.replicate_succ, List.replicate_zero, List.cons_append, List.nil_append, Nat.reduceAdd, Nat.reduceSub, Nat.reduceLT, Nat.reduceEqDiff, Nat.reduceLeDiff, if_true, ite_true, ite_false, ↓reduceIte, true_and, and_true, and_self, Bool.not_true, Bool.not_false, beq_self_eq_true, Int.reduceLT, Int.reduceBEq, Int.reduceMod, Int.reduceAdd, Int.reduceSub, Int.reduceNeg, Int.reduceLE, decide_true, decide_false, r_lc0, r_lc, lc1_ok, lc2_f, lc2_t, lc3_ok, c_comp, c_scomp, wipe0, wipe1, c_key, kyk_l, kyj_ok, kyi_ok, r_keys0, r_keys, kok_ok, r_cap0, r_cap, cpk_ok, arg0, arg1, arg2, ltK_eq, gtK_eq, kAt0, kAt1, kAt2, c_lam, lmk_ok, lmj_ok, r_thunk, thk_ok, thk_err, chk_t, chk_f, c_chain, c_raise1, err1_ok, MOd, put_0i, put_0o, put_s, itk_l, itk_t, c_items, r_app, r_isL, c_fld, c_prop, prk_ok, okD_ok, c_meth, c_methK, c_makeN, c_statK, c_tupk, tupl_l, c_zipP, zpk_ok, c_enumP, enk_ok, c_comp2, zip6, enum6, Bool.false_eq_true, l0, l1, r6, ct, nn, z]
    · have z := refused_ok (spare_bad2 h2 k2) (same_bad2 h2 k2)
      rw [h1, k1] at ct nn
      rw [h1] at l0
      rw [k1] at l1
      have nn : dNe (.lst (.int j :: t.map D.int)) (.lst []) = some (.bl true) := nn
      have ct : dCat (.lst []) (.lst (.int j :: t.map D.int)) = some (.lst (.int j :: t.map D.int)) := ct
      have i0 := ix j (t.map D.int)
      clear hd h1 h2 k1 k2 h3
      unfold m_u_law_pair_fits g_u_law_pair_fits
      simp (implicitDefEqProofs := false) (maxSteps := 100000000) (disch := omega) only [c_bind, bnd_ok, bnd_err, r_pure, r_c, ifb_t, ifb_f, ifk_ok, c_eif, c_if, c_or, c_and, toB_ok, c_asB, ntk_ok, c_not, ntv_ok, c_vnot, ifv_ok, c_vand, c_vor, opk_ok, r_opt, c_bin, nowk_im, nowk_ow, nowk_io, c_itemN, c_binN, c_acons, vark_im, vark_ow, c_var, c_call0, callk_ok, callk_err, r_call1, r_call2, r_call3, c_callK, pick10, pick01, pick0,
      ownk_ow, ownk_io, rok_ok, c_callO, tabk_s, c_tab, seqk_nx, seqk_ret, seqk_brk, seqk_cnt, seqk_err, c_seq, r_nx, c_ret, c_drop, somek_ok, c_asg, r_btup2, r_btup3, obk_ok, r_bcons, r_bnil, c_for, r_loop0, r_loop, lp1_ok, lp2_nx, lp2_cnt, lp2_brk, lp2_ret, mutk_ok, c_mut, setk_ok, lk_ok, c_setI, olk_ok, c_rng1, runk_ret, runk_nx, runk_err, r_run, runok_ret, r_runO,
      eqI, neI, neB, eqB, catI, subI, gtI, ltI, leI, geI, modI, ngk_ok, c_neg, intI, ixt20, ixt21, ixt30, ixt31, ixt32, rng_6, rng_9, b_eqT, b_eqF, b_ltT, b_ltF, b_leT, b_leF, r_name, r_mkT, r_mkL, c_own, LIM_eq,
      List.getElem?_cons_succ, List.getElem?_cons_zero, List.set_cons_succ, List.set_cons_zero, List.length_cons, List.length_nil, List.map_cons, List.map_nil, List.replicate_succ, List.replicate_zero, List.cons_append, List.nil_append, Nat.reduceAdd, Nat.reduceSub, Nat.reduceLT, Nat.reduceEqDiff, Nat.reduceLeDiff, if_true, ite_true, ite_false, ↓reduceIte, true_and, and_true, and_self, Bool.not_true, Bool.not_false, beq_self_eq_true, Int.reduceLT, Int.reduceBEq, Int.reduceMod, Int.reduceAdd, Int.reduceSub, Int.reduceNeg, Int.reduceLE, decide_true, decide_false, r_lc0, r_lc, lc1_ok, lc2_f, lc2_t, lc3_ok, c_comp, c_scomp, wipe0, wipe1, c_key, kyk_l, kyj_ok, kyi_ok, r_keys0, r_keys, kok_ok, r_cap0, r_cap, cpk_ok, arg0, arg1, arg2, ltK_eq, gtK_eq, kAt0, kAt1, kAt2, c_lam, lmk_ok, lmj_ok, r_thunk, thk_ok, thk_err, chk_t, chk_f, c_chain, c_raise1, err1_ok, MOd, put_0i, put_0o, put_s, itk_l, itk_t, c_items, r_app, r_isL, c_fld, c_prop, prk_ok, okD_ok, c_meth, c_methK, c_makeN, c_statK, c_tupk, tupl_l, c_zipP, zpk_ok, c_enumP, enk_ok, c_comp2, zip6, enum6, Bool.false_eq_true, l0, l1, r6, ct, nn, z, i0]
  · have z := refused_ok (spare_bad1 (q := PN A B C D' E F) h2) (same_bad1 h2)
    rw [h1] at ct nn
    rw [h1] at l0
    generalize bel A B C D' E F = bs at *
    have nn : dNe (.lst (.int j :: (t ++ bs).map D.int)) (.lst []) = some (.bl true) := nn
    have ct : dCat (.lst (.int j :: t.map D.int)) (.lst (bs.map D.int)) = some (.lst (.int j :: (t ++ bs).map D.int)) := ct
    have i0 := ix j ((t ++ bs).map D.int)
    clear hd h1 h2
    unfold m_u_law_pair_fits g_u_law_pair_fits
    simp (implicitDefEqProofs := false) (maxSteps := 100000000) (disch := omega) only [c_bind, bnd_ok, bnd_err, r_pure, r_c, ifb_t, ifb_f, ifk_ok, c_eif, c_if, c_or, c_and, toB_ok, c_asB, ntk_ok, c_not, ntv_ok, c_vnot, ifv_ok, c_vand, c_vor, opk_ok, r_opt, c_bin, nowk_im, nowk_ow, nowk_io, c_itemN, c_binN, c_acons, vark_im, vark_ow, c_var, c_call0, callk_ok, callk_err, r_call1, r_call2, r_call3, c_callK, pick10, pick01, pick0,
      ownk_ow, ownk_io, rok_ok, c_callO, tabk_s, c_tab, seqk_nx, seqk_ret, seqk_brk, seqk_cnt, seqk_err, c_seq, r_nx, c_ret, c_drop, somek_ok, c_asg, r_btup2, r_btup3, obk_ok, r_bcons, r_bnil, c_for, r_loop0, r_loop, lp1_ok, lp2_nx, lp2_cnt, lp2_brk, lp2_ret, mutk_ok, c_mut, setk_ok, lk_ok, c_setI, olk_ok, c_rng1, runk_ret, runk_nx, runk_err, r_run, runok_ret, r_runO,
      eqI, neI, neB, eqB, catI, subI, gtI, ltI, leI, geI, modI, ngk_ok, c_neg, intI, ixt20, ixt21, ixt30, ixt31, ixt32, rng_6, rng_9, b_eqT, b_eqF, b_ltT, b_ltF, b_leT, b_leF, r_name, r_mkT, r_mkL, c_own, LIM_eq,
      List.getElem?_cons_succ, List.getElem?_cons_zero, List.set_cons_succ, List.set_cons_zero, List.length_cons, List.length_nil, List.map_cons, List.map_nil, List.replicate_succ, List.replicate_zero, List.cons_append, List.nil_append, Nat.reduceAdd, Nat.reduceSub, Nat.reduceLT, Nat.reduceEqDiff, Nat.reduceLeDiff, if_true, ite_true, ite_false, ↓reduceIte, true_and, and_true, and_self, Bool.not_true, Bool.not_false, beq_self_eq_true, Int.reduceLT, Int.reduceBEq, Int.reduceMod, Int.reduceAdd, Int.reduceSub, Int.reduceNeg, Int.reduceLE, decide_true, decide_false, r_lc0, r_lc, lc1_ok, lc2_f, lc2_t, lc3_ok, c_comp, c_scomp, wipe0, wipe1, c_key, kyk_l, kyj_ok, kyi_ok, r_keys0, r_keys, kok_ok, r_cap0, r_cap, cpk_ok, arg0, arg1, arg2, ltK_eq, gtK_eq, kAt0, kAt1, kAt2, c_lam, lmk_ok, lmj_ok, r_thunk, thk_ok, thk_err, chk_t, chk_f, c_chain, c_raise1, err1_ok, MOd, put_0i, put_0o, put_s, itk_l, itk_t, c_items, r_app, r_isL, c_fld, c_prop, prk_ok, okD_ok, c_meth, c_methK, c_makeN, c_statK, c_tupk, tupl_l, c_zipP, zpk_ok, c_enumP, enk_ok, c_comp2, zip6, enum6, Bool.false_eq_true, l0, l1, r6, ct, nn, z, i0]
end
end T
set_option Elab.async false
set_option linter.all false
set_option maxRecDepth 100000
set_option maxHeartbeats 4000000
namespace T
open PySem PySem.Spec PyProof.Rows L2 LamX PL
variable [Tbls]
/-- the form of four numbers -/
theorem form_id (x p q u y p' q' u' : Int) : x * x * ((x * y - p * p' - q * q' - u * u') * (x * y - p * p' - q * q' - u * u') - (x * x - p * p - q * q - u * u) * (y * y - p' * p' - q' * q' - u' * u')) =
    (x * x - p * p - q * q - u * u) * ((x * p' - y * p) * (x * p' - y * p) + (x * q' - y * q) * (x * q' - y * q) + (x * u' - y * u) * (x * u' - y * u)) + (p * (x * p' - y * p) + q * (x * q' - y * q) + u * (x * u' - y * u)) * (p * (x * p' - y * p) + q * (x * q' - y * q) + u * (x * u' - y * u)) := by grind
theorem sq_nn (z : Int) : 0 ≤ z * z := by
  rcases Int.le_total 0 z with h | h
  · exact Int.mul_nonneg h h
  · have := Int.mul_nonneg (Int.neg_nonneg_of_nonpos h) (Int.neg_nonneg_of_nonpos h)
    rwa [Int.neg_mul_neg] at this
theorem sq_zero {z : Int} (h : z * z = 0) : z = 0 := by
  rcases Int.mul_eq_zero.mp h with h | h <;> exact h
/-- four numbers of a drawn pen -/
def Dr (x p q u : Int) : Prop := (0 ≤ p ∧ 0 ≤ q ∧ 0 ≤ u) ∧ p + q ≤ x ∧ q + u ≤ x ∧ p + u ≤ x
theorem area_nn {x p q u : Int} (h : Dr x p q u) : 0 ≤ x * x - p * p - q * q - u * u := by
  obtain ⟨⟨h1, h2, h3⟩, h4, h5, h6⟩ := h
  have e : x * x - p * p - q * q - u * u = p * q + p * (x - p - q) + q * (x - p - q) + (x - p - u) * (p + (x - p - q)) + u * (x - q - u) := by grind
  rw [e]
  have k1 := Int.mul_nonneg h1 h2
  have k2 := Int.mul_nonneg h1 (show 0 ≤ x - p - q by omega)
  have k3 := Int.mul_nonneg h2 (show 0 ≤ x - p - q by omega)
  have k4 := Int.mul_nonneg (show 0 ≤ x - p - u by omega) (show 0 ≤ p + (x - p - q) by omega)
  have k5 := Int.mul_nonneg h3 (show 0 ≤ x - q - u by omega)
  omega
theorem ineq {x p q u y p' q' u' : Int} (h : Dr x p q u) : 0 ≤ (x * y - p * p' - q * q' - u * u') * (x * y - p * p' - q * q' - u * u') - (x * x - p * p - q * q - u * u) * (y * y - p' * p' - q' * q' - u' * u') := by
  have hx : 0 ≤ x := by obtain ⟨⟨h1, h2, h3⟩, h4, h5, h6⟩ := h; omega
  rcases Int.lt_or_eq_of_le hx with h0 | h0
  · have id := form_id x p q u y p' q' u'
    have k1 := Int.mul_nonneg (area_nn h) (Int.add_nonneg (Int.add_nonneg (sq_nn (x * p' - y * p)) (sq_nn (x * q' - y * q))) (sq_nn (x * u' - y * u)))
    have k2 := sq_nn (p * (x * p' - y * p) + q * (x * q' - y * q) + u * (x * u' - y * u))
    have k3 := Int.add_nonneg k1 k2
    rw [← id] at k3
    generalize (x * y - p * p' - q * q' - u * u') * (x * y - p * p' - q * q' - u * u') - (x * x - p * p - q * q - u * u) * (y * y - p' * p' - q' * q' - u' * u') = S at *
    have hxx : 0 < x * x := Int.mul_pos h0 h0
    rcases Int.lt_or_le S 0 with z | z
    · have := Int.mul_neg_of_pos_of_neg hxx z
      omega
    · exact z
  · obtain ⟨⟨h1, h2, h3⟩, h4, h5, h6⟩ := h
    have e1 : p = 0 := by omega
    have e2 : q = 0 := by omega
    have e3 : u = 0 := by omega
    subst e1 e2 e3
    subst h0
    simp
theorem eq_iff {x p q u y p' q' u' : Int} (h : Dr x p q u) (ha : 0 < x * x - p * p - q * q - u * u) :
    (x * y - p * p' - q * q' - u * u') * (x * y - p * p' - q * q' - u * u') - (x * x - p * p - q * q - u * u) * (y * y - p' * p' - q' * q' - u' * u') = 0 ↔ (x * p' - y * p = 0 ∧ x * q' - y * q = 0) ∧ x * u' - y * u = 0 := by
  have id := form_id x p q u y p' q' u'
  have s1 := sq_nn (x * p' - y * p)
  have s2 := sq_nn (x * q' - y * q)
  have s3 := sq_nn (x * u' - y * u)
  have s4 := sq_nn (p * (x * p' - y * p) + q * (x * q' - y * q) + u * (x * u' - y * u))
  have hx : 0 < x := by
    obtain ⟨⟨h1, h2, h3⟩, h4, h5, h6⟩ := h
    rcases Int.lt_or_eq_of_le (show 0 ≤ x by omega) with h0 | h0
    · exact h0
    · have e1 : p = 0 := by omega
      have e2 : q = 0 := by omega
      have e3 : u = 0 := by omega
      subst e1 e2 e3
      subst h0
      simp at ha
  constructor
  · intro z
    rw [z, Int.mul_zero] at id
    have k := Int.mul_nonneg (Int.le_of_lt ha) (Int.add_nonneg (Int.add_nonneg s1 s2) s3)
    have k0 : (x * x - p * p - q * q - u * u) * ((x * p' - y * p) * (x * p' - y * p) + (x * q' - y * q) * (x * q' - y * q) + (x * u' - y * u) * (x * u' - y * u)) = 0 := by omega
    rcases Int.mul_eq_zero.mp k0 with k1 | k1
    · omega
    · exact ⟨⟨sq_zero (by omega), sq_zero (by omega)⟩, sq_zero (by omega)⟩
  · rintro ⟨⟨z1, z2⟩, z3⟩
    rw [z1, z2, z3] at id
    have hxx : 0 < x * x := Int.mul_pos hx hx
    simp only [Int.mul_zero, Int.add_zero] at id
    rcases Int.mul_eq_zero.mp id with k | k
    · omega
    · exact k
section
variable {a b c d e f A B C D' E F : Int}
theorem mx_form : mx a b c d e f A B C D' E F = ((f + b - a) + (a + c - b) + (b + d - c)) * ((F + B - A) + (A + C - B) + (B + D' - C)) - (f + b - a) * (F + B - A) - (b + d - c) * (B + D' - C) - (d + f - e) * (D' + F - E) := by
  unfold mx
  simp only [List.sum_cons, List.sum_nil]
  grind
theorem dr_of (h : (0 ≤ f + b - a ∧ 0 ≤ a + c - b ∧ 0 ≤ b + d - c) ∧ 0 ≤ c + e - d ∧ 0 ≤ d + f - e ∧ 0 ≤ e + a - f) : Dr ((f + b - a) + (a + c - b) + (b + d - c)) (f + b - a) (b + d - c) (d + f - e) := by
  unfold Dr
  omega
abbrev spr (a b c d e f A B C D' E F : Int) : Int := mx a b c d e f A B C D' E F * mx a b c d e f A B C D' E F - mx a b c d e f a b c d e f * mx A B C D' E F A B C D' E F
theorem spr_nn (h : (0 ≤ f + b - a ∧ 0 ≤ a + c - b ∧ 0 ≤ b + d - c) ∧ 0 ≤ c + e - d ∧ 0 ≤ d + f - e ∧ 0 ≤ e + a - f) : 0 ≤ spr a b c d e f A B C D' E F := by
  unfold spr
  rw [mx_form, mx_form, mx_form]
  exact ineq (dr_of h)
/-- the sides in one ratio -/
def rB (a b c d e f A B C D' E F : Int) : Bool := [(a + c - b) * (F + B - A) == (f + b - a) * (A + C - B), (b + d - c) * (F + B - A) == (f + b - a) * (B + D' - C), (b + d - c) * (A + C - B) == (a + c - b) * (B + D' - C), (c + e - d) * (F + B - A) == (f + b - a) * (C + E - D'), (c + e - d) * (A + C - B) == (a + c - b) * (C + E - D'), (c + e - d) * (B + D' - C) == (b + d - c) * (C + E - D'), (d + f - e) * (F + B - A) == (f + b - a) * (D' + F - E), (d + f - e) * (A + C - B) == (a + c - b) * (D' + F - E), (d + f - e) * (B + D' - C) == (b + d - c) * (D' + F - E), (d + f - e) * (C + E - D') == (c + e - d) * (D' + F - E), (e + a - f) * (F + B - A) == (f + b - a) * (E + A - F), (e + a - f) * (A + C - B) == (a + c - b) * (E + A - F), (e + a - f) * (B + D' - C) == (b + d - c) * (E + A - F), (e + a - f) * (C + E - D') == (c + e - d) * (E + A - F), (e + a - f) * (D' + F - E) == (d + f - e) * (E + A - F)].all id
theorem rB_iff : rB a b c d e f A B C D' E F = true ↔ ((a + c - b) * (F + B - A) = (f + b - a) * (A + C - B) ∧ (b + d - c) * (F + B - A) = (f + b - a) * (B + D' - C) ∧ (b + d - c) * (A + C - B) = (a + c - b) * (B + D' - C) ∧ (c + e - d) * (F + B - A) = (f + b - a) * (C + E - D') ∧ (c + e - d) * (A + C - B) = (a + c - b) * (C + E - D') ∧ (c + e - d) * (B + D' - C) = (b + d - c) * (C + E - D') ∧ (d + f - e) * (F + B - A) = (f + b - a) * (D' + F - E) ∧ (d + f - e) * (A + C - B) = (a + c - b) * (D' + F - E) ∧ (d + f - e) * (B + D' - C) = (b + d - c) * (D' + F - E) ∧ (d + f - e) * (C + E - D') = (c + e - d) * (D' + F - E) ∧ (e + a - f) * (F + B - A) = (f + b - a) * (E + A - F) ∧ (e + a - f) * (A + C - B) = (a + c - b) * (E + A - F) ∧ (e + a - f) * (B + D' - C) = (b + d - c) * (E + A - F) ∧ (e + a - f) * (C + E - D') = (c + e - d) * (E + A - F) ∧ (e + a - f) * (D' + F - E) = (d + f - e) * (E + A - F)) := by
  unfold rB
  simp only [List.all_cons, List.all_nil, id, Bool.and_true, Bool.and_eq_true, beq_iff_eq]
theorem spr_zero (h : (0 ≤ f + b - a ∧ 0 ≤ a + c - b ∧ 0 ≤ b + d - c) ∧ 0 ≤ c + e - d ∧ 0 ≤ d + f - e ∧ 0 ≤ e + a - f) (ha : 0 < mx a b c d e f a b c d e f) : rB a b c d e f A B C D' E F = (spr a b c d e f A B C D' E F == 0) := by
  rw [Bool.eq_iff_iff, beq_iff_eq, rB_iff]
  rw [mx_form] at ha
  have dr := dr_of h
  have k := eq_iff (y := (F + B - A) + (A + C - B) + (B + D' - C)) (p' := F + B - A) (q' := B + D' - C) (u' := D' + F - E) dr ha
  unfold spr
  rw [mx_form, mx_form, mx_form, k]
  have hx : 0 < (f + b - a) + (a + c - b) + (b + d - c) := by
    obtain ⟨⟨h1, h2, h3⟩, h4, h5, h6⟩ := dr
    rcases Int.lt_or_eq_of_le (show 0 ≤ (f + b - a) + (a + c - b) + (b + d - c) by omega) with h0 | h0
    · exact h0
    · rw [← h0] at ha
      have e1 : f + b - a = 0 := by omega
      have e2 : b + d - c = 0 := by omega
      have e3 : d + f - e = 0 := by omega
      rw [e1, e2, e3] at ha
      simp at ha
  have g3 : c + e - d = (f + b - a) + (a + c - b) - (d + f - e) := by omega
  have g5 : e + a - f = (a + c - b) + (b + d - c) - (d + f - e) := by omega
  have G3 : C + E - D' = (F + B - A) + (A + C - B) - (D' + F - E) := by omega
  have G5 : E + A - F = (A + C - B) + (B + D' - C) - (D' + F - E) := by omega
  rw [g3, g5, G3, G5]
  clear g3 g5 G3 G5 k ha h dr
  generalize f + b - a = p0 at *
  generalize a + c - b = p1 at *
  generalize b + d - c = p2 at *
  generalize d + f - e = p4 at *
  generalize F + B - A = q0 at *
  generalize A + C - B = q1 at *
  generalize B + D' - C = q2 at *
  generalize D' + F - E = q4 at *
  constructor
  · intro z
    refine ⟨⟨?_, ?_⟩, ?_⟩ <;> grind
  · rintro ⟨⟨z1, z2⟩, z3⟩
    have c02 : p0 * q2 = p2 * q0 := by
      have : (p0 + p1 + p2) * (p0 * q2 - p2 * q0) = 0 := by grind
      rcases Int.mul_eq_zero.mp this with k | k <;> omega
    have c04 : p0 * q4 = p4 * q0 := by
      have : (p0 + p1 + p2) * (p0 * q4 - p4 * q0) = 0 := by grind
      rcases Int.mul_eq_zero.mp this with k | k <;> omega
    have c24 : p2 * q4 = p4 * q2 := by
      have : (p0 + p1 + p2) * (p2 * q4 - p4 * q2) = 0 := by grind
      rcases Int.mul_eq_zero.mp this with k | k <;> omega
    have c01 : p0 * q1 = p1 * q0 := by grind
    have c12 : p1 * q2 = p2 * q1 := by grind
    have c14 : p1 * q4 = p4 * q1 := by
      have : (p0 + p1 + p2) * (p1 * q4 - p4 * q1) = 0 := by grind
      rcases Int.mul_eq_zero.mp this with k | k <;> omega
    clear z1 z2 z3 hx
    grind
/-- the rim -/
theorem rim_nn (h : (0 ≤ f + b - a ∧ 0 ≤ a + c - b ∧ 0 ≤ b + d - c) ∧ 0 ≤ c + e - d ∧ 0 ≤ d + f - e ∧ 0 ≤ e + a - f) : 6 * mx a b c d e f a b c d e f ≤ rim a b c d e f * rim a b c d e f := by
  have k := spr_nn (A := 1) (B := 1) (C := 1) (D' := 1) (E := 1) (F := 1) h
  unfold spr at k
  have e1 : mx a b c d e f 1 1 1 1 1 1 = rim a b c d e f := by rw [mx_even, Int.one_mul]
  have e2 : mx 1 1 1 1 1 1 1 1 1 1 1 1 = 6 := by decide
  rw [e1, e2] at k
  omega
theorem rim_eq (h : (0 ≤ f + b - a ∧ 0 ≤ a + c - b ∧ 0 ≤ b + d - c) ∧ 0 ≤ c + e - d ∧ 0 ≤ d + f - e ∧ 0 ≤ e + a - f) : rim a b c d e f * rim a b c d e f = 6 * mx a b c d e f a b c d e f ↔
    (f + b - a = a + c - b ∧ a + c - b = b + d - c) ∧ b + d - c = c + e - d ∧ c + e - d = d + f - e ∧ d + f - e = e + a - f := by
  have hr : rim a b c d e f = (f + b - a) + (a + c - b) + (b + d - c) + (c + e - d) + (d + f - e) + (e + a - f) := by
    unfold rim
    simp only [List.sum_cons, List.sum_nil]
    omega
  constructor
  · intro z
    by_cases ha : 0 < mx a b c d e f a b c d e f
    · have k := spr_zero (A := 1) (B := 1) (C := 1) (D' := 1) (E := 1) (F := 1) h ha
      have e1 : mx a b c d e f 1 1 1 1 1 1 = rim a b c d e f := by rw [mx_even, Int.one_mul]
      have e2 : mx 1 1 1 1 1 1 1 1 1 1 1 1 = 6 := by decide
      have e3 : spr a b c d e f 1 1 1 1 1 1 = 0 := by
        unfold spr
        rw [e1, e2]
        omega
      rw [e3] at k
      have k2 := rB_iff.mp k
      omega
    · have k := area_nn (dr_of h)
      rw [← mx_form] at k
      have e0 : mx a b c d e f a b c d e f = 0 := by omega
      rw [e0, Int.mul_zero] at z
      have e4 := sq_zero z
      omega
  · rintro ⟨⟨z1, z2⟩, z3, z4, z5⟩
    rw [mx_form, hr]
    rw [← z5, ← z4, ← z3, ← z2, ← z1]
    generalize f + b - a = m
    grind
end
end T
set_option Elab.async false
set_option linter.all false
set_option maxRecDepth 100000
set_option maxHeartbeats 8000000
namespace T
open PySem PySem.Spec PyProof.Rows L2 LamX PL
variable [Tbls]
theorem wide_na {i j : Int} (hi : i.natAbs ≤ 10 ^ 190) (hj : j.natAbs ≤ 10 ^ 190) : wideOk i j = true := by
  have q : ((10 : Int) ^ 200) = (((10 : Nat) ^ 200 : Nat) : Int) := by norm_cast
  have p : (10 : Nat) ^ 190 ≤ 10 ^ 200 := by decide +kernel
  have key : ∀ i : Int, i.natAbs ≤ 10 ^ 200 → -(10 ^ 200) ≤ i ∧ i ≤ 10 ^ 200 := fun i hi => by
    rw [q]
    generalize (10 : Nat) ^ 200 = M at *
    omega
  have k1 := key i (Nat.le_trans hi p)
  have k2 := key j (Nat.le_trans hj p)
  exact wideOk_of k1.1 k1.2 k2.1 k2.2
theorem three {x y z : Int} (hx : x.natAbs ≤ BIG) (hy : y.natAbs ≤ BIG) (hz : z.natAbs ≤ BIG) : (x + y - z).natAbs ≤ 10 ^ 190 := by
  have p : BIG * 3 ≤ 10 ^ 190 := by decide +kernel
  generalize BIG = N at *
  exact Nat.le_trans (by omega) p
abbrev six : List Int := [0, 1, 2, 3, 4, 5]
section
variable {p0 p1 p2 p3 p4 p5 q0 q1 q2 q3 q4 q5 : Int} {a b c d e f A B C D' E F : Int}
def g6 (p0 p1 p2 p3 p4 p5 k : Int) : Int := if k = 0 then p0 else if k = 1 then p1 else if k = 2 then p2 else if k = 3 then p3 else if k = 4 then p4 else p5
theorem g6_bd {N : Nat} (h : (p0.natAbs ≤ N ∧ p1.natAbs ≤ N ∧ p2.natAbs ≤ N) ∧ p3.natAbs ≤ N ∧ p4.natAbs ≤ N ∧ p5.natAbs ≤ N) (k : Int) : (g6 p0 p1 p2 p3 p4 p5 k).natAbs ≤ N := by
  obtain ⟨⟨h0, h1, h2⟩, h3, h4, h5⟩ := h
  unfold g6
  repeat' split
  all_goals assumption
def WW (p0 p1 p2 p3 p4 p5 q0 q1 q2 q3 q4 q5 : Int) : Prop := ∀ j k : Int, wideOk (g6 p0 p1 p2 p3 p4 p5 j) (g6 q0 q1 q2 q3 q4 q5 k) = true
theorem ww_of (h : Bd BIG a b c d e f) (h' : Bd BIG A B C D' E F) : WW (f + b - a) (a + c - b) (b + d - c) (c + e - d) (d + f - e) (e + a - f) (F + B - A) (A + C - B) (B + D' - C) (C + E - D') (D' + F - E) (E + A - F) := by
  obtain ⟨⟨h0, h1, h2⟩, h3, h4, h5⟩ := h
  obtain ⟨⟨k0, k1, k2⟩, k3, k4, k5⟩ := h'
  exact fun j k => wide_na (g6_bd ⟨⟨three h5 h1 h0, three h0 h2 h1, three h1 h3 h2⟩, three h2 h4 h3, three h3 h5 h4, three h4 h0 h5⟩ j) (g6_bd ⟨⟨three k5 k1 k0, three k0 k2 k1, three k1 k3 k2⟩, three k2 k4 k3, three k3 k5 k4, three k4 k0 k5⟩ k)
theorem ix6 {k : Int} (h : k ∈ six) : dIx (.lst (I6 p0 p1 p2 p3 p4 p5)) (.int k) = some (.int (g6 p0 p1 p2 p3 p4 p5 k)) := by
  simp only [List.mem_cons, List.not_mem_nil, or_false] at h
  rcases h with rfl | rfl | rfl | rfl | rfl | rfl <;> kernel_rfl
def tt (p0 p1 p2 p3 p4 p5 q0 q1 q2 q3 q4 q5 k j : Int) : Bool := !(g6 p0 p1 p2 p3 p4 p5 k * g6 q0 q1 q2 q3 q4 q5 j == g6 p0 p1 p2 p3 p4 p5 j * g6 q0 q1 q2 q3 q4 q5 k)
abbrev bodyR : S := sSeq (sIf (asB (eBin dNe (eBin dMulX (eItemN 2 (eVar 4)) (eItemN 3 (eVar 5))) (eBin dMulX (eItemN 2 (eVar 5)) (eItemN 3 (eVar 4))))) (sSeq (sRet (eC (.bl false))) sNx) sNx) sNx
abbrev bodyO : S := sSeq (sFor (iRange1 (aCons (eC (.int 6)) (M.pure []))) (bName 5) bodyR) sNx
def tD (t : Int → Bool) (x : D) : Bool := match x with
  | .int k => t k
  | _ => false
theorem any_D (t : Int → Bool) : ∀ l : List Int, (l.map D.int).any (tD t) = l.any t
  | [] => rfl
  | x :: l => by rw [List.map_cons, List.any_cons, List.any_cons, any_D t l]; rfl
theorem in_ok (hw : WW p0 p1 p2 p3 p4 p5 q0 q1 q2 q3 q4 q5) {k : Int} (hk : k ∈ six) (R Q : D) (y : Sl) :
    (six.any (tt p0 p1 p2 p3 p4 p5 q0 q1 q2 q3 q4 q5 k) = true ∧ ∃ δ2, loopS (bName 5) bodyR (six.map D.int) [.im R, .im Q, .im (.lst (I6 p0 p1 p2 p3 p4 p5)), .im (.lst (I6 q0 q1 q2 q3 q4 q5)), .im (.int k), y] = .ok (.ret (.bl false)) δ2) ∨
    (six.any (tt p0 p1 p2 p3 p4 p5 q0 q1 q2 q3 q4 q5 k) = false ∧ ∃ y', loopS (bName 5) bodyR (six.map D.int) [.im R, .im Q, .im (.lst (I6 p0 p1 p2 p3 p4 p5)), .im (.lst (I6 q0 q1 q2 q3 q4 q5)), .im (.int k), y] = .ok .nx [.im R, .im Q, .im (.lst (I6 p0 p1 p2 p3 p4 p5)), .im (.lst (I6 q0 q1 q2 q3 q4 q5)), .im (.int k), y']) := by
  have z := loopS_find (bd := bName 5) (body := bodyR) (v := .bl false) (I := fun δ => ∃ y', δ = [.im R, .im Q, .im (.lst (I6 p0 p1 p2 p3 p4 p5)), .im (.lst (I6 q0 q1 q2 q3 q4 q5)), .im (.int k), y']) (t := tD (tt p0 p1 p2 p3 p4 p5 q0 q1 q2 q3 q4 q5 k)) (ds := six.map D.int) (δ := [.im R, .im Q, .im (.lst (I6 p0 p1 p2 p3 p4 p5)), .im (.lst (I6 q0 q1 q2 q3 q4 q5)), .im (.int k), y]) ⟨y, rfl⟩ (fun x hx δ hδ => by
    obtain ⟨y', rfl⟩ := hδ
    obtain ⟨j, hj, rfl⟩ := List.mem_map.mp hx
    have a1 := ix6 (p0 := p0) (p1 := p1) (p2 := p2) (p3 := p3) (p4 := p4) (p5 := p5) hk
    have a2 := ix6 (p0 := p0) (p1 := p1) (p2 := p2) (p3 := p3) (p4 := p4) (p5 := p5) hj
    have a3 := ix6 (p0 := q0) (p1 := q1) (p2 := q2) (p3 := q3) (p4 := q4) (p5 := q5) hk
    have a4 := ix6 (p0 := q0) (p1 := q1) (p2 := q2) (p3 := q3) (p4 := q4) (p5 := q5) hj
    have w1 := mulX_ok (hw k j)
    have w2 := mulX_ok (hw j k)
    have td : tD (tt p0 p1 p2 p3 p4 p5 q0 q1 q2 q3 q4 q5 k) (.int j) = !(g6 p0 p1 p2 p3 p4 p5 k * g6 q0 q1 q2 q3 q4 q5 j == g6 p0 p1 p2 p3 p4 p5 j * g6 q0 q1 q2 q3 q4 q5 k) := rfl
    rw [td]
    generalize g6 p0 p1 p2 p3 p4 p5 k * g6 q0 q1 q2 q3 q4 q5 j = u at *
    generalize g6 p0 p1 p2 p3 p4 p5 j * g6 q0 q1 q2 q3 q4 q5 k = v at *
    have ne : dNe (.int u) (.int v) = some (.bl (!(u == v))) := by kernel_rfl
    refine ⟨[.im R, .im Q, .im (.lst (I6 p0 p1 p2 p3 p4 p5)), .im (.lst (I6 q0 q1 q2 q3 q4 q5)), .im (.int k), .im (.int j)], rfl, ?_⟩
    cases h : (u == v) with
    | true =>
      rw [h] at ne
      refine .inr ⟨rfl, [.im R, .im Q, .im (.lst (I6 p0 p1 p2 p3 p4 p5)), .im (.lst (I6 q0 q1 q2 q3 q4 q5)), .im (.int k), .im (.int j)], ?_, _, rfl⟩
      clear td h
      simp (implicitDefEqProofs := false) (maxSteps := 100000000) (disch := omega) only [c_bind, bnd_ok, bnd_err, r_pure, r_c, ifb_t, ifb_f, ifk_ok, c_eif, c_if, c_or, c_and, toB_ok, c_asB, ntk_ok, c_not, ntv_ok, c_vnot, ifv_ok, c_vand, c_vor, opk_ok, r_opt, c_bin, nowk_im, nowk_ow, nowk_io, c_itemN, c_binN, c_acons, vark_im, vark_ow, c_var, c_call0, callk_ok, callk_err, r_call1, r_call2, r_call3, c_callK, pick10, pick01, pick0,
      ownk_ow, ownk_io, rok_ok, c_callO, tabk_s, c_tab, seqk_nx, seqk_ret, seqk_brk, seqk_cnt, seqk_err, c_seq, r_nx, c_ret, c_drop, somek_ok, c_asg, r_btup2, r_btup3, obk_ok, r_bcons, r_bnil, c_for, r_loop0, r_loop, lp1_ok, lp2_nx, lp2_cnt, lp2_brk, lp2_ret, mutk_ok, c_mut, setk_ok, lk_ok, c_setI, olk_ok, c_rng1, runk_ret, runk_nx, runk_err, r_run, runok_ret, r_runO,
      eqI, neI, neB, eqB, catI, subI, gtI, ltI, leI, geI, modI, ngk_ok, c_neg, intI, ixt20, ixt21, ixt30, ixt31, ixt32, rng_6, rng_9, b_eqT, b_eqF, b_ltT, b_ltF, b_leT, b_leF, r_name, r_mkT, r_mkL, c_own, LIM_eq,
      List.getElem?_cons_succ, List.getElem?_cons_zero, List.set_cons_succ, List.set_cons_zero, List.length_cons, List.length_nil, List.map_cons, List.map_nil, List.replicate_succ, List.replicate_zero, List.cons_append, List.nil_append, Nat.reduceAdd, Nat.reduceSub, Nat.reduceLT, Nat.reduceEqDiff, Nat.reduceLeDiff, if_true, ite_true, ite_false, ↓reduceIte, true_and, and_true, and_self, Bool.not_true, Bool.not_false, beq_self_eq_true, Int.reduceLT, Int.reduceBEq, Int.reduceMod, Int.reduceAdd, Int.reduceSub, Int.reduceNeg, Int.reduceLE, decide_true, decide_false, r_lc0, r_lc, lc1_ok, lc2_f, lc2_t, lc3_ok, c_comp, c_scomp, wipe0, wipe1, c_key, kyk_l, kyj_ok, kyi_ok, r_keys0, r_keys, kok_ok, r_cap0, r_cap, cpk_ok, arg0, arg1, arg2, ltK_eq, gtK_eq, kAt0, kAt1, kAt2, c_lam, lmk_ok, lmj_ok, r_thunk, thk_ok, thk_err, chk_t, chk_f, c_chain, c_raise1, err1_ok, MOd, put_0i, put_0o, put_s, itk_l, itk_t, c_items, r_app, r_isL, c_fld, c_prop, prk_ok, okD_ok, c_meth, c_methK, c_makeN, c_statK, c_tupk, tupl_l, c_zipP, zpk_ok, c_enumP, enk_ok, c_comp2, zip6, enum6, Bool.false_eq_true, a1, a2, a3, a4, w1, w2, ne]
    | false =>
      rw [h] at ne
      refine .inl ⟨rfl, [.im R, .im Q, .im (.lst (I6 p0 p1 p2 p3 p4 p5)), .im (.lst (I6 q0 q1 q2 q3 q4 q5)), .im (.int k), .im (.int j)], ?_⟩
      clear td h
      simp (implicitDefEqProofs := false) (maxSteps := 100000000) (disch := omega) only [c_bind, bnd_ok, bnd_err, r_pure, r_c, ifb_t, ifb_f, ifk_ok, c_eif, c_if, c_or, c_and, toB_ok, c_asB, ntk_ok, c_not, ntv_ok, c_vnot, ifv_ok, c_vand, c_vor, opk_ok, r_opt, c_bin, nowk_im, nowk_ow, nowk_io, c_itemN, c_binN, c_acons, vark_im, vark_ow, c_var, c_call0, callk_ok, callk_err, r_call1, r_call2, r_call3, c_callK, pick10, pick01, pick0,
      ownk_ow, ownk_io, rok_ok, c_callO, tabk_s, c_tab, seqk_nx, seqk_ret, seqk_brk, seqk_cnt, seqk_err, c_seq, r_nx, c_ret, c_drop, somek_ok, c_asg, r_btup2, r_btup3, obk_ok, r_bcons, r_bnil, c_for, r_loop0, r_loop, lp1_ok, lp2_nx, lp2_cnt, lp2_brk, lp2_ret, mutk_ok, c_mut, setk_ok, lk_ok, c_setI, olk_ok, c_rng1, runk_ret, runk_nx, runk_err, r_run, runok_ret, r_runO,
      eqI, neI, neB, eqB, catI, subI, gtI, ltI, leI, geI, modI, ngk_ok, c_neg, intI, ixt20, ixt21, ixt30, ixt31, ixt32, rng_6, rng_9, b_eqT, b_eqF, b_ltT, b_ltF, b_leT, b_leF, r_name, r_mkT, r_mkL, c_own, LIM_eq,
      List.getElem?_cons_succ, List.getElem?_cons_zero, List.set_cons_succ, List.set_cons_zero, List.length_cons, List.length_nil, List.map_cons, List.map_nil, List.replicate_succ, List.replicate_zero, List.cons_append, List.nil_append, Nat.reduceAdd, Nat.reduceSub, Nat.reduceLT, Nat.reduceEqDiff, Nat.reduceLeDiff, if_true, ite_true, ite_false, ↓reduceIte, true_and, and_true, and_self, Bool.not_true, Bool.not_false, beq_self_eq_true, Int.reduceLT, Int.reduceBEq, Int.reduceMod, Int.reduceAdd, Int.reduceSub, Int.reduceNeg, Int.reduceLE, decide_true, decide_false, r_lc0, r_lc, lc1_ok, lc2_f, lc2_t, lc3_ok, c_comp, c_scomp, wipe0, wipe1, c_key, kyk_l, kyj_ok, kyi_ok, r_keys0, r_keys, kok_ok, r_cap0, r_cap, cpk_ok, arg0, arg1, arg2, ltK_eq, gtK_eq, kAt0, kAt1, kAt2, c_lam, lmk_ok, lmj_ok, r_thunk, thk_ok, thk_err, chk_t, chk_f, c_chain, c_raise1, err1_ok, MOd, put_0i, put_0o, put_s, itk_l, itk_t, c_items, r_app, r_isL, c_fld, c_prop, prk_ok, okD_ok, c_meth, c_methK, c_makeN, c_statK, c_tupk, tupl_l, c_zipP, zpk_ok, c_enumP, enk_ok, c_comp2, zip6, enum6, Bool.false_eq_true, a1, a2, a3, a4, w1, w2, ne])
  rw [any_D] at z
  rcases z with ⟨h1, δ2, h2⟩ | ⟨h1, δ2, h2, y', rfl⟩
  · exact .inl ⟨h1, δ2, h2⟩
  · exact .inr ⟨h1, y', h2⟩
theorem out_ok (hw : WW p0 p1 p2 p3 p4 p5 q0 q1 q2 q3 q4 q5) (R Q : D) :
    (six.any (fun k => six.any (tt p0 p1 p2 p3 p4 p5 q0 q1 q2 q3 q4 q5 k)) = true ∧ ∃ δ2, loopS (bName 4) bodyO (six.map D.int) [.im R, .im Q, .im (.lst (I6 p0 p1 p2 p3 p4 p5)), .im (.lst (I6 q0 q1 q2 q3 q4 q5)), .no, .no] = .ok (.ret (.bl false)) δ2) ∨
    (six.any (fun k => six.any (tt p0 p1 p2 p3 p4 p5 q0 q1 q2 q3 q4 q5 k)) = false ∧ ∃ x y', loopS (bName 4) bodyO (six.map D.int) [.im R, .im Q, .im (.lst (I6 p0 p1 p2 p3 p4 p5)), .im (.lst (I6 q0 q1 q2 q3 q4 q5)), .no, .no] = .ok .nx [.im R, .im Q, .im (.lst (I6 p0 p1 p2 p3 p4 p5)), .im (.lst (I6 q0 q1 q2 q3 q4 q5)), x, y']) := by
  have r6 : rng1 [.int 6] = some (six.map D.int) := by kernel_rfl
  have z := loopS_find (bd := bName 4) (body := bodyO) (v := .bl false) (I := fun δ => ∃ x y', δ = [.im R, .im Q, .im (.lst (I6 p0 p1 p2 p3 p4 p5)), .im (.lst (I6 q0 q1 q2 q3 q4 q5)), x, y']) (t := tD (fun k => six.any (tt p0 p1 p2 p3 p4 p5 q0 q1 q2 q3 q4 q5 k))) (ds := six.map D.int) (δ := [.im R, .im Q, .im (.lst (I6 p0 p1 p2 p3 p4 p5)), .im (.lst (I6 q0 q1 q2 q3 q4 q5)), .no, .no]) ⟨.no, .no, rfl⟩ (fun x hx δ hδ => by
    obtain ⟨x', y', rfl⟩ := hδ
    obtain ⟨k, hk, rfl⟩ := List.mem_map.mp hx
    refine ⟨[.im R, .im Q, .im (.lst (I6 p0 p1 p2 p3 p4 p5)), .im (.lst (I6 q0 q1 q2 q3 q4 q5)), .im (.int k), y'], rfl, ?_⟩
    rcases in_ok hw hk R Q y' with ⟨h1, δ2, h2⟩ | ⟨h1, y2, h2⟩
    · refine .inl ⟨h1, δ2, ?_⟩
      generalize (six.map D.int) = sx at *
      clear h1 hw
      simp (implicitDefEqProofs := false) (maxSteps := 100000000) (disch := omega) only [c_bind, bnd_ok, bnd_err, r_pure, r_c, ifb_t, ifb_f, ifk_ok, c_eif, c_if, c_or, c_and, toB_ok, c_asB, ntk_ok, c_not, ntv_ok, c_vnot, ifv_ok, c_vand, c_vor, opk_ok, r_opt, c_bin, nowk_im, nowk_ow, nowk_io, c_itemN, c_binN, c_acons, vark_im, vark_ow, c_var, c_call0, callk_ok, callk_err, r_call1, r_call2, r_call3, c_callK, pick10, pick01, pick0,
      ownk_ow, ownk_io, rok_ok, c_callO, tabk_s, c_tab, seqk_nx, seqk_ret, seqk_brk, seqk_cnt, seqk_err, c_seq, r_nx, c_ret, c_drop, somek_ok, c_asg, r_btup2, r_btup3, obk_ok, r_bcons, r_bnil, c_for, r_loop0, r_loop, lp1_ok, lp2_nx, lp2_cnt, lp2_brk, lp2_ret, mutk_ok, c_mut, setk_ok, lk_ok, c_setI, olk_ok, c_rng1, runk_ret, runk_nx, runk_err, r_run, runok_ret, r_runO,
      eqI, neI, neB, eqB, catI, subI, gtI, ltI, leI, geI, modI, ngk_ok, c_neg, intI, ixt20, ixt21, ixt30, ixt31, ixt32, rng_6, rng_9, b_eqT, b_eqF, b_ltT, b_ltF, b_leT, b_leF, r_name, r_mkT, r_mkL, c_own, LIM_eq,
      List.getElem?_cons_succ, List.getElem?_cons_zero, List.set_cons_succ, List.set_cons_zero, List.length_cons, List.length_nil, List.map_cons, List.map_nil, List.replicate_succ, List.replicate_zero, List.cons_append, List.nil_append, Nat.reduceAdd, Nat.reduceSub, Nat.reduceLT, Nat.reduceEqDiff, Nat.reduceLeDiff, if_true, ite_true, ite_false, ↓reduceIte, true_and, and_true, and_self, Bool.not_true, Bool.not_false, beq_self_eq_true, Int.reduceLT, Int.reduceBEq, Int.reduceMod, Int.reduceAdd, Int.reduceSub, Int.reduceNeg, Int.reduceLE, decide_true, decide_false, r_lc0, r_lc, lc1_ok, lc2_f, lc2_t, lc3_ok, c_comp, c_scomp, wipe0, wipe1, c_key, kyk_l, kyj_ok, kyi_ok, r_keys0, r_keys, kok_ok, r_cap0, r_cap, cpk_ok, arg0, arg1, arg2, ltK_eq, gtK_eq, kAt0, kAt1, kAt2, c_lam, lmk_ok, lmj_ok, r_thunk, thk_ok, thk_err, chk_t, chk_f, c_chain, c_raise1, err1_ok, MOd, put_0i, put_0o, put_s, itk_l, itk_t, c_items, r_app, r_isL, c_fld, c_prop, prk_ok, okD_ok, c_meth, c_methK, c_makeN, c_statK, c_tupk, tupl_l, c_zipP, zpk_ok, c_enumP, enk_ok, c_comp2, zip6, enum6, Bool.false_eq_true, r6, h2]
    · refine .inr ⟨h1, [.im R, .im Q, .im (.lst (I6 p0 p1 p2 p3 p4 p5)), .im (.lst (I6 q0 q1 q2 q3 q4 q5)), .im (.int k), y2], ?_, _, _, rfl⟩
      generalize (six.map D.int) = sx at *
      clear h1 hw
      simp (implicitDefEqProofs := false) (maxSteps := 100000000) (disch := omega) only [c_bind, bnd_ok, bnd_err, r_pure, r_c, ifb_t, ifb_f, ifk_ok, c_eif, c_if, c_or, c_and, toB_ok, c_asB, ntk_ok, c_not, ntv_ok, c_vnot, ifv_ok, c_vand, c_vor, opk_ok, r_opt, c_bin, nowk_im, nowk_ow, nowk_io, c_itemN, c_binN, c_acons, vark_im, vark_ow, c_var, c_call0, callk_ok, callk_err, r_call1, r_call2, r_call3, c_callK, pick10, pick01, pick0,
      ownk_ow, ownk_io, rok_ok, c_callO, tabk_s, c_tab, seqk_nx, seqk_ret, seqk_brk, seqk_cnt, seqk_err, c_seq, r_nx, c_ret, c_drop, somek_ok, c_asg, r_btup2, r_btup3, obk_ok, r_bcons, r_bnil, c_for, r_loop0, r_loop, lp1_ok, lp2_nx, lp2_cnt, lp2_brk, lp2_ret, mutk_ok, c_mut, setk_ok, lk_ok, c_setI, olk_ok, c_rng1, runk_ret, runk_nx, runk_err, r_run, runok_ret, r_runO,
      eqI, neI, neB, eqB, catI, subI, gtI, ltI, leI, geI, modI, ngk_ok, c_neg, intI, ixt20, ixt21, ixt30, ixt31, ixt32, rng_6, rng_9, b_eqT, b_eqF, b_ltT, b_ltF, b_leT, b_leF, r_name, r_mkT, r_mkL, c_own, LIM_eq,
      List.getElem?_cons_succ, List.getElem?_cons_zero, List.set_cons_succ, List.set_cons_zero, List.length_cons, List.length_nil, List.map_cons, List.map_nil, List.replicate_succ, List.replicate_zero, List.cons_append, List.nil_append, Nat.reduceAdd, Nat.reduceSub, Nat.reduceLT, Nat.reduceEqDiff, Nat.reduceLeDiff, if_true, ite_true, ite_false, ↓reduceIte, true_and, and_true, and_self, Bool.not_true, Bool.not_false, beq_self_eq_true, Int.reduceLT, Int.reduceBEq, Int.reduceMod, Int.reduceAdd, Int.reduceSub, Int.reduceNeg, Int.reduceLE, decide_true, decide_false, r_lc0, r_lc, lc1_ok, lc2_f, lc2_t, lc3_ok, c_comp, c_scomp, wipe0, wipe1, c_key, kyk_l, kyj_ok, kyi_ok, r_keys0, r_keys, kok_ok, r_cap0, r_cap, cpk_ok, arg0, arg1, arg2, ltK_eq, gtK_eq, kAt0, kAt1, kAt2, c_lam, lmk_ok, lmj_ok, r_thunk, thk_ok, thk_err, chk_t, chk_f, c_chain, c_raise1, err1_ok, MOd, put_0i, put_0o, put_s, itk_l, itk_t, c_items, r_app, r_isL, c_fld, c_prop, prk_ok, okD_ok, c_meth, c_methK, c_makeN, c_statK, c_tupk, tupl_l, c_zipP, zpk_ok, c_enumP, enk_ok, c_comp2, zip6, enum6, Bool.false_eq_true, r6, h2])
  rw [any_D] at z
  rcases z with ⟨h1, δ2, h2⟩ | ⟨h1, δ2, h2, x, y', rfl⟩
  · exact .inl ⟨h1, δ2, h2⟩
  · exact .inr ⟨h1, x, y', h2⟩
theorem tt_rB : (!(six.any (fun k => six.any (tt (f + b - a) (a + c - b) (b + d - c) (c + e - d) (d + f - e) (e + a - f) (F + B - A) (A + C - B) (B + D' - C) (C + E - D') (D' + F - E) (E + A - F) k)))) = rB a b c d e f A B C D' E F := by
  have g0 : ∀ p0 p1 p2 p3 p4 p5 : Int, ((g6 p0 p1 p2 p3 p4 p5 0 = p0 ∧ g6 p0 p1 p2 p3 p4 p5 1 = p1 ∧ g6 p0 p1 p2 p3 p4 p5 2 = p2) ∧ g6 p0 p1 p2 p3 p4 p5 3 = p3 ∧ g6 p0 p1 p2 p3 p4 p5 4 = p4 ∧ g6 p0 p1 p2 p3 p4 p5 5 = p5) := fun _ _ _ _ _ _ => ⟨⟨rfl, rfl, rfl⟩, rfl, rfl, rfl⟩
  rw [Bool.eq_iff_iff, rB_iff]
  simp only [tt, List.any_cons, List.any_nil, g0, Bool.or_false, Bool.not_or, Bool.not_not, Bool.and_eq_true, beq_iff_eq]
  generalize f + b - a = p0 at *
  generalize a + c - b = p1 at *
  generalize b + d - c = p2 at *
  generalize c + e - d = p3 at *
  generalize d + f - e = p4 at *
  generalize e + a - f = p5 at *
  generalize F + B - A = q0 at *
  generalize A + C - B = q1 at *
  generalize B + D' - C = q2 at *
  generalize C + E - D' = q3 at *
  generalize D' + F - E = q4 at *
  generalize E + A - F = q5 at *
  clear g0
  constructor <;> intro z <;> grind
theorem ratio_ok (h : Bd BIG a b c d e f) (h' : Bd BIG A B C D' E F) : m_u_law_ratio [R6 a b c d e f, R6 A B C D' E F] = .ok (.bl (rB a b c d e f A B C D' E F)) := by
  have o := out_ok (ww_of h h') (R6 a b c d e f) (R6 A B C D' E F)
  have r6 : rng1 [.int 6] = some (six.map D.int) := by kernel_rfl
  have s0 := sides_ok a b c d e f
  have s1 := sides_ok A B C D' E F
  rw [← tt_rB]
  generalize (six.map D.int) = sx at *
  rcases o with ⟨h1, δ2, h2⟩ | ⟨h1, x, y', h2⟩
  · rw [h1]
    clear h1 h h'
    unfold m_u_law_ratio g_u_law_ratio
    simp (implicitDefEqProofs := false) (maxSteps := 100000000) (disch := omega) only [c_bind, bnd_ok, bnd_err, r_pure, r_c, ifb_t, ifb_f, ifk_ok, c_eif, c_if, c_or, c_and, toB_ok, c_asB, ntk_ok, c_not, ntv_ok, c_vnot, ifv_ok, c_vand, c_vor, opk_ok, r_opt, c_bin, nowk_im, nowk_ow, nowk_io, c_itemN, c_binN, c_acons, vark_im, vark_ow, c_var, c_call0, callk_ok, callk_err, r_call1, r_call2, r_call3, c_callK, pick10, pick01, pick0,
      ownk_ow, ownk_io, rok_ok, c_callO, tabk_s, c_tab, seqk_nx, seqk_ret, seqk_brk, seqk_cnt, seqk_err, c_seq, r_nx, c_ret, c_drop, somek_ok, c_asg, r_btup2, r_btup3, obk_ok, r_bcons, r_bnil, c_for, r_loop0, r_loop, lp1_ok, lp2_nx, lp2_cnt, lp2_brk, lp2_ret, mutk_ok, c_mut, setk_ok, lk_ok, c_setI, olk_ok, c_rng1, runk_ret, runk_nx, runk_err, r_run, runok_ret, r_runO,
      eqI, neI, neB, eqB, catI, subI, gtI, ltI, leI, geI, modI, ngk_ok, c_neg, intI, ixt20, ixt21, ixt30, ixt31, ixt32, rng_6, rng_9, b_eqT, b_eqF, b_ltT, b_ltF, b_leT, b_leF, r_name, r_mkT, r_mkL, c_own, LIM_eq,
      List.getElem?_cons_succ, List.getElem?_cons_zero, List.set_cons_succ, List.set_cons_zero, List.length_cons, List.length_nil, List.map_cons, List.map_nil, List.replicate_succ, List.replicate_zero, List.cons_append, List.nil_append, Nat.reduceAdd, Nat.reduceSub, Nat.reduceLT, Nat.reduceEqDiff, Nat.reduceLeDiff, if_true, ite_true, ite_false, ↓reduceIte, true_and, and_true, and_self, Bool.not_true, Bool.not_false, beq_self_eq_true, Int.reduceLT, Int.reduceBEq, Int.reduceMod, Int.reduceAdd, Int.reduceSub, Int.reduceNeg, Int.reduceLE, decide_true, decide_false, r_lc0, r_lc, lc1_ok, lc2_f, lc2_t, lc3_ok, c_comp, c_scomp, wipe0, wipe1, c_key, kyk_l, kyj_ok, kyi_ok, r_keys0, r_keys, kok_ok, r_cap0, r_cap, cpk_ok, arg0, arg1, arg2, ltK_eq, gtK_eq, kAt0, kAt1, kAt2, c_lam, lmk_ok, lmj_ok, r_thunk, thk_ok, thk_err, chk_t, chk_f, c_chain, c_raise1, err1_ok, MOd, put_0i, put_0o, put_s, itk_l, itk_t, c_items, r_app, r_isL, c_fld, c_prop, prk_ok, okD_ok, c_meth, c_methK, c_makeN, c_statK, c_tupk, tupl_l, c_zipP, zpk_ok, c_enumP, enk_ok, c_comp2, zip6, enum6, Bool.false_eq_true, r6, s0, s1, h2]
  · rw [h1]
    clear h1 h h'
    unfold m_u_law_ratio g_u_law_ratio
    simp (implicitDefEqProofs := false) (maxSteps := 100000000) (disch := omega) only [c_bind, bnd_ok, bnd_err, r_pure, r_c, ifb_t, ifb_f, ifk_ok, c_eif, c_if, c_or, c_and, toB_ok, c_asB, ntk_ok, c_not, ntv_ok, c_vnot, ifv_ok, c_vand, c_vor, opk_ok, r_opt, c_bin, nowk_im, nowk_ow, nowk_io, c_itemN, c_binN, c_acons, vark_im, vark_ow, c_var, c_call0, callk_ok, callk_err, r_call1, r_call2, r_call3, c_callK, pick10, pick01, pick0,
      ownk_ow, ownk_io, rok_ok, c_callO, tabk_s, c_tab, seqk_nx, seqk_ret, seqk_brk, seqk_cnt, seqk_err, c_seq, r_nx, c_ret, c_drop, somek_ok, c_asg, r_btup2, r_btup3, obk_ok, r_bcons, r_bnil, c_for, r_loop0, r_loop, lp1_ok, lp2_nx, lp2_cnt, lp2_brk, lp2_ret, mutk_ok, c_mut, setk_ok, lk_ok, c_setI, olk_ok, c_rng1, runk_ret, runk_nx, runk_err, r_run, runok_ret, r_runO,
      eqI, neI, neB, eqB, catI, subI, gtI, ltI, leI, geI, modI, ngk_ok, c_neg, intI, ixt20, ixt21, ixt30, ixt31, ixt32, rng_6, rng_9, b_eqT, b_eqF, b_ltT, b_ltF, b_leT, b_leF, r_name, r_mkT, r_mkL, c_own, LIM_eq,
      List.getElem?_cons_succ, List.getElem?_cons_zero, List.set_cons_succ, List.set_cons_zero, List.length_cons, List.length_nil, List.map_cons, List.map_nil, List.replicate_succ, List.replicate_zero, List.cons_append, List.nil_append, Nat.reduceAdd, Nat.reduceSub, Nat.reduceLT, Nat.reduceEqDiff, Nat.reduceLeDiff, if_true, ite_true, ite_false, ↓reduceIte, true_and, and_true, and_self, Bool.not_true, Bool.not_false, beq_self_eq_true, Int.reduceLT, Int.reduceBEq, Int.reduceMod, Int.reduceAdd, Int.reduceSub, Int.reduceNeg, Int.reduceLE, decide_true, decide_false, r_lc0, r_lc, lc1_ok, lc2_f, lc2_t, lc3_ok, c_comp, c_scomp, wipe0, wipe1, c_key, kyk_l, kyj_ok, kyi_ok, r_keys0, r_keys, kok_ok, r_cap0, r_cap, cpk_ok, arg0, arg1, arg2, ltK_eq, gtK_eq, kAt0, kAt1, kAt2, c_lam, lmk_ok, lmj_ok, r_thunk, thk_ok, thk_err, chk_t, chk_f, c_chain, c_raise1, err1_ok, MOd, put_0i, put_0o, put_s, itk_l, itk_t, c_items, r_app, r_isL, c_fld, c_prop, prk_ok, okD_ok, c_meth, c_methK, c_makeN, c_statK, c_tupk, tupl_l, c_zipP, zpk_ok, c_enumP, enk_ok, c_comp2, zip6, enum6, Bool.false_eq_true, r6, s0, s1, h2]
end
end T
set_option Elab.async false
set_option linter.all false
set_option maxRecDepth 100000
set_option maxHeartbeats 8000000
namespace T
open PySem PySem.Spec PyProof.Rows L2 LamX PL
variable [Tbls]
section
variable {p0 p1 p2 p3 p4 p5 q0 q1 q2 q3 q4 q5 : Int} {a b c d e f A B C D' E F : Int}
theorem ix6t {k : Int} (h : k ∈ six) : dIx (.tup (I6 p0 p1 p2 p3 p4 p5)) (.int k) = some (.int (g6 p0 p1 p2 p3 p4 p5 k)) := by
  simp only [List.mem_cons, List.not_mem_nil, or_false] at h
  rcases h with rfl | rfl | rfl | rfl | rfl | rfl <;> kernel_rfl
abbrev geR : M D := eBin dEq (eBin dMulX (eItemN 2 (eVar 4)) (eItemN 3 (eVar 5))) (eBin dMulX (eItemN 2 (eVar 5)) (eItemN 3 (eVar 4)))
def uu (p0 p1 p2 p3 p4 p5 q0 q1 q2 q3 q4 q5 k j : Int) : Bool := g6 p0 p1 p2 p3 p4 p5 k * g6 q0 q1 q2 q3 q4 q5 j == g6 p0 p1 p2 p3 p4 p5 j * g6 q0 q1 q2 q3 q4 q5 k
def uD (p0 p1 p2 p3 p4 p5 q0 q1 q2 q3 q4 q5 k : Int) (x : D) : D := match x with
  | .int j => .bl (uu p0 p1 p2 p3 p4 p5 q0 q1 q2 q3 q4 q5 k j)
  | _ => .non
theorem inC_ok (hw : WW p0 p1 p2 p3 p4 p5 q0 q1 q2 q3 q4 q5) {k : Int} (hk : k ∈ six) (R Q : D) (js : List Int) (hj : ∀ j ∈ js, j ∈ six) (acc : List D) (hl : acc.length + js.length ≤ 1000) :
    loopC (bName 5) (M.pure true) geR [5] (js.map D.int) acc [.im R, .im Q, .im (.tup (I6 p0 p1 p2 p3 p4 p5)), .im (.tup (I6 q0 q1 q2 q3 q4 q5)), .im (.int k), .no] = .ok (acc ++ js.map fun j => .bl (uu p0 p1 p2 p3 p4 p5 q0 q1 q2 q3 q4 q5 k j)) [.im R, .im Q, .im (.tup (I6 p0 p1 p2 p3 p4 p5)), .im (.tup (I6 q0 q1 q2 q3 q4 q5)), .im (.int k), .no] := by
  have e := loopC_all (bd := bName 5) (gt := M.pure true) (ge := geR) (vl := [5]) (δ := [.im R, .im Q, .im (.tup (I6 p0 p1 p2 p3 p4 p5)), .im (.tup (I6 q0 q1 q2 q3 q4 q5)), .im (.int k), .no]) (t := fun _ => true) (f := uD p0 p1 p2 p3 p4 p5 q0 q1 q2 q3 q4 q5 k) (ds := js.map D.int) (acc := acc) (fun x hx => ?_) (by rw [LIM_eq, List.length_map]; omega)
  · rw [e, List.filter_eq_self.mpr (fun _ _ => rfl), List.map_map]
    rfl
  · obtain ⟨j, hj', rfl⟩ := List.mem_map.mp hx
    have hj := hj j hj'
    have a1 := ix6t (p0 := p0) (p1 := p1) (p2 := p2) (p3 := p3) (p4 := p4) (p5 := p5) hk
    have a2 := ix6t (p0 := p0) (p1 := p1) (p2 := p2) (p3 := p3) (p4 := p4) (p5 := p5) hj
    have a3 := ix6t (p0 := q0) (p1 := q1) (p2 := q2) (p3 := q3) (p4 := q4) (p5 := q5) hk
    have a4 := ix6t (p0 := q0) (p1 := q1) (p2 := q2) (p3 := q3) (p4 := q4) (p5 := q5) hj
    have w1 := mulX_ok (hw k j)
    have w2 := mulX_ok (hw j k)
    have td : uD p0 p1 p2 p3 p4 p5 q0 q1 q2 q3 q4 q5 k (.int j) = .bl (g6 p0 p1 p2 p3 p4 p5 k * g6 q0 q1 q2 q3 q4 q5 j == g6 p0 p1 p2 p3 p4 p5 j * g6 q0 q1 q2 q3 q4 q5 k) := rfl
    rw [td]
    generalize g6 p0 p1 p2 p3 p4 p5 k * g6 q0 q1 q2 q3 q4 q5 j = u at *
    generalize g6 p0 p1 p2 p3 p4 p5 j * g6 q0 q1 q2 q3 q4 q5 k = v at *
    have ne : dEq (.int u) (.int v) = some (.bl (u == v)) := by kernel_rfl
    refine ⟨[.im R, .im Q, .im (.tup (I6 p0 p1 p2 p3 p4 p5)), .im (.tup (I6 q0 q1 q2 q3 q4 q5)), .im (.int k), .im (.int j)], _, rfl, rfl, rfl, fun _ => ⟨[.im R, .im Q, .im (.tup (I6 p0 p1 p2 p3 p4 p5)), .im (.tup (I6 q0 q1 q2 q3 q4 q5)), .im (.int k), .im (.int j)], ?_, rfl⟩⟩
    clear td hx hj hj' hk hw hl
    simp (implicitDefEqProofs := false) (maxSteps := 100000000) (disch := omega) only [c_bind, bnd_ok, bnd_err, r_pure, r_c, ifb_t, ifb_f, ifk_ok, c_eif, c_if, c_or, c_and, toB_ok, c_asB, ntk_ok, c_not, ntv_ok, c_vnot, ifv_ok, c_vand, c_vor, opk_ok, r_opt, c_bin, nowk_im, nowk_ow, nowk_io, c_itemN, c_binN, c_acons, vark_im, vark_ow, c_var, c_call0, callk_ok, callk_err, r_call1, r_call2, r_call3, c_callK, pick10, pick01, pick0,
      ownk_ow, ownk_io, rok_ok, c_callO, tabk_s, c_tab, seqk_nx, seqk_ret, seqk_brk, seqk_cnt, seqk_err, c_seq, r_nx, c_ret, c_drop, somek_ok, c_asg, r_btup2, r_btup3, obk_ok, r_bcons, r_bnil, c_for, r_loop0, r_loop, lp1_ok, lp2_nx, lp2_cnt, lp2_brk, lp2_ret, mutk_ok, c_mut, setk_ok, lk_ok, c_setI, olk_ok, c_rng1, runk_ret, runk_nx, runk_err, r_run, runok_ret, r_runO,
      eqI, neI, neB, eqB, catI, subI, gtI, ltI, leI, geI, modI, ngk_ok, c_neg, intI, ixt20, ixt21, ixt30, ixt31, ixt32, rng_6, rng_9, b_eqT, b_eqF, b_ltT, b_ltF, b_leT, b_leF, r_name, r_mkT, r_mkL, c_own, LIM_eq,
      List.getElem?_cons_succ, List.getElem?_cons_zero, List.set_cons_succ, List.set_cons_zero, List.length_cons, List.length_nil, List.map_cons, List.map_nil, List.replicate_succ, List.replicate_zero, List.cons_append, List.nil_append, Nat.reduceAdd, Nat.reduceSub, Nat.reduceLT, Nat.reduceEqDiff, Nat.reduceLeDiff, if_true, ite_true, ite_false, ↓reduceIte, true_and, and_true, and_self, Bool.not_true, Bool.not_false, beq_self_eq_true, Int.reduceLT, Int.reduceBEq, Int.reduceMod, Int.reduceAdd, Int.reduceSub, Int.reduceNeg, Int.reduceLE, decide_true, decide_false, r_lc0, r_lc, lc1_ok, lc2_f, lc2_t, lc3_ok, c_comp, c_scomp, wipe0, wipe1, c_key, kyk_l, kyj_ok, kyi_ok, r_keys0, r_keys, kok_ok, r_cap0, r_cap, cpk_ok, arg0, arg1, arg2, ltK_eq, gtK_eq, kAt0, kAt1, kAt2, c_lam, lmk_ok, lmj_ok, r_thunk, thk_ok, thk_err, chk_t, chk_f, c_chain, c_raise1, err1_ok, MOd, put_0i, put_0o, put_s, itk_l, itk_t, c_items, r_app, r_isL, c_fld, c_prop, prk_ok, okD_ok, c_meth, c_methK, c_makeN, c_statK, c_tupk, tupl_l, c_zipP, zpk_ok, c_enumP, enk_ok, c_comp2, zip6, enum6, Bool.false_eq_true, a1, a2, a3, a4, w1, w2, ne]
theorem spare_ok (h0 : m_check_drawn [PN a b c d e f] = .ok .non) (h1 : m_check_drawn [PN A B C D' E F] = .ok .non) (h : Bd BIG a b c d e f) (h' : Bd BIG A B C D' E F)
    (w1 : wideOk (mx a b c d e f A B C D' E F) (mx a b c d e f A B C D' E F) = true) (w2 : wideOk (mx a b c d e f a b c d e f) (mx A B C D' E F A B C D' E F) = true) : m_spare [PN a b c d e f, PN A B C D' E F] = .ok (.int (spr a b c d e f A B C D' E F)) := by
  have m0 := mixed_ok h h'
  have a0 := area_ok h
  have a1 := area_ok h'
  have x1 := mulX_ok w1
  have x2 := mulX_ok w2
  unfold spr
  generalize mx a b c d e f A B C D' E F = M at *
  generalize mx a b c d e f a b c d e f = M1 at *
  generalize mx A B C D' E F A B C D' E F = M2 at *
  unfold m_spare g_spare
  simp (implicitDefEqProofs := false) (maxSteps := 100000000) (disch := omega) only [c_bind, bnd_ok, bnd_err, r_pure, r_c, ifb_t, ifb_f, ifk_ok, c_eif, c_if, c_or, c_and, toB_ok, c_asB, ntk_ok, c_not, ntv_ok, c_vnot, ifv_ok, c_vand, c_vor, opk_ok, r_opt, c_bin, nowk_im, nowk_ow, nowk_io, c_itemN, c_binN, c_acons, vark_im, vark_ow, c_var, c_call0, callk_ok, callk_err, r_call1, r_call2, r_call3, c_callK, pick10, pick01, pick0,
      ownk_ow, ownk_io, rok_ok, c_callO, tabk_s, c_tab, seqk_nx, seqk_ret, seqk_brk, seqk_cnt, seqk_err, c_seq, r_nx, c_ret, c_drop, somek_ok, c_asg, r_btup2, r_btup3, obk_ok, r_bcons, r_bnil, c_for, r_loop0, r_loop, lp1_ok, lp2_nx, lp2_cnt, lp2_brk, lp2_ret, mutk_ok, c_mut, setk_ok, lk_ok, c_setI, olk_ok, c_rng1, runk_ret, runk_nx, runk_err, r_run, runok_ret, r_runO,
      eqI, neI, neB, eqB, catI, subI, gtI, ltI, leI, geI, modI, ngk_ok, c_neg, intI, ixt20, ixt21, ixt30, ixt31, ixt32, rng_6, rng_9, b_eqT, b_eqF, b_ltT, b_ltF, b_leT, b_leF, r_name, r_mkT, r_mkL, c_own, LIM_eq,
      List.getElem?_cons_succ, List.getElem?_cons_zero, List.set_cons_succ, List.set_cons_zero, List.length_cons, List.length_nil, List.map_cons, List.map_nil, List.replicate_succ, List.replicate_zero, List.cons_append, List.nil_append, Nat.reduceAdd, Nat.reduceSub, Nat.reduceLT, Nat.reduceEqDiff, Nat.reduceLeDiff, if_true, ite_true, ite_false, ↓reduceIte, true_and, and_true, and_self, Bool.not_true, Bool.not_false, beq_self_eq_true, Int.reduceLT, Int.reduceBEq, Int.reduceMod, Int.reduceAdd, Int.reduceSub, Int.reduceNeg, Int.reduceLE, decide_true, decide_false, r_lc0, r_lc, lc1_ok, lc2_f, lc2_t, lc3_ok, c_comp, c_scomp, wipe0, wipe1, c_key, kyk_l, kyj_ok, kyi_ok, r_keys0, r_keys, kok_ok, r_cap0, r_cap, cpk_ok, arg0, arg1, arg2, ltK_eq, gtK_eq, kAt0, kAt1, kAt2, c_lam, lmk_ok, lmj_ok, r_thunk, thk_ok, thk_err, chk_t, chk_f, c_chain, c_raise1, err1_ok, MOd, put_0i, put_0o, put_s, itk_l, itk_t, c_items, r_app, r_isL, c_fld, c_prop, prk_ok, okD_ok, c_meth, c_methK, c_makeN, c_statK, c_tupk, tupl_l, c_zipP, zpk_ok, c_enumP, enk_ok, c_comp2, zip6, enum6, Bool.false_eq_true, h0, h1, m0, a0, a1, x1, x2]
end
end T
set_option Elab.async false
set_option linter.all false
set_option maxRecDepth 100000
set_option maxHeartbeats 8000000
namespace T
open PySem PySem.Spec PyProof.Rows L2 LamX PL
variable [Tbls]
section
variable {p0 p1 p2 p3 p4 p5 q0 q1 q2 q3 q4 q5 : Int} {a b c d e f A B C D' E F : Int}
def rg (k : Int) : List Int := six.filter fun j => decide (j < k)
theorem rg_ok {k : Int} (hk : k ∈ six) : rng1 [.int k] = some ((rg k).map D.int) := by
  simp only [List.mem_cons, List.not_mem_nil, or_false] at hk
  rcases hk with rfl | rfl | rfl | rfl | rfl | rfl <;> kernel_rfl
theorem rg_mem {k j : Int} (h : j ∈ rg k) : j ∈ six := (List.mem_filter.mp h).1
theorem rg_len (k : Int) : (rg k).length ≤ 6 := List.length_filter_le _ _
abbrev giR : M (List D) := iRange1 (aCons (eVar 4) (M.pure []))
theorem outC_ok (hw : WW p0 p1 p2 p3 p4 p5 q0 q1 q2 q3 q4 q5) (R Q : D) : ∀ (ks : List Int) (hk : ∀ k ∈ ks, k ∈ six) (acc : List D) (hl : acc.length + 6 * ks.length ≤ 1000),
    loopC2 (bName 4) (M.pure true) giR (bName 5) (M.pure true) geR [4, 5] [5] (ks.map D.int) acc [.im R, .im Q, .im (.tup (I6 p0 p1 p2 p3 p4 p5)), .im (.tup (I6 q0 q1 q2 q3 q4 q5)), .no, .no] = .ok (acc ++ ks.flatMap fun k => (rg k).map fun j => .bl (uu p0 p1 p2 p3 p4 p5 q0 q1 q2 q3 q4 q5 k j)) [.im R, .im Q, .im (.tup (I6 p0 p1 p2 p3 p4 p5)), .im (.tup (I6 q0 q1 q2 q3 q4 q5)), .no, .no]
  | [], hk, acc, hl => by rw [List.map_nil, loopC2, List.flatMap_nil, List.append_nil]
  | k :: ks, hk, acc, hl => by
    have h1 := inC_ok hw (hk k List.mem_cons_self) R Q (rg k) (fun j hj => rg_mem hj) acc (by have := rg_len k; rw [List.length_cons] at hl; omega)
    have r1 := rg_ok (hk k List.mem_cons_self)
    have ih := outC_ok hw R Q ks (fun x hx => hk x (List.mem_cons_of_mem _ hx)) (acc ++ (rg k).map fun j => .bl (uu p0 p1 p2 p3 p4 p5 q0 q1 q2 q3 q4 q5 k j)) (by have := rg_len k; rw [List.length_cons] at hl; rw [List.length_append, List.length_map]; omega)
    have g1 : giR [.im R, .im Q, .im (.tup (I6 p0 p1 p2 p3 p4 p5)), .im (.tup (I6 q0 q1 q2 q3 q4 q5)), .im (.int k), .no] = .ok ((rg k).map D.int) [.im R, .im Q, .im (.tup (I6 p0 p1 p2 p3 p4 p5)), .im (.tup (I6 q0 q1 q2 q3 q4 q5)), .im (.int k), .no] := by
      clear h1 ih hk hw hl
      simp (implicitDefEqProofs := false) (maxSteps := 100000000) (disch := omega) only [c_bind, bnd_ok, bnd_err, r_pure, r_c, ifb_t, ifb_f, ifk_ok, c_eif, c_if, c_or, c_and, toB_ok, c_asB, ntk_ok, c_not, ntv_ok, c_vnot, ifv_ok, c_vand, c_vor, opk_ok, r_opt, c_bin, nowk_im, nowk_ow, nowk_io, c_itemN, c_binN, c_acons, vark_im, vark_ow, c_var, c_call0, callk_ok, callk_err, r_call1, r_call2, r_call3, c_callK, pick10, pick01, pick0,
      ownk_ow, ownk_io, rok_ok, c_callO, tabk_s, c_tab, seqk_nx, seqk_ret, seqk_brk, seqk_cnt, seqk_err, c_seq, r_nx, c_ret, c_drop, somek_ok, c_asg, r_btup2, r_btup3, obk_ok, r_bcons, r_bnil, c_for, r_loop0, r_loop, lp1_ok, lp2_nx, lp2_cnt, lp2_brk, lp2_ret, mutk_ok, c_mut, setk_ok, lk_ok, c_setI, olk_ok, c_rng1, runk_ret, runk_nx, runk_err, r_run, runok_ret, r_runO,
      eqI, neI, neB, eqB, catI, subI, gtI, ltI, leI, geI, modI, ngk_ok, c_neg, intI, ixt20, ixt21, ixt30, ixt31, ixt32, rng_6, rng_9, b_eqT, b_eqF, b_ltT, b_ltF, b_leT, b_leF, r_name, r_mkT, r_mkL, c_own, LIM_eq,
      List.getElem?_cons_succ, List.getElem?_cons_zero, List.set_cons_succ, List.set_cons_zero, List.length_cons, List.length_nil, List.map_cons, List.map_nil, List.replicate_succ, List.replicate_zero, List.cons_append, List.nil_append, Nat.reduceAdd, Nat.reduceSub, Nat.reduceLT, Nat.reduceEqDiff, Nat.reduceLeDiff, if_true, ite_true, ite_false, ↓reduceIte, true_and, and_true, and_self, Bool.not_true, Bool.not_false, beq_self_eq_true, Int.reduceLT, Int.reduceBEq, Int.reduceMod, Int.reduceAdd, Int.reduceSub, Int.reduceNeg, Int.reduceLE, decide_true, decide_false, r_lc0, r_lc, lc1_ok, lc2_f, lc2_t, lc3_ok, c_comp, c_scomp, wipe0, wipe1, c_key, kyk_l, kyj_ok, kyi_ok, r_keys0, r_keys, kok_ok, r_cap0, r_cap, cpk_ok, arg0, arg1, arg2, ltK_eq, gtK_eq, kAt0, kAt1, kAt2, c_lam, lmk_ok, lmj_ok, r_thunk, thk_ok, thk_err, chk_t, chk_f, c_chain, c_raise1, err1_ok, MOd, put_0i, put_0o, put_s, itk_l, itk_t, c_items, r_app, r_isL, c_fld, c_prop, prk_ok, okD_ok, c_meth, c_methK, c_makeN, c_statK, c_tupk, tupl_l, c_zipP, zpk_ok, c_enumP, enk_ok, c_comp2, zip6, enum6, Bool.false_eq_true, r1]
    rw [List.map_cons, loopC2]
    have b1 : bName 4 (.int k) [.im R, .im Q, .im (.tup (I6 p0 p1 p2 p3 p4 p5)), .im (.tup (I6 q0 q1 q2 q3 q4 q5)), .no, .no] = some [.im R, .im Q, .im (.tup (I6 p0 p1 p2 p3 p4 p5)), .im (.tup (I6 q0 q1 q2 q3 q4 q5)), .im (.int k), .no] := rfl
    rw [b1]
    dsimp only [M.pure]
    rw [g1]
    dsimp only
    have w1 : wipeD [.im R, .im Q, .im (.tup (I6 p0 p1 p2 p3 p4 p5)), .im (.tup (I6 q0 q1 q2 q3 q4 q5)), .im (.int k), .no] [5] = [.im R, .im Q, .im (.tup (I6 p0 p1 p2 p3 p4 p5)), .im (.tup (I6 q0 q1 q2 q3 q4 q5)), .im (.int k), .no] := rfl
    have w2 : wipeD [.im R, .im Q, .im (.tup (I6 p0 p1 p2 p3 p4 p5)), .im (.tup (I6 q0 q1 q2 q3 q4 q5)), .im (.int k), .no] [4, 5] = [.im R, .im Q, .im (.tup (I6 p0 p1 p2 p3 p4 p5)), .im (.tup (I6 q0 q1 q2 q3 q4 q5)), .no, .no] := rfl
    rw [w1]
    rw [h1]
    dsimp only
    rw [w2, ih, List.flatMap_cons, List.append_assoc]
theorem same_ratio_ok (h0 : m_check_drawn [PN a b c d e f] = .ok .non) (h1 : m_check_drawn [PN A B C D' E F] = .ok .non) (h : Bd BIG a b c d e f) (h' : Bd BIG A B C D' E F) :
    m_same_ratio [PN a b c d e f, PN A B C D' E F] = .ok (.bl (rB a b c d e f A B C D' E F)) := by
  have o := outC_ok (ww_of h h') (PN a b c d e f) (PN A B C D' E F) six (fun _ h => h) [] (by simp)
  have r6 : rng1 [.int 6] = some (six.map D.int) := by kernel_rfl
  have al : fAll [.lst ([] ++ six.flatMap fun k => (rg k).map fun j => .bl (uu (f + b - a) (a + c - b) (b + d - c) (c + e - d) (d + f - e) (e + a - f) (F + B - A) (A + C - B) (B + D' - C) (C + E - D') (D' + F - E) (E + A - F) k j))] = some (.bl (rB a b c d e f A B C D' E F)) := by kernel_rfl
  have s0 := psides_ok a b c d e f
  have s1 := psides_ok A B C D' E F
  have m0 := fun δ => mtk_ok (m := "sides") (n := 1) (g := m_Pen_sides) (gs := M.pure []) (δ := δ) (met_sides a b c d e f)
  have m1 := fun δ => mtk_ok (m := "sides") (n := 1) (g := m_Pen_sides) (gs := M.pure []) (δ := δ) (met_sides A B C D' E F)
  generalize ([] ++ six.flatMap fun k => (rg k).map fun j => D.bl (uu (f + b - a) (a + c - b) (b + d - c) (c + e - d) (d + f - e) (e + a - f) (F + B - A) (A + C - B) (B + D' - C) (C + E - D') (D' + F - E) (E + A - F) k j)) = rs at *
  generalize (six.map D.int) = sx at *
  have w3 : wipeD [.im (PN a b c d e f), .im (PN A B C D' E F), .im (.tup (S6 a b c d e f)), .im (.tup (S6 A B C D' E F)), .no, .no] [4, 5] = [.im (PN a b c d e f), .im (PN A B C D' E F), .im (.tup (S6 a b c d e f)), .im (.tup (S6 A B C D' E F)), .no, .no] := rfl
  clear h h'
  unfold m_same_ratio g_same_ratio
  simp (implicitDefEqProofs := false) (maxSteps := 100000000) (disch := omega) only [c_bind, bnd_ok, bnd_err, r_pure, r_c, ifb_t, ifb_f, ifk_ok, c_eif, c_if, c_or, c_and, toB_ok, c_asB, ntk_ok, c_not, ntv_ok, c_vnot, ifv_ok, c_vand, c_vor, opk_ok, r_opt, c_bin, nowk_im, nowk_ow, nowk_io, c_itemN, c_binN, c_acons, vark_im, vark_ow, c_var, c_call0, callk_ok, callk_err, r_call1, r_call2, r_call3, c_callK, pick10, pick01, pick0,
      ownk_ow, ownk_io, rok_ok, c_callO, tabk_s, c_tab, seqk_nx, seqk_ret, seqk_brk, seqk_cnt, seqk_err, c_seq, r_nx, c_ret, c_drop, somek_ok, c_asg, r_btup2, r_btup3, obk_ok, r_bcons, r_bnil, c_for, r_loop0, r_loop, lp1_ok, lp2_nx, lp2_cnt, lp2_brk, lp2_ret, mutk_ok, c_mut, setk_ok, lk_ok, c_setI, olk_ok, c_rng1, runk_ret, runk_nx, runk_err, r_run, runok_ret, r_runO,
      eqI, neI, neB, eqB, catI, subI, gtI, ltI, leI, geI, modI, ngk_ok, c_neg, intI, ixt20, ixt21, ixt30, ixt31, ixt32, rng_6, rng_9, b_eqT, b_eqF, b_ltT, b_ltF, b_leT, b_leF, r_name, r_mkT, r_mkL, c_own, LIM_eq,
      List.getElem?_cons_succ, List.getElem?_cons_zero, List.set_cons_succ, List.set_cons_zero, List.length_cons, List.length_nil, List.map_cons, List.map_nil, List.replicate_succ, List.replicate_zero, List.cons_append, List.nil_append, Nat.reduceAdd, Nat.reduceSub, Nat.reduceLT, Nat.reduceEqDiff, Nat.reduceLeDiff, if_true, ite_true, ite_false, ↓reduceIte, true_and, and_true, and_self, Bool.not_true, Bool.not_false, beq_self_eq_true, Int.reduceLT, Int.reduceBEq, Int.reduceMod, Int.reduceAdd, Int.reduceSub, Int.reduceNeg, Int.reduceLE, decide_true, decide_false, r_lc0, r_lc, lc1_ok, lc2_f, lc2_t, lc3_ok, c_comp, c_scomp, wipe0, wipe1, c_key, kyk_l, kyj_ok, kyi_ok, r_keys0, r_keys, kok_ok, r_cap0, r_cap, cpk_ok, arg0, arg1, arg2, ltK_eq, gtK_eq, kAt0, kAt1, kAt2, c_lam, lmk_ok, lmj_ok, r_thunk, thk_ok, thk_err, chk_t, chk_f, c_chain, c_raise1, err1_ok, MOd, put_0i, put_0o, put_s, itk_l, itk_t, c_items, r_app, r_isL, c_fld, c_prop, prk_ok, okD_ok, c_meth, c_methK, c_makeN, c_statK, c_tupk, tupl_l, c_zipP, zpk_ok, c_enumP, enk_ok, c_comp2, zip6, enum6, Bool.false_eq_true, h0, h1, s0, s1, m0, m1, r6, w3, o, al]
end
end T
set_option Elab.async false
set_option linter.all false
set_option maxRecDepth 100000
set_option maxHeartbeats 8000000
namespace T
open PySem PySem.Spec PyProof.Rows L2 LamX PL
variable [Tbls]
theorem mul_bd {i j : Int} {m n : Nat} (h : i.natAbs ≤ m) (h' : j.natAbs ≤ n) : (i * j).natAbs ≤ m * n := by
  rw [Int.natAbs_mul]
  exact Nat.mul_le_mul h h'
theorem three' {x y z : Int} {N : Nat} (hx : x.natAbs ≤ N) (hy : y.natAbs ≤ N) (hz : z.natAbs ≤ N) : (x + y - z).natAbs ≤ 3 * N := by omega
section
variable {a b c d e f A B C D' E F : Int}
theorem mx_bd (h : Bd BIG a b c d e f) (h' : Bd BIG A B C D' E F) : (mx a b c d e f A B C D' E F).natAbs ≤ 10 ^ 190 := by
  have p : 6 * (3 * BIG * BIG) ≤ 10 ^ 190 := by decide +kernel
  obtain ⟨⟨h0, h1, h2⟩, h3, h4, h5⟩ := h
  obtain ⟨⟨k0, k1, k2⟩, k3, k4, k5⟩ := h'
  have x0 := mul_bd (three' h5 h1 h0) k0
  have x1 := mul_bd (three' h0 h2 h1) k1
  have x2 := mul_bd (three' h1 h3 h2) k2
  have x3 := mul_bd (three' h2 h4 h3) k3
  have x4 := mul_bd (three' h3 h5 h4) k4
  have x5 := mul_bd (three' h4 h0 h5) k5
  unfold mx
  simp only [List.sum_cons, List.sum_nil]
  generalize 3 * BIG * BIG = N at *
  refine Nat.le_trans ?_ p
  omega
theorem rim_bd (h : Bd BIG a b c d e f) : (rim a b c d e f).natAbs ≤ 10 ^ 190 := by
  have p : BIG * 18 ≤ 10 ^ 190 := by decide +kernel
  obtain ⟨⟨h0, h1, h2⟩, h3, h4, h5⟩ := h
  unfold rim
  simp only [List.sum_cons, List.sum_nil]
  generalize BIG = N at *
  refine Nat.le_trans ?_ p
  omega
theorem pl_bls (x y : Bool) : pl 5 (.lst [.bl x, .bl y]) = true := by cases x <;> cases y <;> decide
theorem min_max {s0 s1 s2 s3 s4 s5 : Int} : (min (min (min (min (min s0 s1) s2) s3) s4) s5 = max (max (max (max (max s0 s1) s2) s3) s4) s5) ↔ (s0 = s1 ∧ s1 = s2) ∧ s2 = s3 ∧ s3 = s4 ∧ s4 = s5 := by
  omega
theorem drawn_ok (h : Bd BIG a b c d e f) (h' : Bd BIG A B C D' E F) (c0 : m_check_drawn [PN a b c d e f] = .ok .non) (c1 : m_check_drawn [PN A B C D' E F] = .ok .non)
    (g : (0 ≤ f + b - a ∧ 0 ≤ a + c - b ∧ 0 ≤ b + d - c) ∧ 0 ≤ c + e - d ∧ 0 ≤ d + f - e ∧ 0 ≤ e + a - f) : m_u_law_drawn_fits [R6 a b c d e f, R6 A B C D' E F] = .ok (.bl true) := by
  have q0 := fun δ => mk_pen a b c d e f δ
  have q1 := fun δ => mk_pen A B C D' E F δ
  have l1 := lmixed_ok h h
  have l2 := lmixed_ok h' h'
  have l3 := lmixed_ok h h'
  have w1 := wide_na (mx_bd h h') (mx_bd h h')
  have w2 := wide_na (mx_bd h h) (mx_bd h' h')
  have w3 := wide_na (rim_bd h) (rim_bd h)
  have w4 : wideOk 6 (mx a b c d e f a b c d e f) = true := wide_na (by decide +kernel) (mx_bd h h)
  have x1 := mulX_ok w1
  have x2 := mulX_ok w2
  have x3 := mulX_ok w3
  have x4 := mulX_ok w4
  have sp := spare_ok c0 c1 h h' w1 w2
  have ra := ratio_ok h h'
  have sr := same_ratio_ok c0 c1 h h'
  have sn := spr_nn (A := A) (B := B) (C := C) (D' := D') (E := E) (F := F) g
  have rm := rim_ok a b c d e f
  have ar := area_ok h
  have rn := rim_nn g
  have rq := rim_eq g
  have sd := sides_ok a b c d e f
  have sz := fun ha => spr_zero (A := A) (B := B) (C := C) (D' := D') (E := E) (F := F) g ha
  have mn : fMin1 [.lst (S6 a b c d e f)] = some (.int (min (min (min (min (min (f + b - a) (a + c - b)) (b + d - c)) (c + e - d)) (d + f - e)) (e + a - f))) := by kernel_rfl
  have mm : fMax1 [.lst (S6 a b c d e f)] = some (.int (max (max (max (max (max (f + b - a) (a + c - b)) (b + d - c)) (c + e - d)) (d + f - e)) (e + a - f))) := by kernel_rfl
  rw [← min_max] at rq
  generalize min (min (min (min (min (f + b - a) (a + c - b)) (b + d - c)) (c + e - d)) (d + f - e)) (e + a - f) = lo at *
  generalize max (max (max (max (max (f + b - a) (a + c - b)) (b + d - c)) (c + e - d)) (d + f - e)) (e + a - f) = hi at *
  unfold spr at *
  generalize mx a b c d e f A B C D' E F = M at *
  generalize mx a b c d e f a b c d e f = M1 at *
  generalize mx A B C D' E F A B C D' E F = M2 at *
  generalize rim a b c d e f = RM at *
  generalize M * M = MM at *
  generalize M1 * M2 = M12 at *
  generalize RM * RM = RR2 at *
  generalize rB a b c d e f A B C D' E F = R at *
  have eq : (RR2 == 6 * M1) = (lo == hi) := by rw [Bool.eq_iff_iff, beq_iff_eq, beq_iff_eq]; exact rq
  generalize hb : (lo == hi) = β at *
  have i0 : dIx (.lst [.int M1, .int M2]) (.int 0) = some (.int M1) := by kernel_rfl
  have i1 : dIx (.lst [.int M1, .int M2]) (.int 1) = some (.int M2) := by kernel_rfl
  have s1 : m_u_law_same 5 [.int (MM - M12), .int (MM - M12)] = .ok (.bl true) := same_int rfl
  have s2 : m_u_law_same 5 [.lst [.bl R, .bl R], .lst [.bl R, .bl R]] = .ok (.bl true) := same_refl (pl_bls R R)
  have s3 : m_u_law_same 5 [.int M1, .int M1] = .ok (.bl true) := same_int rfl
  have bb : (β == β) = true := by simp
  by_cases h1 : 0 < M1
  · by_cases h2 : 0 < M2
    · have z := sz h1
      have rr : (R == (MM - M12 == 0)) = true := by rw [z]; simp
      clear h h' c0 c1 w1 w2 w3 w4 sz rq z
      unfold m_u_law_drawn_fits g_u_law_drawn_fits
      simp (implicitDefEqProofs := false) (maxSteps := 100000000) (disch := omega) only [c_bind, bnd_ok, bnd_err, r_pure, r_c, ifb_t, ifb_f, ifk_ok, c_eif, c_if, c_or, c_and, toB_ok, c_asB, ntk_ok, c_not, ntv_ok, c_vnot, ifv_ok, c_vand, c_vor, opk_ok, r_opt, c_bin, nowk_im, nowk_ow, nowk_io, c_itemN, c_binN, c_acons, vark_im, vark_ow, c_var, c_call0, callk_ok, callk_err, r_call1, r_call2, r_call3, c_callK, pick10, pick01, pick0,
      ownk_ow, ownk_io, rok_ok, c_callO, tabk_s, c_tab, seqk_nx, seqk_ret, seqk_brk, seqk_cnt, seqk_err, c_seq, r_nx, c_ret, c_drop, somek_ok, c_asg, r_btup2, r_btup3, obk_ok, r_bcons, r_bnil, c_for, r_loop0, r_loop, lp1_ok, lp2_nx, lp2_cnt, lp2_brk, lp2_ret, mutk_ok, c_mut, setk_ok, lk_ok, c_setI, olk_ok, c_rng1, runk_ret, runk_nx, runk_err, r_run, runok_ret, r_runO,
      eqI, neI, neB, eqB, catI, subI, gtI, ltI, leI, geI, modI, ngk_ok, c_neg, intI, ixt20, ixt21, ixt30, ixt31, ixt32, rng_6, rng_9, b_eqT, b_eqF, b_ltT, b_ltF, b_leT, b_leF, r_name, r_mkT, r_mkL, c_own, LIM_eq,
      List.getElem?_cons_succ, List.getElem?_cons_zero, List.set_cons_succ, List.set_cons_zero, List.length_cons, List.length_nil, List.map_cons, List.map_nil, List.replicate_succ, List.replicate_zero, List.cons_append, List.nil_append, Nat.reduceAdd, Nat.reduceSub, Nat.reduceLT, Nat.reduceEqDiff, Nat.reduceLeDiff, if_true, ite_true, ite_false, ↓reduceIte, true_and, and_true, and_self, Bool.not_true, Bool.not_false, beq_self_eq_true, Int.reduceLT, Int.reduceBEq, Int.reduceMod, Int.reduceAdd, Int.reduceSub, Int.reduceNeg, Int.reduceLE, decide_true, decide_false, r_lc0, r_lc, lc1_ok, lc2_f, lc2_t, lc3_ok, c_comp, c_scomp, wipe0, wipe1, c_key, kyk_l, kyj_ok, kyi_ok, r_keys0, r_keys, kok_ok, r_cap0, r_cap, cpk_ok, arg0, arg1, arg2, ltK_eq, gtK_eq, kAt0, kAt1, kAt2, c_lam, lmk_ok, lmj_ok, r_thunk, thk_ok, thk_err, chk_t, chk_f, c_chain, c_raise1, err1_ok, MOd, put_0i, put_0o, put_s, itk_l, itk_t, c_items, r_app, r_isL, c_fld, c_prop, prk_ok, okD_ok, c_meth, c_methK, c_makeN, c_statK, c_tupk, tupl_l, c_zipP, zpk_ok, c_enumP, enk_ok, c_comp2, zip6, enum6, Bool.false_eq_true, q0, q1, l1, l2, l3, x1, x2, x3, x4, sp, ra, sr, rm, ar, sd, mn, mm, eq, hb, i0, i1, s1, s2, s3, bb, rr]
    · clear h h' c0 c1 w1 w2 w3 w4 sz rq
      unfold m_u_law_drawn_fits g_u_law_drawn_fits
      simp (implicitDefEqProofs := false) (maxSteps := 100000000) (disch := omega) only [c_bind, bnd_ok, bnd_err, r_pure, r_c, ifb_t, ifb_f, ifk_ok, c_eif, c_if, c_or, c_and, toB_ok, c_asB, ntk_ok, c_not, ntv_ok, c_vnot, ifv_ok, c_vand, c_vor, opk_ok, r_opt, c_bin, nowk_im, nowk_ow, nowk_io, c_itemN, c_binN, c_acons, vark_im, vark_ow, c_var, c_call0, callk_ok, callk_err, r_call1, r_call2, r_call3, c_callK, pick10, pick01, pick0,
      ownk_ow, ownk_io, rok_ok, c_callO, tabk_s, c_tab, seqk_nx, seqk_ret, seqk_brk, seqk_cnt, seqk_err, c_seq, r_nx, c_ret, c_drop, somek_ok, c_asg, r_btup2, r_btup3, obk_ok, r_bcons, r_bnil, c_for, r_loop0, r_loop, lp1_ok, lp2_nx, lp2_cnt, lp2_brk, lp2_ret, mutk_ok, c_mut, setk_ok, lk_ok, c_setI, olk_ok, c_rng1, runk_ret, runk_nx, runk_err, r_run, runok_ret, r_runO,
      eqI, neI, neB, eqB, catI, subI, gtI, ltI, leI, geI, modI, ngk_ok, c_neg, intI, ixt20, ixt21, ixt30, ixt31, ixt32, rng_6, rng_9, b_eqT, b_eqF, b_ltT, b_ltF, b_leT, b_leF, r_name, r_mkT, r_mkL, c_own, LIM_eq,
      List.getElem?_cons_succ, List.getElem?_cons_zero, List.set_cons_succ, List.set_cons_zero, List.length_cons, List.length_nil, List.map_cons, List.map_nil, List.replicate_succ, List.replicate_zero, List.cons_append, List.nil_append, Nat.reduceAdd, Nat.reduceSub, Nat.reduceLT, Nat.reduceEqDiff, Nat.reduceLeDiff, if_true, ite_true, ite_false, ↓reduceIte, true_and, and_true, and_self, Bool.not_true, Bool.not_false, beq_self_eq_true, Int.reduceLT, Int.reduceBEq, Int.reduceMod, Int.reduceAdd, Int.reduceSub, Int.reduceNeg, Int.reduceLE, decide_true, decide_false, r_lc0, r_lc, lc1_ok, lc2_f, lc2_t, lc3_ok, c_comp, c_scomp, wipe0, wipe1, c_key, kyk_l, kyj_ok, kyi_ok, r_keys0, r_keys, kok_ok, r_cap0, r_cap, cpk_ok, arg0, arg1, arg2, ltK_eq, gtK_eq, kAt0, kAt1, kAt2, c_lam, lmk_ok, lmj_ok, r_thunk, thk_ok, thk_err, chk_t, chk_f, c_chain, c_raise1, err1_ok, MOd, put_0i, put_0o, put_s, itk_l, itk_t, c_items, r_app, r_isL, c_fld, c_prop, prk_ok, okD_ok, c_meth, c_methK, c_makeN, c_statK, c_tupk, tupl_l, c_zipP, zpk_ok, c_enumP, enk_ok, c_comp2, zip6, enum6, Bool.false_eq_true, q0, q1, l1, l2, l3, x1, x2, x3, x4, sp, ra, sr, rm, ar, sd, mn, mm, eq, hb, i0, i1, s1, s2, s3, bb]
  · clear h h' c0 c1 w1 w2 w3 w4 sz rq
    unfold m_u_law_drawn_fits g_u_law_drawn_fits
    simp (implicitDefEqProofs := false) (maxSteps := 100000000) (disch := omega) only [c_bind, bnd_ok, bnd_err, r_pure, r_c, ifb_t, ifb_f, ifk_ok, c_eif, c_if, c_or, c_and, toB_ok, c_asB, ntk_ok, c_not, ntv_ok, c_vnot, ifv_ok, c_vand, c_vor, opk_ok, r_opt, c_bin, nowk_im, nowk_ow, nowk_io, c_itemN, c_binN, c_acons, vark_im, vark_ow, c_var, c_call0, callk_ok, callk_err, r_call1, r_call2, r_call3, c_callK, pick10, pick01, pick0,
      ownk_ow, ownk_io, rok_ok, c_callO, tabk_s, c_tab, seqk_nx, seqk_ret, seqk_brk, seqk_cnt, seqk_err, c_seq, r_nx, c_ret, c_drop, somek_ok, c_asg, r_btup2, r_btup3, obk_ok, r_bcons, r_bnil, c_for, r_loop0, r_loop, lp1_ok, lp2_nx, lp2_cnt, lp2_brk, lp2_ret, mutk_ok, c_mut, setk_ok, lk_ok, c_setI, olk_ok, c_rng1, runk_ret, runk_nx, runk_err, r_run, runok_ret, r_runO,
      eqI, neI, neB, eqB, catI, subI, gtI, ltI, leI, geI, modI, ngk_ok, c_neg, intI, ixt20, ixt21, ixt30, ixt31, ixt32, rng_6, rng_9, b_eqT, b_eqF, b_ltT, b_ltF, b_leT, b_leF, r_name, r_mkT, r_mkL, c_own, LIM_eq,
      List.getElem?_cons_succ, List.getElem?_cons_zero, List.set_cons_succ, List.set_cons_zero, List.length_cons, List.length_nil, List.map_cons, List.map_nil, List.replicate_succ, List.replicate_zero, List.cons_append, List.nil_append, Nat.reduceAdd, Nat.reduceSub, Nat.reduceLT, Nat.reduceEqDiff, Nat.reduceLeDiff, if_true, ite_true, ite_false, ↓reduceIte, true_and, and_true, and_self, Bool.not_true, Bool.not_false, beq_self_eq_true, Int.reduceLT, Int.reduceBEq, Int.reduceMod, Int.reduceAdd, Int.reduceSub, Int.reduceNeg, Int.reduceLE, decide_true, decide_false, r_lc0, r_lc, lc1_ok, lc2_f, lc2_t, lc3_ok, c_comp, c_scomp, wipe0, wipe1, c_key, kyk_l, kyj_ok, kyi_ok, r_keys0, r_keys, kok_ok, r_cap0, r_cap, cpk_ok, arg0, arg1, arg2, ltK_eq, gtK_eq, kAt0, kAt1, kAt2, c_lam, lmk_ok, lmj_ok, r_thunk, thk_ok, thk_err, chk_t, chk_f, c_chain, c_raise1, err1_ok, MOd, put_0i, put_0o, put_s, itk_l, itk_t, c_items, r_app, r_isL, c_fld, c_prop, prk_ok, okD_ok, c_meth, c_methK, c_makeN, c_statK, c_tupk, tupl_l, c_zipP, zpk_ok, c_enumP, enk_ok, c_comp2, zip6, enum6, Bool.false_eq_true, q0, q1, l1, l2, l3, x1, x2, x3, x4, sp, ra, sr, rm, ar, sd, mn, mm, eq, hb, i0, i1, s1, s2, s3, bb]
theorem pair_fits_ok (h : Bd BIG a b c d e f) (h' : Bd BIG A B C D' E F) : m_u_law_pair_fits [R6 a b c d e f, R6 A B C D' E F] = .ok (.bl true) :=
  pair_ok fun c0 c1 g _ => drawn_ok h h' c0 c1 g
end
end T
set_option Elab.async false
set_option linter.all false
set_option maxRecDepth 100000
set_option maxHeartbeats 8000000
namespace T
open PySem PySem.Spec PyProof.Rows L2 LamX PL
variable [Tbls]
theorem unit_e : m_u_law_unit [.str "e"] = .ok (R6 1 0 0 0 0 1) := by kernel_rfl
theorem unit_n : m_u_law_unit [.str "n"] = .ok (R6 1 1 0 0 0 0) := by kernel_rfl
theorem unit_w : m_u_law_unit [.str "w"] = .ok (R6 0 1 1 0 0 0) := by kernel_rfl
theorem unit_u : m_u_law_unit [.str "u"] = .ok (R6 1 1 0 0 0 1) := by kernel_rfl
theorem unit_v : m_u_law_unit [.str "v"] = .ok (R6 1 1 1 0 0 0) := by kernel_rfl
noncomputable abbrev bodyC : S := (sSeq (sAsg (eBin dMod (eCall fInt (aCons (eBin dCat (eBin dCat (eCallO 0 1 m_u_law_draw (aCons (eC (.int 4)) (M.pure []))) (eVar 1)) (eVar 4)) (M.pure []))) (eC (.int 4))) (bName 5))
    (sSeq (sIf (bOr (asB (eBin dLt (eVar 3) (eC (.int 3)))) (asB (eBin dEq (eBin dSub (eVar 3) (eC (.int 3))) (eVar 4)))) (sSeq (sAsg (M.bind (aCons (eBin dIx (eC (.str "enwuv")) (eVar 4)) (M.pure [])) (callN 1 m_u_law_unit)) (bName 6))
    (sSeq (sAsg (eComp (iRange1 (aCons (eC (.int 6)) (M.pure []))) (bName 7) (M.pure true) (eBin dCat (eItemN 2 (eVar 7)) (eBin dMulX (eVar 5) (eItemN 6 (eVar 7)))) [7]) (bName 2))
    sNx)) sNx)
    sNx))
def CK (only sh : Int) (N : Nat) (δ : En) : Prop := ∃ (l : List Int) (a b c d e f : Int) (x2 x4 x5 x6 : Sl), nng l ∧ Bd N a b c d e f ∧ (x2 = .ow (.lst (I6 a b c d e f)) ∨ x2 = .im (R6 a b c d e f)) ∧ δ = [.io (pot l), .im (.int sh), x2, .im (.int only), x4, x5, x6, .no]
theorem wide_sm {m u : Int} (hm : 0 ≤ m ∧ m < 4) (hu : 0 ≤ u ∧ u ≤ 1) : wideOk m u = true :=
  wide_na (Nat.le_trans (show m.natAbs ≤ 3 by omega) (by decide +kernel)) (Nat.le_trans (show u.natAbs ≤ 3 by omega) (by decide +kernel))
theorem mu_le {m u : Int} (hm : 0 ≤ m ∧ m < 4) (hu : 0 ≤ u ∧ u ≤ 1) : 0 ≤ m * u ∧ m * u ≤ 3 := by
  have : u = 0 ∨ u = 1 := by omega
  rcases this with rfl | rfl <;> omega
theorem step_ok {only sh : Int} {N : Nat} {k : Int} {s : Str} {u0 u1 u2 u3 u4 u5 : Int} (hs : dIx (.str "enwuv") (.int k) = some (.str s)) (hu : m_u_law_unit [.str s] = .ok (R6 u0 u1 u2 u3 u4 u5))
    (g0 : 0 ≤ u0 ∧ u0 ≤ 1) (g1 : 0 ≤ u1 ∧ u1 ≤ 1) (g2 : 0 ≤ u2 ∧ u2 ≤ 1) (g3 : 0 ≤ u3 ∧ u3 ≤ 1) (g4 : 0 ≤ u4 ∧ u4 ≤ 1) (g5 : 0 ≤ u5 ∧ u5 ≤ 1) {δ : En} (h : CK only sh N δ) :
    ∃ δ1 δ2, bName 4 (.int k) δ = some δ1 ∧ bodyC δ1 = .ok .nx δ2 ∧ CK only sh (N + 3) δ2 := by
  obtain ⟨l, a, b, c, d, e, f, x2, x4, x5, x6, hl, hb, hx, rfl⟩ := h
  obtain ⟨r, l2, e1, r0, r4, n2⟩ := draw_ok l hl 4 (by decide) (by decide)
  refine ⟨[.io (pot l), .im (.int sh), x2, .im (.int only), .im (.int k), x5, x6, .no], ?_⟩
  have hm : 0 ≤ (r + sh + k) % 4 ∧ (r + sh + k) % 4 < 4 := by omega
  have r6 : rng1 [.int 6] = some [.int 0, .int 1, .int 2, .int 3, .int 4, .int 5] := by kernel_rfl
  have i0 : ∀ x0 x1 x2 x3 x4 x5 : Int, dIx (.lst (I6 x0 x1 x2 x3 x4 x5)) (.int 0) = some (.int x0) := fun _ _ _ _ _ _ => by kernel_rfl
  have i1 : ∀ x0 x1 x2 x3 x4 x5 : Int, dIx (.lst (I6 x0 x1 x2 x3 x4 x5)) (.int 1) = some (.int x1) := fun _ _ _ _ _ _ => by kernel_rfl
  have i2 : ∀ x0 x1 x2 x3 x4 x5 : Int, dIx (.lst (I6 x0 x1 x2 x3 x4 x5)) (.int 2) = some (.int x2) := fun _ _ _ _ _ _ => by kernel_rfl
  have i3 : ∀ x0 x1 x2 x3 x4 x5 : Int, dIx (.lst (I6 x0 x1 x2 x3 x4 x5)) (.int 3) = some (.int x3) := fun _ _ _ _ _ _ => by kernel_rfl
  have i4 : ∀ x0 x1 x2 x3 x4 x5 : Int, dIx (.lst (I6 x0 x1 x2 x3 x4 x5)) (.int 4) = some (.int x4) := fun _ _ _ _ _ _ => by kernel_rfl
  have i5 : ∀ x0 x1 x2 x3 x4 x5 : Int, dIx (.lst (I6 x0 x1 x2 x3 x4 x5)) (.int 5) = some (.int x5) := fun _ _ _ _ _ _ => by kernel_rfl
  by_cases hc : only < 3 ∨ only - 3 = k
  · have w0 := mulX_ok (wide_sm hm g0)
    have w1 := mulX_ok (wide_sm hm g1)
    have w2 := mulX_ok (wide_sm hm g2)
    have w3 := mulX_ok (wide_sm hm g3)
    have w4 := mulX_ok (wide_sm hm g4)
    have w5 := mulX_ok (wide_sm hm g5)
    have v0 := mu_le hm g0
    have v1 := mu_le hm g1
    have v2 := mu_le hm g2
    have v3 := mu_le hm g3
    have v4 := mu_le hm g4
    have v5 := mu_le hm g5
    generalize hM : (r + sh + k) % 4 = m at *
    refine ⟨[.io (pot l2), .im (.int sh), .im (R6 (a + m * u0) (b + m * u1) (c + m * u2) (d + m * u3) (e + m * u4) (f + m * u5)), .im (.int only), .im (.int k), .im (.int m), .im (R6 u0 u1 u2 u3 u4 u5), .no], rfl, ?_, l2, _, _, _, _, _, _, _, _, _, _, n2, ?_, .inr rfl, rfl⟩
    · by_cases ho : only < 3
      · clear hb v0 v1 v2 v3 v4 v5 hm hc
        rcases hx with rfl | rfl
        · simp (implicitDefEqProofs := false) (maxSteps := 100000000) (disch := omega) only [c_bind, bnd_ok, bnd_err, r_pure, r_c, ifb_t, ifb_f, ifk_ok, c_eif, c_if, c_or, c_and, toB_ok, c_asB, ntk_ok, c_not, ntv_ok, c_vnot, ifv_ok, c_vand, c_vor, opk_ok, r_opt, c_bin, nowk_im, nowk_ow, nowk_io, c_itemN, c_binN, c_acons, vark_im, vark_ow, c_var, c_call0, callk_ok, callk_err, r_call1, r_call2, r_call3, c_callK, pick10, pick01, pick0,
      ownk_ow, ownk_io, rok_ok, c_callO, tabk_s, c_tab, seqk_nx, seqk_ret, seqk_brk, seqk_cnt, seqk_err, c_seq, r_nx, c_ret, c_drop, somek_ok, c_asg, r_btup2, r_btup3, obk_ok, r_bcons, r_bnil, c_for, r_loop0, r_loop, lp1_ok, lp2_nx, lp2_cnt, lp2_brk, lp2_ret, mutk_ok, c_mut, setk_ok, lk_ok, c_setI, olk_ok, c_rng1, runk_ret, runk_nx, runk_err, r_run, runok_ret, r_runO,
      eqI, neI, neB, eqB, catI, subI, gtI, ltI, leI, geI, modI, ngk_ok, c_neg, intI, ixt20, ixt21, ixt30, ixt31, ixt32, rng_6, rng_9, b_eqT, b_eqF, b_ltT, b_ltF, b_leT, b_leF, r_name, r_mkT, r_mkL, c_own, LIM_eq,
      List.getElem?_cons_succ, List.getElem?_cons_zero, List.set_cons_succ, List.set_cons_zero, List.length_cons, List.length_nil, List.map_cons, List.map_nil, List.replicate_succ, List.replicate_zero, List.cons_append, List.nil_append, Nat.reduceAdd, Nat.reduceSub, Nat.reduceLT, Nat.reduceEqDiff, Nat.reduceLeDiff, if_true, ite_true, ite_false, ↓reduceIte, true_and, and_true, and_self, Bool.not_true, Bool.not_false, beq_self_eq_true, Int.reduceLT, Int.reduceBEq, Int.reduceMod, Int.reduceAdd, Int.reduceSub, Int.reduceNeg, Int.reduceLE, decide_true, decide_false, r_lc0, r_lc, lc1_ok, lc2_f, lc2_t, lc3_ok, c_comp, c_scomp, wipe0, wipe1, c_key, kyk_l, kyj_ok, kyi_ok, r_keys0, r_keys, kok_ok, r_cap0, r_cap, cpk_ok, arg0, arg1, arg2, ltK_eq, gtK_eq, kAt0, kAt1, kAt2, c_lam, lmk_ok, lmj_ok, r_thunk, thk_ok, thk_err, chk_t, chk_f, c_chain, c_raise1, err1_ok, MOd, put_0i, put_0o, put_s, itk_l, itk_t, c_items, r_app, r_isL, c_fld, c_prop, prk_ok, okD_ok, c_meth, c_methK, c_makeN, c_statK, c_tupk, tupl_l, c_zipP, zpk_ok, c_enumP, enk_ok, c_comp2, zip6, enum6, Bool.false_eq_true, hs, hu, e1, hM, r6, i0, i1, i2, i3, i4, i5, w0, w1, w2, w3, w4, w5]
        · simp (implicitDefEqProofs := false) (maxSteps := 100000000) (disch := omega) only [c_bind, bnd_ok, bnd_err, r_pure, r_c, ifb_t, ifb_f, ifk_ok, c_eif, c_if, c_or, c_and, toB_ok, c_asB, ntk_ok, c_not, ntv_ok, c_vnot, ifv_ok, c_vand, c_vor, opk_ok, r_opt, c_bin, nowk_im, nowk_ow, nowk_io, c_itemN, c_binN, c_acons, vark_im, vark_ow, c_var, c_call0, callk_ok, callk_err, r_call1, r_call2, r_call3, c_callK, pick10, pick01, pick0,
      ownk_ow, ownk_io, rok_ok, c_callO, tabk_s, c_tab, seqk_nx, seqk_ret, seqk_brk, seqk_cnt, seqk_err, c_seq, r_nx, c_ret, c_drop, somek_ok, c_asg, r_btup2, r_btup3, obk_ok, r_bcons, r_bnil, c_for, r_loop0, r_loop, lp1_ok, lp2_nx, lp2_cnt, lp2_brk, lp2_ret, mutk_ok, c_mut, setk_ok, lk_ok, c_setI, olk_ok, c_rng1, runk_ret, runk_nx, runk_err, r_run, runok_ret, r_runO,
      eqI, neI, neB, eqB, catI, subI, gtI, ltI, leI, geI, modI, ngk_ok, c_neg, intI, ixt20, ixt21, ixt30, ixt31, ixt32, rng_6, rng_9, b_eqT, b_eqF, b_ltT, b_ltF, b_leT, b_leF, r_name, r_mkT, r_mkL, c_own, LIM_eq,
      List.getElem?_cons_succ, List.getElem?_cons_zero, List.set_cons_succ, List.set_cons_zero, List.length_cons, List.length_nil, List.map_cons, List.map_nil, List.replicate_succ, List.replicate_zero, List.cons_append, List.nil_append, Nat.reduceAdd, Nat.reduceSub, Nat.reduceLT, Nat.reduceEqDiff, Nat.reduceLeDiff, if_true, ite_true, ite_false, ↓reduceIte, true_and, and_true, and_self, Bool.not_true, Bool.not_false, beq_self_eq_true, Int.reduceLT, Int.reduceBEq, Int.reduceMod, Int.reduceAdd, Int.reduceSub, Int.reduceNeg, Int.reduceLE, decide_true, decide_false, r_lc0, r_lc, lc1_ok, lc2_f, lc2_t, lc3_ok, c_comp, c_scomp, wipe0, wipe1, c_key, kyk_l, kyj_ok, kyi_ok, r_keys0, r_keys, kok_ok, r_cap0, r_cap, cpk_ok, arg0, arg1, arg2, ltK_eq, gtK_eq, kAt0, kAt1, kAt2, c_lam, lmk_ok, lmj_ok, r_thunk, thk_ok, thk_err, chk_t, chk_f, c_chain, c_raise1, err1_ok, MOd, put_0i, put_0o, put_s, itk_l, itk_t, c_items, r_app, r_isL, c_fld, c_prop, prk_ok, okD_ok, c_meth, c_methK, c_makeN, c_statK, c_tupk, tupl_l, c_zipP, zpk_ok, c_enumP, enk_ok, c_comp2, zip6, enum6, Bool.false_eq_true, hs, hu, e1, hM, r6, i0, i1, i2, i3, i4, i5, w0, w1, w2, w3, w4, w5]
      · have ho2 : only - 3 = k := hc.resolve_left ho
        clear hb v0 v1 v2 v3 v4 v5 hm hc
        have ho3 : (only - 3 == k) = true := by simp [ho2]
        rcases hx with rfl | rfl
        · simp (implicitDefEqProofs := false) (maxSteps := 100000000) (disch := omega) only [c_bind, bnd_ok, bnd_err, r_pure, r_c, ifb_t, ifb_f, ifk_ok, c_eif, c_if, c_or, c_and, toB_ok, c_asB, ntk_ok, c_not, ntv_ok, c_vnot, ifv_ok, c_vand, c_vor, opk_ok, r_opt, c_bin, nowk_im, nowk_ow, nowk_io, c_itemN, c_binN, c_acons, vark_im, vark_ow, c_var, c_call0, callk_ok, callk_err, r_call1, r_call2, r_call3, c_callK, pick10, pick01, pick0,
      ownk_ow, ownk_io, rok_ok, c_callO, tabk_s, c_tab, seqk_nx, seqk_ret, seqk_brk, seqk_cnt, seqk_err, c_seq, r_nx, c_ret, c_drop, somek_ok, c_asg, r_btup2, r_btup3, obk_ok, r_bcons, r_bnil, c_for, r_loop0, r_loop, lp1_ok, lp2_nx, lp2_cnt, lp2_brk, lp2_ret, mutk_ok, c_mut, setk_ok, lk_ok, c_setI, olk_ok, c_rng1, runk_ret, runk_nx, runk_err, r_run, runok_ret, r_runO,
      eqI, neI, neB, eqB, catI, subI, gtI, ltI, leI, geI, modI, ngk_ok, c_neg, intI, ixt20, ixt21, ixt30, ixt31, ixt32, rng_6, rng_9, b_eqT, b_eqF, b_ltT, b_ltF, b_leT, b_leF, r_name, r_mkT, r_mkL, c_own, LIM_eq,
      List.getElem?_cons_succ, List.getElem?_cons_zero, List.set_cons_succ, List.set_cons_zero, List.length_cons, List.length_nil, List.map_cons, List.map_nil, List.replicate_succ, List.replicate_zero, List.cons_append, List.nil_append, Nat.reduceAdd, Nat.reduceSub, Nat.reduceLT, Nat.reduceEqDiff, Nat.reduceLeDiff, if_true, ite_true, ite_false, ↓reduceIte, true_and, and_true, and_self, Bool.not_true, Bool.not_false, beq_self_eq_true, Int.reduceLT, Int.reduceBEq, Int.reduceMod, Int.reduceAdd, Int.reduceSub, Int.reduceNeg, Int.reduceLE, decide_true, decide_false, r_lc0, r_lc, lc1_ok, lc2_f, lc2_t, lc3_ok, c_comp, c_scomp, wipe0, wipe1, c_key, kyk_l, kyj_ok, kyi_ok, r_keys0, r_keys, kok_ok, r_cap0, r_cap, cpk_ok, arg0, arg1, arg2, ltK_eq, gtK_eq, kAt0, kAt1, kAt2, c_lam, lmk_ok, lmj_ok, r_thunk, thk_ok, thk_err, chk_t, chk_f, c_chain, c_raise1, err1_ok, MOd, put_0i, put_0o, put_s, itk_l, itk_t, c_items, r_app, r_isL, c_fld, c_prop, prk_ok, okD_ok, c_meth, c_methK, c_makeN, c_statK, c_tupk, tupl_l, c_zipP, zpk_ok, c_enumP, enk_ok, c_comp2, zip6, enum6, Bool.false_eq_true, hs, hu, e1, hM, r6, i0, i1, i2, i3, i4, i5, w0, w1, w2, w3, w4, w5, ho3]
        · simp (implicitDefEqProofs := false) (maxSteps := 100000000) (disch := omega) only [c_bind, bnd_ok, bnd_err, r_pure, r_c, ifb_t, ifb_f, ifk_ok, c_eif, c_if, c_or, c_and, toB_ok, c_asB, ntk_ok, c_not, ntv_ok, c_vnot, ifv_ok, c_vand, c_vor, opk_ok, r_opt, c_bin, nowk_im, nowk_ow, nowk_io, c_itemN, c_binN, c_acons, vark_im, vark_ow, c_var, c_call0, callk_ok, callk_err, r_call1, r_call2, r_call3, c_callK, pick10, pick01, pick0,
      ownk_ow, ownk_io, rok_ok, c_callO, tabk_s, c_tab, seqk_nx, seqk_ret, seqk_brk, seqk_cnt, seqk_err, c_seq, r_nx, c_ret, c_drop, somek_ok, c_asg, r_btup2, r_btup3, obk_ok, r_bcons, r_bnil, c_for, r_loop0, r_loop, lp1_ok, lp2_nx, lp2_cnt, lp2_brk, lp2_ret, mutk_ok, c_mut, setk_ok, lk_ok, c_setI, olk_ok, c_rng1, runk_ret, runk_nx, runk_err, r_run, runok_ret, r_runO,
      eqI, neI, neB, eqB, catI, subI, gtI, ltI, leI, geI, modI, ngk_ok, c_neg, intI, ixt20, ixt21, ixt30, ixt31, ixt32, rng_6, rng_9, b_eqT, b_eqF, b_ltT, b_ltF, b_leT, b_leF, r_name, r_mkT, r_mkL, c_own, LIM_eq,
      List.getElem?_cons_succ, List.getElem?_cons_zero, List.set_cons_succ, List.set_cons_zero, List.length_cons, List.length_nil, List.map_cons, List.map_nil, List.replicate_succ, List.replicate_zero, List.cons_append, List.nil_append, Nat.reduceAdd, Nat.reduceSub, Nat.reduceLT, Nat.reduceEqDiff, Nat.reduceLeDiff, if_true, ite_true, ite_false, ↓reduceIte, true_and, and_true, and_self, Bool.not_true, Bool.not_false, beq_self_eq_true, Int.reduceLT, Int.reduceBEq, Int.reduceMod, Int.reduceAdd, Int.reduceSub, Int.reduceNeg, Int.reduceLE, decide_true, decide_false, r_lc0, r_lc, lc1_ok, lc2_f, lc2_t, lc3_ok, c_comp, c_scomp, wipe0, wipe1, c_key, kyk_l, kyj_ok, kyi_ok, r_keys0, r_keys, kok_ok, r_cap0, r_cap, cpk_ok, arg0, arg1, arg2, ltK_eq, gtK_eq, kAt0, kAt1, kAt2, c_lam, lmk_ok, lmj_ok, r_thunk, thk_ok, thk_err, chk_t, chk_f, c_chain, c_raise1, err1_ok, MOd, put_0i, put_0o, put_s, itk_l, itk_t, c_items, r_app, r_isL, c_fld, c_prop, prk_ok, okD_ok, c_meth, c_methK, c_makeN, c_statK, c_tupk, tupl_l, c_zipP, zpk_ok, c_enumP, enk_ok, c_comp2, zip6, enum6, Bool.false_eq_true, hs, hu, e1, hM, r6, i0, i1, i2, i3, i4, i5, w0, w1, w2, w3, w4, w5, ho3]
    · unfold Bd at hb ⊢
      generalize m * u0 = y0 at *
      generalize m * u1 = y1 at *
      generalize m * u2 = y2 at *
      generalize m * u3 = y3 at *
      generalize m * u4 = y4 at *
      generalize m * u5 = y5 at *
      clear i0 i1 i2 i3 i4 i5
      omega
  · refine ⟨[.io (pot l2), .im (.int sh), x2, .im (.int only), .im (.int k), .im (.int ((r + sh + k) % 4)), x6, .no], rfl, ?_, l2, a, b, c, d, e, f, x2, _, _, _, n2, ?_, hx, rfl⟩
    · have ho : ¬ only < 3 := fun z => hc (.inl z)
      have ho2 : (only - 3 == k) = false := beq_false_of_ne fun z => hc (.inr z)
      clear hb hm hc hx
      simp (implicitDefEqProofs := false) (maxSteps := 100000000) (disch := omega) only [c_bind, bnd_ok, bnd_err, r_pure, r_c, ifb_t, ifb_f, ifk_ok, c_eif, c_if, c_or, c_and, toB_ok, c_asB, ntk_ok, c_not, ntv_ok, c_vnot, ifv_ok, c_vand, c_vor, opk_ok, r_opt, c_bin, nowk_im, nowk_ow, nowk_io, c_itemN, c_binN, c_acons, vark_im, vark_ow, c_var, c_call0, callk_ok, callk_err, r_call1, r_call2, r_call3, c_callK, pick10, pick01, pick0,
      ownk_ow, ownk_io, rok_ok, c_callO, tabk_s, c_tab, seqk_nx, seqk_ret, seqk_brk, seqk_cnt, seqk_err, c_seq, r_nx, c_ret, c_drop, somek_ok, c_asg, r_btup2, r_btup3, obk_ok, r_bcons, r_bnil, c_for, r_loop0, r_loop, lp1_ok, lp2_nx, lp2_cnt, lp2_brk, lp2_ret, mutk_ok, c_mut, setk_ok, lk_ok, c_setI, olk_ok, c_rng1, runk_ret, runk_nx, runk_err, r_run, runok_ret, r_runO,
      eqI, neI, neB, eqB, catI, subI, gtI, ltI, leI, geI, modI, ngk_ok, c_neg, intI, ixt20, ixt21, ixt30, ixt31, ixt32, rng_6, rng_9, b_eqT, b_eqF, b_ltT, b_ltF, b_leT, b_leF, r_name, r_mkT, r_mkL, c_own, LIM_eq,
      List.getElem?_cons_succ, List.getElem?_cons_zero, List.set_cons_succ, List.set_cons_zero, List.length_cons, List.length_nil, List.map_cons, List.map_nil, List.replicate_succ, List.replicate_zero, List.cons_append, List.nil_append, Nat.reduceAdd, Nat.reduceSub, Nat.reduceLT, Nat.reduceEqDiff, Nat.reduceLeDiff, if_true, ite_true, ite_false, ↓reduceIte, true_and, and_true, and_self, Bool.not_true, Bool.not_false, beq_self_eq_true, Int.reduceLT, Int.reduceBEq, Int.reduceMod, Int.reduceAdd, Int.reduceSub, Int.reduceNeg, Int.reduceLE, decide_true, decide_false, r_lc0, r_lc, lc1_ok, lc2_f, lc2_t, lc3_ok, c_comp, c_scomp, wipe0, wipe1, c_key, kyk_l, kyj_ok, kyi_ok, r_keys0, r_keys, kok_ok, r_cap0, r_cap, cpk_ok, arg0, arg1, arg2, ltK_eq, gtK_eq, kAt0, kAt1, kAt2, c_lam, lmk_ok, lmj_ok, r_thunk, thk_ok, thk_err, chk_t, chk_f, c_chain, c_raise1, err1_ok, MOd, put_0i, put_0o, put_s, itk_l, itk_t, c_items, r_app, r_isL, c_fld, c_prop, prk_ok, okD_ok, c_meth, c_methK, c_makeN, c_statK, c_tupk, tupl_l, c_zipP, zpk_ok, c_enumP, enk_ok, c_comp2, zip6, enum6, Bool.false_eq_true, hs, hu, e1, ho2]
    · unfold Bd at hb ⊢
      clear i0 i1 i2 i3 i4 i5
      omega
theorem cooked_ok (l : List Int) (hl : nng l) (sh : Int) : ∃ (a b c d e f : Int) (l' : List Int), m_u_law_cooked (pot l) [.int sh] = .ok (R6 a b c d e f) (pot l') ∧ nng l' ∧ Bd 15 a b c d e f := by
  obtain ⟨only, l2, e1, o0, o8, n2⟩ := draw_ok l hl 8 (by decide) (by decide)
  have s0 : CK only sh 0 [.io (pot l2), .im (.int sh), .ow (.lst (I6 0 0 0 0 0 0)), .im (.int only), .no, .no, .no, .no] := ⟨l2, 0, 0, 0, 0, 0, 0, _, _, _, _, n2, ⟨⟨by decide, by decide, by decide⟩, by decide, by decide, by decide⟩, .inl rfl, rfl⟩
  obtain ⟨a1, b1, h1, t1, s1⟩ := step_ok (k := 0) (s := "e") (by kernel_rfl) unit_e (by decide) (by decide) (by decide) (by decide) (by decide) (by decide) s0
  obtain ⟨a2, b2, h2, t2, s2⟩ := step_ok (k := 1) (s := "n") (by kernel_rfl) unit_n (by decide) (by decide) (by decide) (by decide) (by decide) (by decide) s1
  obtain ⟨a3, b3, h3, t3, s3⟩ := step_ok (k := 2) (s := "w") (by kernel_rfl) unit_w (by decide) (by decide) (by decide) (by decide) (by decide) (by decide) s2
  obtain ⟨a4, b4, h4, t4, s4⟩ := step_ok (k := 3) (s := "u") (by kernel_rfl) unit_u (by decide) (by decide) (by decide) (by decide) (by decide) (by decide) s3
  obtain ⟨a5, b5, h5, t5, s5⟩ := step_ok (k := 4) (s := "v") (by kernel_rfl) unit_v (by decide) (by decide) (by decide) (by decide) (by decide) (by decide) s4
  have lp : loopS (bName 4) bodyC [.int 0, .int 1, .int 2, .int 3, .int 4] [.io (pot l2), .im (.int sh), .ow (.lst (I6 0 0 0 0 0 0)), .im (.int only), .no, .no, .no, .no] = .ok .nx b5 := by
    rw [r_loop, h1, lp1_ok, t1, lp2_nx, r_loop, h2, lp1_ok, t2, lp2_nx, r_loop, h3, lp1_ok, t3, lp2_nx, r_loop, h4, lp1_ok, t4, lp2_nx, r_loop, h5, lp1_ok, t5, lp2_nx, r_loop0]
  obtain ⟨l3, a, b, c, d, e, f, x2, x4, x5, x6, n3, bd, hx, rfl⟩ := s5
  refine ⟨a, b, c, d, e, f, l3, ?_, n3, bd⟩
  have r5 : rng1 [.int 5] = some [.int 0, .int 1, .int 2, .int 3, .int 4] := by kernel_rfl
  clear s0 s1 s2 s3 s4 h1 h2 h3 h4 h5 t1 t2 t3 t4 t5 bd
  unfold m_u_law_cooked g_u_law_cooked
  rcases hx with rfl | rfl
  · simp (implicitDefEqProofs := false) (maxSteps := 100000000) (disch := omega) only [c_bind, bnd_ok, bnd_err, r_pure, r_c, ifb_t, ifb_f, ifk_ok, c_eif, c_if, c_or, c_and, toB_ok, c_asB, ntk_ok, c_not, ntv_ok, c_vnot, ifv_ok, c_vand, c_vor, opk_ok, r_opt, c_bin, nowk_im, nowk_ow, nowk_io, c_itemN, c_binN, c_acons, vark_im, vark_ow, c_var, c_call0, callk_ok, callk_err, r_call1, r_call2, r_call3, c_callK, pick10, pick01, pick0,
      ownk_ow, ownk_io, rok_ok, c_callO, tabk_s, c_tab, seqk_nx, seqk_ret, seqk_brk, seqk_cnt, seqk_err, c_seq, r_nx, c_ret, c_drop, somek_ok, c_asg, r_btup2, r_btup3, obk_ok, r_bcons, r_bnil, c_for, r_loop0, r_loop, lp1_ok, lp2_nx, lp2_cnt, lp2_brk, lp2_ret, mutk_ok, c_mut, setk_ok, lk_ok, c_setI, olk_ok, c_rng1, runk_ret, runk_nx, runk_err, r_run, runok_ret, r_runO,
      eqI, neI, neB, eqB, catI, subI, gtI, ltI, leI, geI, modI, ngk_ok, c_neg, intI, ixt20, ixt21, ixt30, ixt31, ixt32, rng_6, rng_9, b_eqT, b_eqF, b_ltT, b_ltF, b_leT, b_leF, r_name, r_mkT, r_mkL, c_own, LIM_eq,
      List.getElem?_cons_succ, List.getElem?_cons_zero, List.set_cons_succ, List.set_cons_zero, List.length_cons, List.length_nil, List.map_cons, List.map_nil, List.replicate_succ, List.replicate_zero, List.cons_append, List.nil_append, Nat.reduceAdd, Nat.reduceSub, Nat.reduceLT, Nat.reduceEqDiff, Nat.reduceLeDiff, if_true, ite_true, ite_false, ↓reduceIte, true_and, and_true, and_self, Bool.not_true, Bool.not_false, beq_self_eq_true, Int.reduceLT, Int.reduceBEq, Int.reduceMod, Int.reduceAdd, Int.reduceSub, Int.reduceNeg, Int.reduceLE, decide_true, decide_false, r_lc0, r_lc, lc1_ok, lc2_f, lc2_t, lc3_ok, c_comp, c_scomp, wipe0, wipe1, c_key, kyk_l, kyj_ok, kyi_ok, r_keys0, r_keys, kok_ok, r_cap0, r_cap, cpk_ok, arg0, arg1, arg2, ltK_eq, gtK_eq, kAt0, kAt1, kAt2, c_lam, lmk_ok, lmj_ok, r_thunk, thk_ok, thk_err, chk_t, chk_f, c_chain, c_raise1, err1_ok, MOd, put_0i, put_0o, put_s, itk_l, itk_t, c_items, r_app, r_isL, c_fld, c_prop, prk_ok, okD_ok, c_meth, c_methK, c_makeN, c_statK, c_tupk, tupl_l, c_zipP, zpk_ok, c_enumP, enk_ok, c_comp2, zip6, enum6, Bool.false_eq_true, e1, r5, lp]
  · simp (implicitDefEqProofs := false) (maxSteps := 100000000) (disch := omega) only [c_bind, bnd_ok, bnd_err, r_pure, r_c, ifb_t, ifb_f, ifk_ok, c_eif, c_if, c_or, c_and, toB_ok, c_asB, ntk_ok, c_not, ntv_ok, c_vnot, ifv_ok, c_vand, c_vor, opk_ok, r_opt, c_bin, nowk_im, nowk_ow, nowk_io, c_itemN, c_binN, c_acons, vark_im, vark_ow, c_var, c_call0, callk_ok, callk_err, r_call1, r_call2, r_call3, c_callK, pick10, pick01, pick0,
      ownk_ow, ownk_io, rok_ok, c_callO, tabk_s, c_tab, seqk_nx, seqk_ret, seqk_brk, seqk_cnt, seqk_err, c_seq, r_nx, c_ret, c_drop, somek_ok, c_asg, r_btup2, r_btup3, obk_ok, r_bcons, r_bnil, c_for, r_loop0, r_loop, lp1_ok, lp2_nx, lp2_cnt, lp2_brk, lp2_ret, mutk_ok, c_mut, setk_ok, lk_ok, c_setI, olk_ok, c_rng1, runk_ret, runk_nx, runk_err, r_run, runok_ret, r_runO,
      eqI, neI, neB, eqB, catI, subI, gtI, ltI, leI, geI, modI, ngk_ok, c_neg, intI, ixt20, ixt21, ixt30, ixt31, ixt32, rng_6, rng_9, b_eqT, b_eqF, b_ltT, b_ltF, b_leT, b_leF, r_name, r_mkT, r_mkL, c_own, LIM_eq,
      List.getElem?_cons_succ, List.getElem?_cons_zero, List.set_cons_succ, List.set_cons_zero, List.length_cons, List.length_nil, List.map_cons, List.map_nil, List.replicate_succ, List.replicate_zero, List.cons_append, List.nil_append, Nat.reduceAdd, Nat.reduceSub, Nat.reduceLT, Nat.reduceEqDiff, Nat.reduceLeDiff, if_true, ite_true, ite_false, ↓reduceIte, true_and, and_true, and_self, Bool.not_true, Bool.not_false, beq_self_eq_true, Int.reduceLT, Int.reduceBEq, Int.reduceMod, Int.reduceAdd, Int.reduceSub, Int.reduceNeg, Int.reduceLE, decide_true, decide_false, r_lc0, r_lc, lc1_ok, lc2_f, lc2_t, lc3_ok, c_comp, c_scomp, wipe0, wipe1, c_key, kyk_l, kyj_ok, kyi_ok, r_keys0, r_keys, kok_ok, r_cap0, r_cap, cpk_ok, arg0, arg1, arg2, ltK_eq, gtK_eq, kAt0, kAt1, kAt2, c_lam, lmk_ok, lmj_ok, r_thunk, thk_ok, thk_err, chk_t, chk_f, c_chain, c_raise1, err1_ok, MOd, put_0i, put_0o, put_s, itk_l, itk_t, c_items, r_app, r_isL, c_fld, c_prop, prk_ok, okD_ok, c_meth, c_methK, c_makeN, c_statK, c_tupk, tupl_l, c_zipP, zpk_ok, c_enumP, enk_ok, c_comp2, zip6, enum6, Bool.false_eq_true, e1, r5, lp]
end T
set_option Elab.async false
set_option linter.all false
set_option maxRecDepth 100000
set_option maxHeartbeats 8000000
namespace T
open PySem PySem.Spec PyProof.Rows L2 LamX PL
variable [Tbls]
def nat1 (c : Int) : Int := if 0 ≤ c then c else -c - 1
def natD (d : D) : D := match d with
  | .int c => .int (nat1 c)
  | d => d
theorem nat1_nn (l : List Int) : nng (l.map nat1) := fun z hz => by
  obtain ⟨c, _, rfl⟩ := List.mem_map.mp hz
  unfold nat1
  split <;> omega
abbrev D11 (ns : List Int) : En := [.im (.scr ns), .no, .no, .no, .no, .no, .no, .no, .no, .no, .no]
theorem pot_ok (ns : List Int) (h : ns.length ≤ 63) : loopC (bName 8) (M.pure true) (eIf (asB (eBin dGe (eVar 8) (eC (.int 0)))) (eVar 8) (eBin dSub (dNeg (eVar 8)) (eC (.int 1)))) [8] (ns.map D.int) [] (D11 ns) = .ok ((ns.map nat1).map D.int) (D11 ns) := by
  have e := loopC_all (bd := bName 8) (gt := M.pure true) (ge := eIf (asB (eBin dGe (eVar 8) (eC (.int 0)))) (eVar 8) (eBin dSub (dNeg (eVar 8)) (eC (.int 1)))) (vl := [8]) (δ := D11 ns) (t := fun _ => true) (f := natD) (ds := ns.map D.int) (acc := []) (fun d hd => ?_) (by rw [LIM_eq, List.length_map, List.length_nil]; omega)
  · rw [e, List.filter_eq_self.mpr (fun _ _ => rfl), List.nil_append, List.map_map, List.map_map]
    rfl
  · obtain ⟨c, _, rfl⟩ := List.mem_map.mp hd
    refine ⟨[.im (.scr ns), .no, .no, .no, .no, .no, .no, .no, .im (.int c), .no, .no], [.im (.scr ns), .no, .no, .no, .no, .no, .no, .no, .im (.int c), .no, .no], rfl, rfl, rfl, fun _ => ⟨[.im (.scr ns), .no, .no, .no, .no, .no, .no, .no, .im (.int c), .no, .no], ?_, rfl⟩⟩
    by_cases hc : 0 ≤ c
    · have e1 : natD (.int c) = .int c := by show D.int (nat1 c) = _; unfold nat1; rw [if_pos hc]
      rw [e1]
      simp (implicitDefEqProofs := false) (maxSteps := 100000000) (disch := omega) only [c_bind, bnd_ok, bnd_err, r_pure, r_c, ifb_t, ifb_f, ifk_ok, c_eif, c_if, c_or, c_and, toB_ok, c_asB, ntk_ok, c_not, ntv_ok, c_vnot, ifv_ok, c_vand, c_vor, opk_ok, r_opt, c_bin, nowk_im, nowk_ow, nowk_io, c_itemN, c_binN, c_acons, vark_im, vark_ow, c_var, c_call0, callk_ok, callk_err, r_call1, r_call2, r_call3, c_callK, pick10, pick01, pick0,
      ownk_ow, ownk_io, rok_ok, c_callO, tabk_s, c_tab, seqk_nx, seqk_ret, seqk_brk, seqk_cnt, seqk_err, c_seq, r_nx, c_ret, c_drop, somek_ok, c_asg, r_btup2, r_btup3, obk_ok, r_bcons, r_bnil, c_for, r_loop0, r_loop, lp1_ok, lp2_nx, lp2_cnt, lp2_brk, lp2_ret, mutk_ok, c_mut, setk_ok, lk_ok, c_setI, olk_ok, c_rng1, runk_ret, runk_nx, runk_err, r_run, runok_ret, r_runO,
      eqI, neI, neB, eqB, catI, subI, gtI, ltI, leI, geI, modI, ngk_ok, c_neg, intI, ixt20, ixt21, ixt30, ixt31, ixt32, rng_6, rng_9, b_eqT, b_eqF, b_ltT, b_ltF, b_leT, b_leF, r_name, r_mkT, r_mkL, c_own, LIM_eq,
      List.getElem?_cons_succ, List.getElem?_cons_zero, List.set_cons_succ, List.set_cons_zero, List.length_cons, List.length_nil, List.map_cons, List.map_nil, List.replicate_succ, List.replicate_zero, List.cons_append, List.nil_append, Nat.reduceAdd, Nat.reduceSub, Nat.reduceLT, Nat.reduceEqDiff, Nat.reduceLeDiff, if_true, ite_true, ite_false, ↓reduceIte, true_and, and_true, and_self, Bool.not_true, Bool.not_false, beq_self_eq_true, Int.reduceLT, Int.reduceBEq, Int.reduceMod, Int.reduceAdd, Int.reduceSub, Int.reduceNeg, Int.reduceLE, decide_true, decide_false, r_lc0, r_lc, lc1_ok, lc2_f, lc2_t, lc3_ok, c_comp, c_scomp, wipe0, wipe1, c_key, kyk_l, kyj_ok, kyi_ok, r_keys0, r_keys, kok_ok, r_cap0, r_cap, cpk_ok, arg0, arg1, arg2, ltK_eq, gtK_eq, kAt0, kAt1, kAt2, c_lam, lmk_ok, lmj_ok, r_thunk, thk_ok, thk_err, chk_t, chk_f, c_chain, c_raise1, err1_ok, MOd, put_0i, put_0o, put_s, itk_l, itk_t, c_items, r_app, r_isL, c_fld, c_prop, prk_ok, okD_ok, c_meth, c_methK, c_makeN, c_statK, c_tupk, tupl_l, c_zipP, zpk_ok, c_enumP, enk_ok, c_comp2, zip6, enum6, Bool.false_eq_true, *]
    · have e1 : natD (.int c) = .int (-c - 1) := by show D.int (nat1 c) = _; unfold nat1; rw [if_neg hc]
      rw [e1]
      simp (implicitDefEqProofs := false) (maxSteps := 100000000) (disch := omega) only [c_bind, bnd_ok, bnd_err, r_pure, r_c, ifb_t, ifb_f, ifk_ok, c_eif, c_if, c_or, c_and, toB_ok, c_asB, ntk_ok, c_not, ntv_ok, c_vnot, ifv_ok, c_vand, c_vor, opk_ok, r_opt, c_bin, nowk_im, nowk_ow, nowk_io, c_itemN, c_binN, c_acons, vark_im, vark_ow, c_var, c_call0, callk_ok, callk_err, r_call1, r_call2, r_call3, c_callK, pick10, pick01, pick0,
      ownk_ow, ownk_io, rok_ok, c_callO, tabk_s, c_tab, seqk_nx, seqk_ret, seqk_brk, seqk_cnt, seqk_err, c_seq, r_nx, c_ret, c_drop, somek_ok, c_asg, r_btup2, r_btup3, obk_ok, r_bcons, r_bnil, c_for, r_loop0, r_loop, lp1_ok, lp2_nx, lp2_cnt, lp2_brk, lp2_ret, mutk_ok, c_mut, setk_ok, lk_ok, c_setI, olk_ok, c_rng1, runk_ret, runk_nx, runk_err, r_run, runok_ret, r_runO,
      eqI, neI, neB, eqB, catI, subI, gtI, ltI, leI, geI, modI, ngk_ok, c_neg, intI, ixt20, ixt21, ixt30, ixt31, ixt32, rng_6, rng_9, b_eqT, b_eqF, b_ltT, b_ltF, b_leT, b_leF, r_name, r_mkT, r_mkL, c_own, LIM_eq,
      List.getElem?_cons_succ, List.getElem?_cons_zero, List.set_cons_succ, List.set_cons_zero, List.length_cons, List.length_nil, List.map_cons, List.map_nil, List.replicate_succ, List.replicate_zero, List.cons_append, List.nil_append, Nat.reduceAdd, Nat.reduceSub, Nat.reduceLT, Nat.reduceEqDiff, Nat.reduceLeDiff, if_true, ite_true, ite_false, ↓reduceIte, true_and, and_true, and_self, Bool.not_true, Bool.not_false, beq_self_eq_true, Int.reduceLT, Int.reduceBEq, Int.reduceMod, Int.reduceAdd, Int.reduceSub, Int.reduceNeg, Int.reduceLE, decide_true, decide_false, r_lc0, r_lc, lc1_ok, lc2_f, lc2_t, lc3_ok, c_comp, c_scomp, wipe0, wipe1, c_key, kyk_l, kyj_ok, kyi_ok, r_keys0, r_keys, kok_ok, r_cap0, r_cap, cpk_ok, arg0, arg1, arg2, ltK_eq, gtK_eq, kAt0, kAt1, kAt2, c_lam, lmk_ok, lmj_ok, r_thunk, thk_ok, thk_err, chk_t, chk_f, c_chain, c_raise1, err1_ok, MOd, put_0i, put_0o, put_s, itk_l, itk_t, c_items, r_app, r_isL, c_fld, c_prop, prk_ok, okD_ok, c_meth, c_methK, c_makeN, c_statK, c_tupk, tupl_l, c_zipP, zpk_ok, c_enumP, enk_ok, c_comp2, zip6, enum6, Bool.false_eq_true, *]
theorem rng6 : rng1 [.int 6] = some [.int 0, .int 1, .int 2, .int 3, .int 4, .int 5] := by kernel_rfl
/-- six drawn reaches -/
noncomputable abbrev geN (t0 t1 t2 t3 t4 t5 : Int) : M D := (eBin dSub (eBin dMod (eCall fInt (aCons (eBin dCat (eCallO 1 1 m_u_law_draw (aCons (eC (.int 9)) (M.pure []))) (eBin dIx (M.bind (aCons (eC (.int t0)) (aCons (eC (.int t1)) (aCons (eC (.int t2)) (aCons (eC (.int t3)) (aCons (eC (.int t4)) (aCons (eC (.int t5)) (M.pure []))))))) mkL) (eVar 9))) (M.pure []))) (eC (.int 9))) (eC (.int 4)))
theorem nine_ok (l : List Int) (hl : nng l) (t0 t1 t2 t3 t4 t5 : Int) (s0 s2 s3 s4 s5 s6 s7 : Sl) : ∃ (a b c d e f : Int) (l' : List Int), loopC (bName 9) (M.pure true) (geN t0 t1 t2 t3 t4 t5) [9] [.int 0, .int 1, .int 2, .int 3, .int 4, .int 5] [] [s0, .ow (pot l), s2, s3, s4, s5, s6, s7, .no, .no, .no] = .ok (I6 a b c d e f) [s0, .ow (pot l'), s2, s3, s4, s5, s6, s7, .no, .no, .no] ∧ nng l' ∧ Bd 15 a b c d e f := by
  obtain ⟨r0, l0, e0, _, _, n0⟩ := draw_ok l hl 9 (by decide) (by decide)
  obtain ⟨r1, l1, e1, _, _, n1⟩ := draw_ok l0 n0 9 (by decide) (by decide)
  obtain ⟨r2, l2, e2, _, _, n2⟩ := draw_ok l1 n1 9 (by decide) (by decide)
  obtain ⟨r3, l3, e3, _, _, n3⟩ := draw_ok l2 n2 9 (by decide) (by decide)
  obtain ⟨r4, l4, e4, _, _, n4⟩ := draw_ok l3 n3 9 (by decide) (by decide)
  obtain ⟨r5, l5, e5, _, _, n5⟩ := draw_ok l4 n4 9 (by decide) (by decide)
  have i0 : dIx (.lst (I6 t0 t1 t2 t3 t4 t5)) (.int 0) = some (.int t0) := by kernel_rfl
  have i1 : dIx (.lst (I6 t0 t1 t2 t3 t4 t5)) (.int 1) = some (.int t1) := by kernel_rfl
  have i2 : dIx (.lst (I6 t0 t1 t2 t3 t4 t5)) (.int 2) = some (.int t2) := by kernel_rfl
  have i3 : dIx (.lst (I6 t0 t1 t2 t3 t4 t5)) (.int 3) = some (.int t3) := by kernel_rfl
  have i4 : dIx (.lst (I6 t0 t1 t2 t3 t4 t5)) (.int 4) = some (.int t4) := by kernel_rfl
  have i5 : dIx (.lst (I6 t0 t1 t2 t3 t4 t5)) (.int 5) = some (.int t5) := by kernel_rfl
  refine ⟨(r0 + t0) % 9 - 4, (r1 + t1) % 9 - 4, (r2 + t2) % 9 - 4, (r3 + t3) % 9 - 4, (r4 + t4) % 9 - 4, (r5 + t5) % 9 - 4, l5, ?_, n5, ?_⟩
  · clear hl n0 n1 n2 n3 n4 n5
    simp (implicitDefEqProofs := false) (maxSteps := 100000000) (disch := omega) only [c_bind, bnd_ok, bnd_err, r_pure, r_c, ifb_t, ifb_f, ifk_ok, c_eif, c_if, c_or, c_and, toB_ok, c_asB, ntk_ok, c_not, ntv_ok, c_vnot, ifv_ok, c_vand, c_vor, opk_ok, r_opt, c_bin, nowk_im, nowk_ow, nowk_io, c_itemN, c_binN, c_acons, vark_im, vark_ow, c_var, c_call0, callk_ok, callk_err, r_call1, r_call2, r_call3, c_callK, pick10, pick01, pick0,
      ownk_ow, ownk_io, rok_ok, c_callO, tabk_s, c_tab, seqk_nx, seqk_ret, seqk_brk, seqk_cnt, seqk_err, c_seq, r_nx, c_ret, c_drop, somek_ok, c_asg, r_btup2, r_btup3, obk_ok, r_bcons, r_bnil, c_for, r_loop0, r_loop, lp1_ok, lp2_nx, lp2_cnt, lp2_brk, lp2_ret, mutk_ok, c_mut, setk_ok, lk_ok, c_setI, olk_ok, c_rng1, runk_ret, runk_nx, runk_err, r_run, runok_ret, r_runO,
      eqI, neI, neB, eqB, catI, subI, gtI, ltI, leI, geI, modI, ngk_ok, c_neg, intI, ixt20, ixt21, ixt30, ixt31, ixt32, rng_6, rng_9, b_eqT, b_eqF, b_ltT, b_ltF, b_leT, b_leF, r_name, r_mkT, r_mkL, c_own, LIM_eq,
      List.getElem?_cons_succ, List.getElem?_cons_zero, List.set_cons_succ, List.set_cons_zero, List.length_cons, List.length_nil, List.map_cons, List.map_nil, List.replicate_succ, List.replicate_zero, List.cons_append, List.nil_append, Nat.reduceAdd, Nat.reduceSub, Nat.reduceLT, Nat.reduceEqDiff, Nat.reduceLeDiff, if_true, ite_true, ite_false, ↓reduceIte, true_and, and_true, and_self, Bool.not_true, Bool.not_false, beq_self_eq_true, Int.reduceLT, Int.reduceBEq, Int.reduceMod, Int.reduceAdd, Int.reduceSub, Int.reduceNeg, Int.reduceLE, decide_true, decide_false, r_lc0, r_lc, lc1_ok, lc2_f, lc2_t, lc3_ok, c_comp, c_scomp, wipe0, wipe1, c_key, kyk_l, kyj_ok, kyi_ok, r_keys0, r_keys, kok_ok, r_cap0, r_cap, cpk_ok, arg0, arg1, arg2, ltK_eq, gtK_eq, kAt0, kAt1, kAt2, c_lam, lmk_ok, lmj_ok, r_thunk, thk_ok, thk_err, chk_t, chk_f, c_chain, c_raise1, err1_ok, MOd, put_0i, put_0o, put_s, itk_l, itk_t, c_items, r_app, r_isL, c_fld, c_prop, prk_ok, okD_ok, c_meth, c_methK, c_makeN, c_statK, c_tupk, tupl_l, c_zipP, zpk_ok, c_enumP, enk_ok, c_comp2, zip6, enum6, Bool.false_eq_true, e0, e1, e2, e3, e4, e5, i0, i1, i2, i3, i4, i5]
  · unfold Bd
    omega
theorem Bd.mono {N M : Nat} {a b c d e f : Int} (h : Bd N a b c d e f) (p : N ≤ M) : Bd M a b c d e f := by
  unfold Bd at *
  omega
theorem Bd.mid {a b c d e f : Int} (h : Bd 15 a b c d e f) : Bd MID a b c d e f := h.mono (by decide +kernel)
noncomputable abbrev stR : S := (sIf (asB (eBin dEq (eVar 2) (eC (.int 2)))) (sSeq (sAsg (M.bind (aCons (eComp (iRange1 (aCons (eC (.int 6)) (M.pure []))) (bName 9) (M.pure true) (eVar 4) [9]) (aCons (eVar 5) (M.pure []))) (callN 2 m_u_law_moved)) (bName 6))
    sNx) (sSeq (sIf (asB (eBin dEq (eVar 2) (eC (.int 4)))) (sSeq (sComp 6 (iRange1 (aCons (eC (.int 6)) (M.pure []))) (bName 9) (M.pure true) (geN 2 1 4 3 5 4) [9])
    sNx) (sSeq (sAsg (eCallO 1 1 m_u_law_cooked (aCons (eC (.int 1)) (M.pure []))) (bName 6))
    sNx))
    sNx))
noncomputable abbrev stS : S := (sIf (asB (eBin dEq (eVar 2) (eC (.int 1)))) (sSeq (sAsg (M.bind (aCons (eComp (items (eVar 6)) (bName 10) (M.pure true) (eBin dMulX (eVar 4) (eVar 10)) [10]) (aCons (eVar 5) (M.pure []))) (callN 2 m_u_law_moved)) (bName 7))
    sNx) (sSeq (sIf (asB (eBin dGe (eVar 2) (eC (.int 3)))) (sSeq (sComp 7 (iRange1 (aCons (eC (.int 6)) (M.pure []))) (bName 9) (M.pure true) (geN 6 7 5 6 4 7) [9])
    sNx) (sSeq (sAsg (eCallO 1 1 m_u_law_cooked (aCons (eC (.int 2)) (M.pure []))) (bName 7))
    sNx))
    sNx))
theorem moved_mid {N : Nat} {a b c d e f x y : Int} (h : Bd N a b c d e f) (p : N + 2 * 10 ^ 39 ≤ MID) (hx : -1000000000000000000000000000000000000000 ≤ x ∧ x ≤ 1000000000000000000000000000000000000000) (hy : -1000000000000000000000000000000000000000 ≤ y ∧ y ≤ 1000000000000000000000000000000000000000) : Bd MID (a + (x + y)) (b + y) (c + -x) (d + -(x + y)) (e + -y) (f + - -x) := by
  refine Bd.mono (N := N + 2 * 10 ^ 39) ?_ p
  unfold Bd at *
  clear p
  omega
section
variable {pick mode n x y : Int} {l : List Int} {s0 : Sl}
theorem stR_ok (hl : nng l) (hx : -1000000000000000000000000000000000000000 ≤ x ∧ x ≤ 1000000000000000000000000000000000000000) (hy : -1000000000000000000000000000000000000000 ≤ y ∧ y ≤ 1000000000000000000000000000000000000000) (hn : 1 ≤ n ∧ n ≤ 1000000000000000000000000000000) : ∃ (a b c d e f : Int) (l' : List Int) (x6 : Sl), stR [s0, .ow (pot l), .im (.int pick), .im (.int mode), .im (.int n), .im (P2 x y), .no, .no, .no, .no, .no] = .ok .nx [s0, .ow (pot l'), .im (.int pick), .im (.int mode), .im (.int n), .im (P2 x y), x6, .no, .no, .no, .no] ∧
    (x6 = .ow (.lst (I6 a b c d e f)) ∨ x6 = .im (R6 a b c d e f)) ∧ nng l' ∧ Bd MID a b c d e f ∧ (pick = 1 → Bd 15 a b c d e f) := by
  have r6 := rng6
  by_cases h2 : pick = 2
  · subst h2
    have mv := moved_ok n n n n n n x y
    refine ⟨_, _, _, _, _, _, l, _, ?_, .inr rfl, hl, moved_mid (N := 10 ^ 30) (x := x) (y := y) (a := n) (b := n) (c := n) (d := n) (e := n) (f := n) ?_ (by decide +kernel) hx hy, fun z => by omega⟩
    · clear hx hy hl
      simp (implicitDefEqProofs := false) (maxSteps := 100000000) (disch := omega) only [c_bind, bnd_ok, bnd_err, r_pure, r_c, ifb_t, ifb_f, ifk_ok, c_eif, c_if, c_or, c_and, toB_ok, c_asB, ntk_ok, c_not, ntv_ok, c_vnot, ifv_ok, c_vand, c_vor, opk_ok, r_opt, c_bin, nowk_im, nowk_ow, nowk_io, c_itemN, c_binN, c_acons, vark_im, vark_ow, c_var, c_call0, callk_ok, callk_err, r_call1, r_call2, r_call3, c_callK, pick10, pick01, pick0,
      ownk_ow, ownk_io, rok_ok, c_callO, tabk_s, c_tab, seqk_nx, seqk_ret, seqk_brk, seqk_cnt, seqk_err, c_seq, r_nx, c_ret, c_drop, somek_ok, c_asg, r_btup2, r_btup3, obk_ok, r_bcons, r_bnil, c_for, r_loop0, r_loop, lp1_ok, lp2_nx, lp2_cnt, lp2_brk, lp2_ret, mutk_ok, c_mut, setk_ok, lk_ok, c_setI, olk_ok, c_rng1, runk_ret, runk_nx, runk_err, r_run, runok_ret, r_runO,
      eqI, neI, neB, eqB, catI, subI, gtI, ltI, leI, geI, modI, ngk_ok, c_neg, intI, ixt20, ixt21, ixt30, ixt31, ixt32, rng_6, rng_9, b_eqT, b_eqF, b_ltT, b_ltF, b_leT, b_leF, r_name, r_mkT, r_mkL, c_own, LIM_eq,
      List.getElem?_cons_succ, List.getElem?_cons_zero, List.set_cons_succ, List.set_cons_zero, List.length_cons, List.length_nil, List.map_cons, List.map_nil, List.replicate_succ, List.replicate_zero, List.cons_append, List.nil_append, Nat.reduceAdd, Nat.reduceSub, Nat.reduceLT, Nat.reduceEqDiff, Nat.reduceLeDiff, if_true, ite_true, ite_false, ↓reduceIte, true_and, and_true, and_self, Bool.not_true, Bool.not_false, beq_self_eq_true, Int.reduceLT, Int.reduceBEq, Int.reduceMod, Int.reduceAdd, Int.reduceSub, Int.reduceNeg, Int.reduceLE, decide_true, decide_false, r_lc0, r_lc, lc1_ok, lc2_f, lc2_t, lc3_ok, c_comp, c_scomp, wipe0, wipe1, c_key, kyk_l, kyj_ok, kyi_ok, r_keys0, r_keys, kok_ok, r_cap0, r_cap, cpk_ok, arg0, arg1, arg2, ltK_eq, gtK_eq, kAt0, kAt1, kAt2, c_lam, lmk_ok, lmj_ok, r_thunk, thk_ok, thk_err, chk_t, chk_f, c_chain, c_raise1, err1_ok, MOd, put_0i, put_0o, put_s, itk_l, itk_t, c_items, r_app, r_isL, c_fld, c_prop, prk_ok, okD_ok, c_meth, c_methK, c_makeN, c_statK, c_tupk, tupl_l, c_zipP, zpk_ok, c_enumP, enk_ok, c_comp2, zip6, enum6, Bool.false_eq_true, r6, mv]
    · unfold Bd
      omega
  · by_cases h4 : pick = 4
    · subst h4
      obtain ⟨a, b, c, d, e, f, l', e1, n1, b1⟩ := nine_ok l hl 2 1 4 3 5 4 s0 (.im (.int 4)) (.im (.int mode)) (.im (.int n)) (.im (P2 x y)) .no .no
      refine ⟨a, b, c, d, e, f, l', _, ?_, .inl rfl, n1, b1.mid, fun z => by omega⟩
      clear hx hy hl b1
      simp (implicitDefEqProofs := false) (maxSteps := 100000000) (disch := omega) only [c_bind, bnd_ok, bnd_err, r_pure, r_c, ifb_t, ifb_f, ifk_ok, c_eif, c_if, c_or, c_and, toB_ok, c_asB, ntk_ok, c_not, ntv_ok, c_vnot, ifv_ok, c_vand, c_vor, opk_ok, r_opt, c_bin, nowk_im, nowk_ow, nowk_io, c_itemN, c_binN, c_acons, vark_im, vark_ow, c_var, c_call0, callk_ok, callk_err, r_call1, r_call2, r_call3, c_callK, pick10, pick01, pick0,
      ownk_ow, ownk_io, rok_ok, c_callO, tabk_s, c_tab, seqk_nx, seqk_ret, seqk_brk, seqk_cnt, seqk_err, c_seq, r_nx, c_ret, c_drop, somek_ok, c_asg, r_btup2, r_btup3, obk_ok, r_bcons, r_bnil, c_for, r_loop0, r_loop, lp1_ok, lp2_nx, lp2_cnt, lp2_brk, lp2_ret, mutk_ok, c_mut, setk_ok, lk_ok, c_setI, olk_ok, c_rng1, runk_ret, runk_nx, runk_err, r_run, runok_ret, r_runO,
      eqI, neI, neB, eqB, catI, subI, gtI, ltI, leI, geI, modI, ngk_ok, c_neg, intI, ixt20, ixt21, ixt30, ixt31, ixt32, rng_6, rng_9, b_eqT, b_eqF, b_ltT, b_ltF, b_leT, b_leF, r_name, r_mkT, r_mkL, c_own, LIM_eq,
      List.getElem?_cons_succ, List.getElem?_cons_zero, List.set_cons_succ, List.set_cons_zero, List.length_cons, List.length_nil, List.map_cons, List.map_nil, List.replicate_succ, List.replicate_zero, List.cons_append, List.nil_append, Nat.reduceAdd, Nat.reduceSub, Nat.reduceLT, Nat.reduceEqDiff, Nat.reduceLeDiff, if_true, ite_true, ite_false, ↓reduceIte, true_and, and_true, and_self, Bool.not_true, Bool.not_false, beq_self_eq_true, Int.reduceLT, Int.reduceBEq, Int.reduceMod, Int.reduceAdd, Int.reduceSub, Int.reduceNeg, Int.reduceLE, decide_true, decide_false, r_lc0, r_lc, lc1_ok, lc2_f, lc2_t, lc3_ok, c_comp, c_scomp, wipe0, wipe1, c_key, kyk_l, kyj_ok, kyi_ok, r_keys0, r_keys, kok_ok, r_cap0, r_cap, cpk_ok, arg0, arg1, arg2, ltK_eq, gtK_eq, kAt0, kAt1, kAt2, c_lam, lmk_ok, lmj_ok, r_thunk, thk_ok, thk_err, chk_t, chk_f, c_chain, c_raise1, err1_ok, MOd, put_0i, put_0o, put_s, itk_l, itk_t, c_items, r_app, r_isL, c_fld, c_prop, prk_ok, okD_ok, c_meth, c_methK, c_makeN, c_statK, c_tupk, tupl_l, c_zipP, zpk_ok, c_enumP, enk_ok, c_comp2, zip6, enum6, Bool.false_eq_true, r6, e1]
    · obtain ⟨a, b, c, d, e, f, l', e1, n1, b1⟩ := cooked_ok l hl 1
      refine ⟨a, b, c, d, e, f, l', _, ?_, .inr rfl, n1, b1.mid, fun _ => b1⟩
      have z2 : (pick == 2) = false := beq_false_of_ne h2
      have z4 : (pick == 4) = false := beq_false_of_ne h4
      clear hx hy hl b1
      simp (implicitDefEqProofs := false) (maxSteps := 100000000) (disch := omega) only [c_bind, bnd_ok, bnd_err, r_pure, r_c, ifb_t, ifb_f, ifk_ok, c_eif, c_if, c_or, c_and, toB_ok, c_asB, ntk_ok, c_not, ntv_ok, c_vnot, ifv_ok, c_vand, c_vor, opk_ok, r_opt, c_bin, nowk_im, nowk_ow, nowk_io, c_itemN, c_binN, c_acons, vark_im, vark_ow, c_var, c_call0, callk_ok, callk_err, r_call1, r_call2, r_call3, c_callK, pick10, pick01, pick0,
      ownk_ow, ownk_io, rok_ok, c_callO, tabk_s, c_tab, seqk_nx, seqk_ret, seqk_brk, seqk_cnt, seqk_err, c_seq, r_nx, c_ret, c_drop, somek_ok, c_asg, r_btup2, r_btup3, obk_ok, r_bcons, r_bnil, c_for, r_loop0, r_loop, lp1_ok, lp2_nx, lp2_cnt, lp2_brk, lp2_ret, mutk_ok, c_mut, setk_ok, lk_ok, c_setI, olk_ok, c_rng1, runk_ret, runk_nx, runk_err, r_run, runok_ret, r_runO,
      eqI, neI, neB, eqB, catI, subI, gtI, ltI, leI, geI, modI, ngk_ok, c_neg, intI, ixt20, ixt21, ixt30, ixt31, ixt32, rng_6, rng_9, b_eqT, b_eqF, b_ltT, b_ltF, b_leT, b_leF, r_name, r_mkT, r_mkL, c_own, LIM_eq,
      List.getElem?_cons_succ, List.getElem?_cons_zero, List.set_cons_succ, List.set_cons_zero, List.length_cons, List.length_nil, List.map_cons, List.map_nil, List.replicate_succ, List.replicate_zero, List.cons_append, List.nil_append, Nat.reduceAdd, Nat.reduceSub, Nat.reduceLT, Nat.reduceEqDiff, Nat.reduceLeDiff, if_true, ite_true, ite_false, ↓reduceIte, true_and, and_true, and_self, Bool.not_true, Bool.not_false, beq_self_eq_true, Int.reduceLT, Int.reduceBEq, Int.reduceMod, Int.reduceAdd, Int.reduceSub, Int.reduceNeg, Int.reduceLE, decide_true, decide_false, r_lc0, r_lc, lc1_ok, lc2_f, lc2_t, lc3_ok, c_comp, c_scomp, wipe0, wipe1, c_key, kyk_l, kyj_ok, kyi_ok, r_keys0, r_keys, kok_ok, r_cap0, r_cap, cpk_ok, arg0, arg1, arg2, ltK_eq, gtK_eq, kAt0, kAt1, kAt2, c_lam, lmk_ok, lmj_ok, r_thunk, thk_ok, thk_err, chk_t, chk_f, c_chain, c_raise1, err1_ok, MOd, put_0i, put_0o, put_s, itk_l, itk_t, c_items, r_app, r_isL, c_fld, c_prop, prk_ok, okD_ok, c_meth, c_methK, c_makeN, c_statK, c_tupk, tupl_l, c_zipP, zpk_ok, c_enumP, enk_ok, c_comp2, zip6, enum6, Bool.false_eq_true, r6, e1, z2, z4]
theorem wide_nr {r : Int} (hn : 1 ≤ n ∧ n ≤ 1000000000000000000000000000000) (hr : r.natAbs ≤ 15) : wideOk n r = true ∧ (n * r).natAbs ≤ 10 ^ 30 * 15 :=
  ⟨wide_na (Nat.le_trans (show n.natAbs ≤ 10 ^ 30 by omega) (by decide +kernel)) (Nat.le_trans hr (by decide +kernel)), mul_bd (by omega) hr⟩
theorem stS_ok (hl : nng l) (hx : -1000000000000000000000000000000000000000 ≤ x ∧ x ≤ 1000000000000000000000000000000000000000) (hy : -1000000000000000000000000000000000000000 ≤ y ∧ y ≤ 1000000000000000000000000000000000000000) (hn : 1 ≤ n ∧ n ≤ 1000000000000000000000000000000) {a b c d e f : Int} {x6 : Sl} (h6 : x6 = .ow (.lst (I6 a b c d e f)) ∨ x6 = .im (R6 a b c d e f)) (hb : pick = 1 → Bd 15 a b c d e f) :
    ∃ (A B C D' E F : Int) (l' : List Int) (x6' x7 : Sl), stS [s0, .ow (pot l), .im (.int pick), .im (.int mode), .im (.int n), .im (P2 x y), x6, .no, .no, .no, .no] = .ok .nx [s0, .ow (pot l'), .im (.int pick), .im (.int mode), .im (.int n), .im (P2 x y), x6', x7, .no, .no, .no] ∧
    (x6' = .ow (.lst (I6 a b c d e f)) ∨ x6' = .im (R6 a b c d e f)) ∧ (x7 = .ow (.lst (I6 A B C D' E F)) ∨ x7 = .im (R6 A B C D' E F)) ∧ nng l' ∧ Bd MID A B C D' E F := by
  have r6 := rng6
  by_cases h1 : pick = 1
  · subst h1
    have hb' := hb rfl
    obtain ⟨⟨k0, k1, k2⟩, k3, k4, k5⟩ := hb'
    obtain ⟨w0, v0⟩ := wide_nr hn k0
    obtain ⟨w1, v1⟩ := wide_nr hn k1
    obtain ⟨w2, v2⟩ := wide_nr hn k2
    obtain ⟨w3, v3⟩ := wide_nr hn k3
    obtain ⟨w4, v4⟩ := wide_nr hn k4
    obtain ⟨w5, v5⟩ := wide_nr hn k5
    have w0 := mulX_ok w0
    have w1 := mulX_ok w1
    have w2 := mulX_ok w2
    have w3 := mulX_ok w3
    have w4 := mulX_ok w4
    have w5 := mulX_ok w5
    have mv := moved_ok (n * a) (n * b) (n * c) (n * d) (n * e) (n * f) x y
    refine ⟨_, _, _, _, _, _, l, .im (R6 a b c d e f), _, ?_, .inr rfl, .inr rfl, hl, moved_mid (N := 10 ^ 30 * 15) (x := x) (y := y) (a := n * a) (b := n * b) (c := n * c) (d := n * d) (e := n * e) (f := n * f) ⟨⟨v0, v1, v2⟩, v3, v4, v5⟩ (by decide +kernel) hx hy⟩
    clear hx hy hl v0 v1 v2 v3 v4 v5 hb k0 k1 k2 k3 k4 k5
    rcases h6 with rfl | rfl
    · simp (implicitDefEqProofs := false) (maxSteps := 100000000) (disch := omega) only [c_bind, bnd_ok, bnd_err, r_pure, r_c, ifb_t, ifb_f, ifk_ok, c_eif, c_if, c_or, c_and, toB_ok, c_asB, ntk_ok, c_not, ntv_ok, c_vnot, ifv_ok, c_vand, c_vor, opk_ok, r_opt, c_bin, nowk_im, nowk_ow, nowk_io, c_itemN, c_binN, c_acons, vark_im, vark_ow, c_var, c_call0, callk_ok, callk_err, r_call1, r_call2, r_call3, c_callK, pick10, pick01, pick0,
      ownk_ow, ownk_io, rok_ok, c_callO, tabk_s, c_tab, seqk_nx, seqk_ret, seqk_brk, seqk_cnt, seqk_err, c_seq, r_nx, c_ret, c_drop, somek_ok, c_asg, r_btup2, r_btup3, obk_ok, r_bcons, r_bnil, c_for, r_loop0, r_loop, lp1_ok, lp2_nx, lp2_cnt, lp2_brk, lp2_ret, mutk_ok, c_mut, setk_ok, lk_ok, c_setI, olk_ok, c_rng1, runk_ret, runk_nx, runk_err, r_run, runok_ret, r_runO,
      eqI, neI, neB, eqB, catI, subI, gtI, ltI, leI, geI, modI, ngk_ok, c_neg, intI, ixt20, ixt21, ixt30, ixt31, ixt32, rng_6, rng_9, b_eqT, b_eqF, b_ltT, b_ltF, b_leT, b_leF, r_name, r_mkT, r_mkL, c_own, LIM_eq,
      List.getElem?_cons_succ, List.getElem?_cons_zero, List.set_cons_succ, List.set_cons_zero, List.length_cons, List.length_nil, List.map_cons, List.map_nil, List.replicate_succ, List.replicate_zero, List.cons_append, List.nil_append, Nat.reduceAdd, Nat.reduceSub, Nat.reduceLT, Nat.reduceEqDiff, Nat.reduceLeDiff, if_true, ite_true, ite_false, ↓reduceIte, true_and, and_true, and_self, Bool.not_true, Bool.not_false, beq_self_eq_true, Int.reduceLT, Int.reduceBEq, Int.reduceMod, Int.reduceAdd, Int.reduceSub, Int.reduceNeg, Int.reduceLE, decide_true, decide_false, r_lc0, r_lc, lc1_ok, lc2_f, lc2_t, lc3_ok, c_comp, c_scomp, wipe0, wipe1, c_key, kyk_l, kyj_ok, kyi_ok, r_keys0, r_keys, kok_ok, r_cap0, r_cap, cpk_ok, arg0, arg1, arg2, ltK_eq, gtK_eq, kAt0, kAt1, kAt2, c_lam, lmk_ok, lmj_ok, r_thunk, thk_ok, thk_err, chk_t, chk_f, c_chain, c_raise1, err1_ok, MOd, put_0i, put_0o, put_s, itk_l, itk_t, c_items, r_app, r_isL, c_fld, c_prop, prk_ok, okD_ok, c_meth, c_methK, c_makeN, c_statK, c_tupk, tupl_l, c_zipP, zpk_ok, c_enumP, enk_ok, c_comp2, zip6, enum6, Bool.false_eq_true, r6, mv, w0, w1, w2, w3, w4, w5]
    · simp (implicitDefEqProofs := false) (maxSteps := 100000000) (disch := omega) only [c_bind, bnd_ok, bnd_err, r_pure, r_c, ifb_t, ifb_f, ifk_ok, c_eif, c_if, c_or, c_and, toB_ok, c_asB, ntk_ok, c_not, ntv_ok, c_vnot, ifv_ok, c_vand, c_vor, opk_ok, r_opt, c_bin, nowk_im, nowk_ow, nowk_io, c_itemN, c_binN, c_acons, vark_im, vark_ow, c_var, c_call0, callk_ok, callk_err, r_call1, r_call2, r_call3, c_callK, pick10, pick01, pick0,
      ownk_ow, ownk_io, rok_ok, c_callO, tabk_s, c_tab, seqk_nx, seqk_ret, seqk_brk, seqk_cnt, seqk_err, c_seq, r_nx, c_ret, c_drop, somek_ok, c_asg, r_btup2, r_btup3, obk_ok, r_bcons, r_bnil, c_for, r_loop0, r_loop, lp1_ok, lp2_nx, lp2_cnt, lp2_brk, lp2_ret, mutk_ok, c_mut, setk_ok, lk_ok, c_setI, olk_ok, c_rng1, runk_ret, runk_nx, runk_err, r_run, runok_ret, r_runO,
      eqI, neI, neB, eqB, catI, subI, gtI, ltI, leI, geI, modI, ngk_ok, c_neg, intI, ixt20, ixt21, ixt30, ixt31, ixt32, rng_6, rng_9, b_eqT, b_eqF, b_ltT, b_ltF, b_leT, b_leF, r_name, r_mkT, r_mkL, c_own, LIM_eq,
      List.getElem?_cons_succ, List.getElem?_cons_zero, List.set_cons_succ, List.set_cons_zero, List.length_cons, List.length_nil, List.map_cons, List.map_nil, List.replicate_succ, List.replicate_zero, List.cons_append, List.nil_append, Nat.reduceAdd, Nat.reduceSub, Nat.reduceLT, Nat.reduceEqDiff, Nat.reduceLeDiff, if_true, ite_true, ite_false, ↓reduceIte, true_and, and_true, and_self, Bool.not_true, Bool.not_false, beq_self_eq_true, Int.reduceLT, Int.reduceBEq, Int.reduceMod, Int.reduceAdd, Int.reduceSub, Int.reduceNeg, Int.reduceLE, decide_true, decide_false, r_lc0, r_lc, lc1_ok, lc2_f, lc2_t, lc3_ok, c_comp, c_scomp, wipe0, wipe1, c_key, kyk_l, kyj_ok, kyi_ok, r_keys0, r_keys, kok_ok, r_cap0, r_cap, cpk_ok, arg0, arg1, arg2, ltK_eq, gtK_eq, kAt0, kAt1, kAt2, c_lam, lmk_ok, lmj_ok, r_thunk, thk_ok, thk_err, chk_t, chk_f, c_chain, c_raise1, err1_ok, MOd, put_0i, put_0o, put_s, itk_l, itk_t, c_items, r_app, r_isL, c_fld, c_prop, prk_ok, okD_ok, c_meth, c_methK, c_makeN, c_statK, c_tupk, tupl_l, c_zipP, zpk_ok, c_enumP, enk_ok, c_comp2, zip6, enum6, Bool.false_eq_true, r6, mv, w0, w1, w2, w3, w4, w5]
  · have z1 : (pick == 1) = false := beq_false_of_ne h1
    by_cases h3 : 3 ≤ pick
    · obtain ⟨A, B, C, D', E, F, l', e1, n1, b1⟩ := nine_ok l hl 6 7 5 6 4 7 s0 (.im (.int pick)) (.im (.int mode)) (.im (.int n)) (.im (P2 x y)) x6 .no
      refine ⟨A, B, C, D', E, F, l', x6, _, ?_, h6, .inl rfl, n1, b1.mid⟩
      clear hx hy hl b1 hb h6
      simp (implicitDefEqProofs := false) (maxSteps := 100000000) (disch := omega) only [c_bind, bnd_ok, bnd_err, r_pure, r_c, ifb_t, ifb_f, ifk_ok, c_eif, c_if, c_or, c_and, toB_ok, c_asB, ntk_ok, c_not, ntv_ok, c_vnot, ifv_ok, c_vand, c_vor, opk_ok, r_opt, c_bin, nowk_im, nowk_ow, nowk_io, c_itemN, c_binN, c_acons, vark_im, vark_ow, c_var, c_call0, callk_ok, callk_err, r_call1, r_call2, r_call3, c_callK, pick10, pick01, pick0,
      ownk_ow, ownk_io, rok_ok, c_callO, tabk_s, c_tab, seqk_nx, seqk_ret, seqk_brk, seqk_cnt, seqk_err, c_seq, r_nx, c_ret, c_drop, somek_ok, c_asg, r_btup2, r_btup3, obk_ok, r_bcons, r_bnil, c_for, r_loop0, r_loop, lp1_ok, lp2_nx, lp2_cnt, lp2_brk, lp2_ret, mutk_ok, c_mut, setk_ok, lk_ok, c_setI, olk_ok, c_rng1, runk_ret, runk_nx, runk_err, r_run, runok_ret, r_runO,
      eqI, neI, neB, eqB, catI, subI, gtI, ltI, leI, geI, modI, ngk_ok, c_neg, intI, ixt20, ixt21, ixt30, ixt31, ixt32, rng_6, rng_9, b_eqT, b_eqF, b_ltT, b_ltF, b_leT, b_leF, r_name, r_mkT, r_mkL, c_own, LIM_eq,
      List.getElem?_cons_succ, List.getElem?_cons_zero, List.set_cons_succ, List.set_cons_zero, List.length_cons, List.length_nil, List.map_cons, List.map_nil, List.replicate_succ, List.replicate_zero, List.cons_append, List.nil_append, Nat.reduceAdd, Nat.reduceSub, Nat.reduceLT, Nat.reduceEqDiff, Nat.reduceLeDiff, if_true, ite_true, ite_false, ↓reduceIte, true_and, and_true, and_self, Bool.not_true, Bool.not_false, beq_self_eq_true, Int.reduceLT, Int.reduceBEq, Int.reduceMod, Int.reduceAdd, Int.reduceSub, Int.reduceNeg, Int.reduceLE, decide_true, decide_false, r_lc0, r_lc, lc1_ok, lc2_f, lc2_t, lc3_ok, c_comp, c_scomp, wipe0, wipe1, c_key, kyk_l, kyj_ok, kyi_ok, r_keys0, r_keys, kok_ok, r_cap0, r_cap, cpk_ok, arg0, arg1, arg2, ltK_eq, gtK_eq, kAt0, kAt1, kAt2, c_lam, lmk_ok, lmj_ok, r_thunk, thk_ok, thk_err, chk_t, chk_f, c_chain, c_raise1, err1_ok, MOd, put_0i, put_0o, put_s, itk_l, itk_t, c_items, r_app, r_isL, c_fld, c_prop, prk_ok, okD_ok, c_meth, c_methK, c_makeN, c_statK, c_tupk, tupl_l, c_zipP, zpk_ok, c_enumP, enk_ok, c_comp2, zip6, enum6, Bool.false_eq_true, r6, e1, z1]
    · obtain ⟨A, B, C, D', E, F, l', e1, n1, b1⟩ := cooked_ok l hl 2
      refine ⟨A, B, C, D', E, F, l', x6, _, ?_, h6, .inr rfl, n1, b1.mid⟩
      clear hx hy hl b1 hb h6
      simp (implicitDefEqProofs := false) (maxSteps := 100000000) (disch := omega) only [c_bind, bnd_ok, bnd_err, r_pure, r_c, ifb_t, ifb_f, ifk_ok, c_eif, c_if, c_or, c_and, toB_ok, c_asB, ntk_ok, c_not, ntv_ok, c_vnot, ifv_ok, c_vand, c_vor, opk_ok, r_opt, c_bin, nowk_im, nowk_ow, nowk_io, c_itemN, c_binN, c_acons, vark_im, vark_ow, c_var, c_call0, callk_ok, callk_err, r_call1, r_call2, r_call3, c_callK, pick10, pick01, pick0,
      ownk_ow, ownk_io, rok_ok, c_callO, tabk_s, c_tab, seqk_nx, seqk_ret, seqk_brk, seqk_cnt, seqk_err, c_seq, r_nx, c_ret, c_drop, somek_ok, c_asg, r_btup2, r_btup3, obk_ok, r_bcons, r_bnil, c_for, r_loop0, r_loop, lp1_ok, lp2_nx, lp2_cnt, lp2_brk, lp2_ret, mutk_ok, c_mut, setk_ok, lk_ok, c_setI, olk_ok, c_rng1, runk_ret, runk_nx, runk_err, r_run, runok_ret, r_runO,
      eqI, neI, neB, eqB, catI, subI, gtI, ltI, leI, geI, modI, ngk_ok, c_neg, intI, ixt20, ixt21, ixt30, ixt31, ixt32, rng_6, rng_9, b_eqT, b_eqF, b_ltT, b_ltF, b_leT, b_leF, r_name, r_mkT, r_mkL, c_own, LIM_eq,
      List.getElem?_cons_succ, List.getElem?_cons_zero, List.set_cons_succ, List.set_cons_zero, List.length_cons, List.length_nil, List.map_cons, List.map_nil, List.replicate_succ, List.replicate_zero, List.cons_append, List.nil_append, Nat.reduceAdd, Nat.reduceSub, Nat.reduceLT, Nat.reduceEqDiff, Nat.reduceLeDiff, if_true, ite_true, ite_false, ↓reduceIte, true_and, and_true, and_self, Bool.not_true, Bool.not_false, beq_self_eq_true, Int.reduceLT, Int.reduceBEq, Int.reduceMod, Int.reduceAdd, Int.reduceSub, Int.reduceNeg, Int.reduceLE, decide_true, decide_false, r_lc0, r_lc, lc1_ok, lc2_f, lc2_t, lc3_ok, c_comp, c_scomp, wipe0, wipe1, c_key, kyk_l, kyj_ok, kyi_ok, r_keys0, r_keys, kok_ok, r_cap0, r_cap, cpk_ok, arg0, arg1, arg2, ltK_eq, gtK_eq, kAt0, kAt1, kAt2, c_lam, lmk_ok, lmj_ok, r_thunk, thk_ok, thk_err, chk_t, chk_f, c_chain, c_raise1, err1_ok, MOd, put_0i, put_0o, put_s, itk_l, itk_t, c_items, r_app, r_isL, c_fld, c_prop, prk_ok, okD_ok, c_meth, c_methK, c_makeN, c_statK, c_tupk, tupl_l, c_zipP, zpk_ok, c_enumP, enk_ok, c_comp2, zip6, enum6, Bool.false_eq_true, r6, e1, z1]
end
end T
set_option Elab.async false
set_option linter.all false
set_option maxRecDepth 100000
set_option maxHeartbeats 8000000
namespace T
open PySem PySem.Spec PyProof.Rows L2 LamX PL
variable [Tbls]
noncomputable def glaw (sR sS : S) : S := (sSeq (sComp 1 (items (M.bind (eVar 0) fun d => opt (dTake 63 d))) (bName 8) (M.pure true) (eIf (asB (eBin dGe (eVar 8) (eC (.int 0)))) (eVar 8) (eBin dSub (dNeg (eVar 8)) (eC (.int 1)))) [8])
    (sSeq (sAsg (eCallO 1 1 m_u_law_draw (aCons (eC (.int 5)) (M.pure []))) (bName 2))
    (sSeq (sAsg (eCallO 1 1 m_u_law_draw (aCons (eC (.int 2)) (M.pure []))) (bName 3))
    (sSeq (sAsg (eBin dCat (eC (.int 1)) (eCallO 1 1 m_u_law_draw (aCons (eBin dIx (M.bind (aCons (eC (.int 3)) (aCons (eBin dPow (eC (.int 10)) (eC (.int 30))) (M.pure []))) mkL) (eVar 3)) (M.pure [])))) (bName 4))
    (sSeq (sAsg (M.bind (aCons (eCallO 1 2 m_u_law_number (aCons (eVar 3) (aCons (eC (.int 1)) (M.pure [])))) (aCons (eCallO 1 2 m_u_law_number (aCons (eVar 3) (aCons (eC (.int 6)) (M.pure [])))) (M.pure []))) mkT) (bName 5))
    (sSeq sR
    (sSeq sS
    (sSeq (sIf (bNot (asB (M.bind (aCons (eVar 6) (aCons (eVar 7) (aCons (eVar 5) (aCons (eVar 4) (M.pure []))))) (callN 4 m_u_law_mixed_fits)))) (sSeq (sRet (eC (.bl false)))
    sNx) sNx)
    (sSeq (sIf (bNot (asB (M.bind (aCons (eVar 7) (aCons (eVar 6) (aCons (eVar 5) (aCons (dNeg (eVar 4)) (M.pure []))))) (callN 4 m_u_law_mixed_fits)))) (sSeq (sRet (eC (.bl false)))
    sNx) sNx)
    (sSeq (sRet (vAnd (M.bind (aCons (eVar 6) (aCons (eVar 7) (M.pure []))) (callN 2 m_u_law_pair_fits)) (vAnd (M.bind (aCons (eVar 7) (aCons (eVar 6) (M.pure []))) (callN 2 m_u_law_pair_fits)) (M.bind (aCons (eVar 6) (aCons (eVar 6) (M.pure []))) (callN 2 m_u_law_pair_fits)))))
    sNx))))))))))
theorem r_call4 {δ : En} {d d1 d2 d3 : D} {m : List D → RR} : callN 4 m [d, d1, d2, d3] δ = callk (m [d, d1, d2, d3]) δ := r_callF
theorem glaw_eq : g_law = glaw stR stS := rfl
theorem law_true (ns : List Int) (h : ns.length ≤ 63) : m_law [.scr ns] = .ok (.bl true) := by
  have tk : dTake 63 (.scr ns) = some (.lst (ns.map D.int)) := by
    have : dTake 63 (.scr ns) = some (.lst ((ns.take 63).map D.int)) := by kernel_rfl
    rw [this, List.take_of_length_le h]
  have pk := pot_ok ns h
  have q30 := p30
  obtain ⟨pick, l1, e1, k0, k5, n1⟩ := draw_ok (ns.map nat1) (nat1_nn ns) 5 (by decide) (by decide)
  obtain ⟨mode, l2, e2, m0, m2, n2⟩ := draw_ok l1 n1 2 (by decide) (by decide)
  obtain ⟨many, em, y0, y1, lg⟩ : ∃ many : Int, dIx (.lst [.int 3, .int 1000000000000000000000000000000]) (.int mode) = some (.int many) ∧ 0 < many ∧ many ≤ 1000000000000000000000000000000 ∧ (decide (0 < many) && decide (many.natAbs.log2 < 9000)) = true := by
    have : mode = 0 ∨ mode = 1 := by omega
    rcases this with rfl | rfl
    · exact ⟨3, by kernel_rfl, by decide, by decide, by decide⟩
    · exact ⟨1000000000000000000000000000000, by kernel_rfl, by decide, by decide, by decide⟩
  obtain ⟨n', l3, e3, z0, z1, n3⟩ := draw_ok l2 n2 many y0 lg
  obtain ⟨x, l4, e4, n4, x0, x1⟩ := number_ok l3 n3 mode m0 (by omega) 1
  obtain ⟨y, l5, e5, n5, y2, y3⟩ := number_ok l4 n4 mode m0 (by omega) 6
  obtain ⟨a, b, c, d, e, f, l6, x6, e6, h6, n6, b6, c6⟩ := stR_ok (pick := pick) (mode := mode) (n := 1 + n') (s0 := .im (.scr ns)) n5 ⟨x0, x1⟩ ⟨y2, y3⟩ (by omega)
  obtain ⟨A, B, C, D', E, F, l7, x6', x7, e7, h6', h7, n7, b7⟩ := stS_ok (pick := pick) (mode := mode) (n := 1 + n') (s0 := .im (.scr ns)) n6 ⟨x0, x1⟩ ⟨y2, y3⟩ (by omega) h6 c6
  have hx : x.natAbs ≤ MID := Nat.le_trans (show x.natAbs ≤ 10 ^ 39 by omega) (by decide +kernel)
  have hy : y.natAbs ≤ MID := Nat.le_trans (show y.natAbs ≤ 10 ^ 39 by omega) (by decide +kernel)
  have hn : (1 + n').natAbs ≤ MID := Nat.le_trans (show (1 + n').natAbs ≤ 10 ^ 39 by omega) (by decide +kernel)
  have hn' : (-(1 + n')).natAbs ≤ MID := Nat.le_trans (show (-(1 + n')).natAbs ≤ 10 ^ 39 by omega) (by decide +kernel)
  have f1 := mixed_fits_ok b6 b7 hx hy hn
  have f2 := mixed_fits_ok b7 b6 hx hy hn'
  have f3 := pair_fits_ok b6.up b7.up
  have f4 := pair_fits_ok b7.up b6.up
  have f5 := pair_fits_ok b6.up b6.up
  unfold m_law
  rw [r_run, glaw_eq]
  generalize stR = sR at *
  generalize stS = sS at *
  unfold glaw
  clear n1 n2 n3 n4 n5 n6 n7 b6 b7 hx hy hn hn' c6 h6 lg
  rcases h6' with rfl | rfl <;> rcases h7 with rfl | rfl
  · simp (implicitDefEqProofs := false) (maxSteps := 100000000) (disch := omega) only [c_bind, bnd_ok, bnd_err, r_pure, r_c, ifb_t, ifb_f, ifk_ok, c_eif, c_if, c_or, c_and, toB_ok, c_asB, ntk_ok, c_not, ntv_ok, c_vnot, ifv_ok, c_vand, c_vor, opk_ok, r_opt, c_bin, nowk_im, nowk_ow, nowk_io, c_itemN, c_binN, c_acons, vark_im, vark_ow, c_var, c_call0, callk_ok, callk_err, r_call1, r_call2, r_call3, c_callK, pick10, pick01, pick0,
      ownk_ow, ownk_io, rok_ok, c_callO, tabk_s, c_tab, seqk_nx, seqk_ret, seqk_brk, seqk_cnt, seqk_err, c_seq, r_nx, c_ret, c_drop, somek_ok, c_asg, r_btup2, r_btup3, obk_ok, r_bcons, r_bnil, c_for, r_loop0, r_loop, lp1_ok, lp2_nx, lp2_cnt, lp2_brk, lp2_ret, mutk_ok, c_mut, setk_ok, lk_ok, c_setI, olk_ok, c_rng1, runk_ret, runk_nx, runk_err, r_run, runok_ret, r_runO,
      eqI, neI, neB, eqB, catI, subI, gtI, ltI, leI, geI, modI, ngk_ok, c_neg, intI, ixt20, ixt21, ixt30, ixt31, ixt32, rng_6, rng_9, b_eqT, b_eqF, b_ltT, b_ltF, b_leT, b_leF, r_name, r_mkT, r_mkL, c_own, LIM_eq,
      List.getElem?_cons_succ, List.getElem?_cons_zero, List.set_cons_succ, List.set_cons_zero, List.length_cons, List.length_nil, List.map_cons, List.map_nil, List.replicate_succ, List.replicate_zero, List.cons_append, List.nil_append, Nat.reduceAdd, Nat.reduceSub, Nat.reduceLT, Nat.reduceEqDiff, Nat.reduceLeDiff, if_true, ite_true, ite_false, ↓reduceIte, true_and, and_true, and_self, Bool.not_true, Bool.not_false, beq_self_eq_true, Int.reduceLT, Int.reduceBEq, Int.reduceMod, Int.reduceAdd, Int.reduceSub, Int.reduceNeg, Int.reduceLE, decide_true, decide_false, r_lc0, r_lc, lc1_ok, lc2_f, lc2_t, lc3_ok, c_comp, c_scomp, wipe0, wipe1, c_key, kyk_l, kyj_ok, kyi_ok, r_keys0, r_keys, kok_ok, r_cap0, r_cap, cpk_ok, arg0, arg1, arg2, ltK_eq, gtK_eq, kAt0, kAt1, kAt2, c_lam, lmk_ok, lmj_ok, r_thunk, thk_ok, thk_err, chk_t, chk_f, c_chain, c_raise1, err1_ok, MOd, put_0i, put_0o, put_s, itk_l, itk_t, c_items, r_app, r_isL, c_fld, c_prop, prk_ok, okD_ok, c_meth, c_methK, c_makeN, c_statK, c_tupk, tupl_l, c_zipP, zpk_ok, c_enumP, enk_ok, c_comp2, zip6, enum6, Bool.false_eq_true, tk, pk, q30, e1, e2, em, e3, e4, e5, e6, e7, f1, f2, f3, f4, f5, r_call4]
  · simp (implicitDefEqProofs := false) (maxSteps := 100000000) (disch := omega) only [c_bind, bnd_ok, bnd_err, r_pure, r_c, ifb_t, ifb_f, ifk_ok, c_eif, c_if, c_or, c_and, toB_ok, c_asB, ntk_ok, c_not, ntv_ok, c_vnot, ifv_ok, c_vand, c_vor, opk_ok, r_opt, c_bin, nowk_im, nowk_ow, nowk_io, c_itemN, c_binN, c_acons, vark_im, vark_ow, c_var, c_call0, callk_ok, callk_err, r_call1, r_call2, r_call3, c_callK, pick10, pick01, pick0,
      ownk_ow, ownk_io, rok_ok, c_callO, tabk_s, c_tab, seqk_nx, seqk_ret, seqk_brk, seqk_cnt, seqk_err, c_seq, r_nx, c_ret, c_drop, somek_ok, c_asg, r_btup2, r_btup3, obk_ok, r_bcons, r_bnil, c_for, r_loop0, r_loop, lp1_ok, lp2_nx, lp2_cnt, lp2_brk, lp2_ret, mutk_ok, c_mut, setk_ok, lk_ok, c_setI, olk_ok, c_rng1, runk_ret, runk_nx, runk_err, r_run, runok_ret, r_runO,
      eqI, neI, neB, eqB, catI, subI, gtI, ltI, leI, geI, modI, ngk_ok, c_neg, intI, ixt20, ixt21, ixt30, ixt31, ixt32, rng_6, rng_9, b_eqT, b_eqF, b_ltT, b_ltF, b_leT, b_leF, r_name, r_mkT, r_mkL, c_own, LIM_eq,
      List.getElem?_cons_succ, List.getElem?_cons_zero, List.set_cons_succ, List.set_cons_zero, List.length_cons, List.length_nil, List.map_cons, List.map_nil, List.replicate_succ, List.replicate_zero, List.cons_append, List.nil_append, Nat.reduceAdd, Nat.reduceSub, Nat.reduceLT, Nat.reduceEqDiff, Nat.reduceLeDiff, if_true, ite_true, ite_false, ↓reduceIte, true_and, and_true, and_self, Bool.not_true, Bool.not_false, beq_self_eq_true, Int.reduceLT, Int.reduceBEq, Int.reduceMod, Int.reduceAdd, Int.reduceSub, Int.reduceNeg, Int.reduceLE, decide_true, decide_false, r_lc0, r_lc, lc1_ok, lc2_f, lc2_t, lc3_ok, c_comp, c_scomp, wipe0, wipe1, c_key, kyk_l, kyj_ok, kyi_ok, r_keys0, r_keys, kok_ok, r_cap0, r_cap, cpk_ok, arg0, arg1, arg2, ltK_eq, gtK_eq, kAt0, kAt1, kAt2, c_lam, lmk_ok, lmj_ok, r_thunk, thk_ok, thk_err, chk_t, chk_f, c_chain, c_raise1, err1_ok, MOd, put_0i, put_0o, put_s, itk_l, itk_t, c_items, r_app, r_isL, c_fld, c_prop, prk_ok, okD_ok, c_meth, c_methK, c_makeN, c_statK, c_tupk, tupl_l, c_zipP, zpk_ok, c_enumP, enk_ok, c_comp2, zip6, enum6, Bool.false_eq_true, tk, pk, q30, e1, e2, em, e3, e4, e5, e6, e7, f1, f2, f3, f4, f5, r_call4]
  · simp (implicitDefEqProofs := false) (maxSteps := 100000000) (disch := omega) only [c_bind, bnd_ok, bnd_err, r_pure, r_c, ifb_t, ifb_f, ifk_ok, c_eif, c_if, c_or, c_and, toB_ok, c_asB, ntk_ok, c_not, ntv_ok, c_vnot, ifv_ok, c_vand, c_vor, opk_ok, r_opt, c_bin, nowk_im, nowk_ow, nowk_io, c_itemN, c_binN, c_acons, vark_im, vark_ow, c_var, c_call0, callk_ok, callk_err, r_call1, r_call2, r_call3, c_callK, pick10, pick01, pick0,
      ownk_ow, ownk_io, rok_ok, c_callO, tabk_s, c_tab, seqk_nx, seqk_ret, seqk_brk, seqk_cnt, seqk_err, c_seq, r_nx, c_ret, c_drop, somek_ok, c_asg, r_btup2, r_btup3, obk_ok, r_bcons, r_bnil, c_for, r_loop0, r_loop, lp1_ok, lp2_nx, lp2_cnt, lp2_brk, lp2_ret, mutk_ok, c_mut, setk_ok, lk_ok, c_setI, olk_ok, c_rng1, runk_ret, runk_nx, runk_err, r_run, runok_ret, r_runO,
      eqI, neI, neB, eqB, catI, subI, gtI, ltI, leI, geI, modI, ngk_ok, c_neg, intI, ixt20, ixt21, ixt30, ixt31, ixt32, rng_6, rng_9, b_eqT, b_eqF, b_ltT, b_ltF, b_leT, b_leF, r_name, r_mkT, r_mkL, c_own, LIM_eq,
      List.getElem?_cons_succ, List.getElem?_cons_zero, List.set_cons_succ, List.set_cons_zero, List.length_cons, List.length_nil, List.map_cons, List.map_nil, List.replicate_succ, List.replicate_zero, List.cons_append, List.nil_append, Nat.reduceAdd, Nat.reduceSub, Nat.reduceLT, Nat.reduceEqDiff, Nat.reduceLeDiff, if_true, ite_true, ite_false, ↓reduceIte, true_and, and_true, and_self, Bool.not_true, Bool.not_false, beq_self_eq_true, Int.reduceLT, Int.reduceBEq, Int.reduceMod, Int.reduceAdd, Int.reduceSub, Int.reduceNeg, Int.reduceLE, decide_true, decide_false, r_lc0, r_lc, lc1_ok, lc2_f, lc2_t, lc3_ok, c_comp, c_scomp, wipe0, wipe1, c_key, kyk_l, kyj_ok, kyi_ok, r_keys0, r_keys, kok_ok, r_cap0, r_cap, cpk_ok, arg0, arg1, arg2, ltK_eq, gtK_eq, kAt0, kAt1, kAt2, c_lam, lmk_ok, lmj_ok, r_thunk, thk_ok, thk_err, chk_t, chk_f, c_chain, c_raise1, err1_ok, MOd, put_0i, put_0o, put_s, itk_l, itk_t, c_items, r_app, r_isL, c_fld, c_prop, prk_ok, okD_ok, c_meth, c_methK, c_makeN, c_statK, c_tupk, tupl_l, c_zipP, zpk_ok, c_enumP, enk_ok, c_comp2, zip6, enum6, Bool.false_eq_true, tk, pk, q30, e1, e2, em, e3, e4, e5, e6, e7, f1, f2, f3, f4, f5, r_call4]
  · simp (implicitDefEqProofs := false) (maxSteps := 100000000) (disch := omega) only [c_bind, bnd_ok, bnd_err, r_pure, r_c, ifb_t, ifb_f, ifk_ok, c_eif, c_if, c_or, c_and, toB_ok, c_asB, ntk_ok, c_not, ntv_ok, c_vnot, ifv_ok, c_vand, c_vor, opk_ok, r_opt, c_bin, nowk_im, nowk_ow, nowk_io, c_itemN, c_binN, c_acons, vark_im, vark_ow, c_var, c_call0, callk_ok, callk_err, r_call1, r_call2, r_call3, c_callK, pick10, pick01, pick0,
      ownk_ow, ownk_io, rok_ok, c_callO, tabk_s, c_tab, seqk_nx, seqk_ret, seqk_brk, seqk_cnt, seqk_err, c_seq, r_nx, c_ret, c_drop, somek_ok, c_asg, r_btup2, r_btup3, obk_ok, r_bcons, r_bnil, c_for, r_loop0, r_loop, lp1_ok, lp2_nx, lp2_cnt, lp2_brk, lp2_ret, mutk_ok, c_mut, setk_ok, lk_ok, c_setI, olk_ok, c_rng1, runk_ret, runk_nx, runk_err, r_run, runok_ret, r_runO,
      eqI, neI, neB, eqB, catI, subI, gtI, ltI, leI, geI, modI, ngk_ok, c_neg, intI, ixt20, ixt21, ixt30, ixt31, ixt32, rng_6, rng_9, b_eqT, b_eqF, b_ltT, b_ltF, b_leT, b_leF, r_name, r_mkT, r_mkL, c_own, LIM_eq,
      List.getElem?_cons_succ, List.getElem?_cons_zero, List.set_cons_succ, List.set_cons_zero, List.length_cons, List.length_nil, List.map_cons, List.map_nil, List.replicate_succ, List.replicate_zero, List.cons_append, List.nil_append, Nat.reduceAdd, Nat.reduceSub, Nat.reduceLT, Nat.reduceEqDiff, Nat.reduceLeDiff, if_true, ite_true, ite_false, ↓reduceIte, true_and, and_true, and_self, Bool.not_true, Bool.not_false, beq_self_eq_true, Int.reduceLT, Int.reduceBEq, Int.reduceMod, Int.reduceAdd, Int.reduceSub, Int.reduceNeg, Int.reduceLE, decide_true, decide_false, r_lc0, r_lc, lc1_ok, lc2_f, lc2_t, lc3_ok, c_comp, c_scomp, wipe0, wipe1, c_key, kyk_l, kyj_ok, kyi_ok, r_keys0, r_keys, kok_ok, r_cap0, r_cap, cpk_ok, arg0, arg1, arg2, ltK_eq, gtK_eq, kAt0, kAt1, kAt2, c_lam, lmk_ok, lmj_ok, r_thunk, thk_ok, thk_err, chk_t, chk_f, c_chain, c_raise1, err1_ok, MOd, put_0i, put_0o, put_s, itk_l, itk_t, c_items, r_app, r_isL, c_fld, c_prop, prk_ok, okD_ok, c_meth, c_methK, c_makeN, c_statK, c_tupk, tupl_l, c_zipP, zpk_ok, c_enumP, enk_ok, c_comp2, zip6, enum6, Bool.false_eq_true, tk, pk, q30, e1, e2, em, e3, e4, e5, e6, e7, f1, f2, f3, f4, f5, r_call4]
end T
set_option Elab.async false
set_option linter.all false
set_option maxRecDepth 100000
set_option maxHeartbeats 0
namespace T
open PySem PySem.Spec PyProof.Rows L2 LamX PL He
abbrev R : PySem.W.OpenRow := PySem.W.OpenLaw.row PySem.Challenge.rw_sixviews_k07_mixed_numbers_and_rims
abbrev si_NotDrawn : Stmt := clsM (topS 6) 0
theorem si_sc_NotDrawn : FnScope [("self" : Str), "side"] [("self" : Str), "side"] (defScope si_NotDrawn) := ⟨rfl, rfl, rfl, by decide +kernel, rfl, by decide +kernel, by decide +kernel⟩
theorem xcls_NotDrawn [Tbls] {P : Program} {w : World} {K : PySem.W.Frag} {mg : Str → Option Value} {base : Heap} {C fI : Addr} {fd : FuncData} (gC : mg "NotDrawn" = some (.ref C)) (T : OexC K C) (hno : PySem.W.findIn K (.ref C) "side" = some none) (h1 : PySem.W.findIn K (.ref C) "__init__" = some (some (.ref fI))) (h2 : PySem.W.typeIn K (.ref fI) = some (.type "function")) (F : Fun K "__init__" "NotDrawn.__init__" si_NotDrawn fI fd) : ∃ C, XCls P w K mg base "NotDrawn" "side" C :=
  ⟨C, gC, T, fI, fd, h1, h2, init1 T hno F si_sc_NotDrawn (fun X hs hN => pss_cons (ps_ost (pv 0 (hN := by rw [hN]; rfl) (hv := by rw [hs]; exact Or.inl rfl)) (pv 1 (hN := by rw [hN]; rfl) (hv := by rw [hs]; exact Or.inl rfl))) pss_nil), F.binds fun _ _ _ _ _ _ us hl => match us, hl with | [_, _], _ => rfl⟩
def dd_u_law_draw : DefY := ⟨fun K => He.ga K "_law_draw", "_law_draw", "_law_draw", defArgs s_u_law_draw, defBody s_u_law_draw, defScope s_u_law_draw, [], []⟩
def dd_u_law_number : DefY := ⟨fun K => He.ga K "_law_number", "_law_number", "_law_number", defArgs s_u_law_number, defBody s_u_law_number, defScope s_u_law_number, [], []⟩
def dd_u_law_line : DefY := ⟨fun K => He.ga K "_law_line", "_law_line", "_law_line", defArgs s_u_law_line, defBody s_u_law_line, defScope s_u_law_line, [], []⟩
def dd_u_law_moved : DefY := ⟨fun K => He.ga K "_law_moved", "_law_moved", "_law_moved", defArgs s_u_law_moved, defBody s_u_law_moved, defScope s_u_law_moved, [], []⟩
def dd_Pen_uu_init__ : DefY := ⟨fun K => He.ma K (He.ga K "Pen") "__init__", "__init__", "Pen.__init__", defArgs s_Pen_uu_init__, defBody s_Pen_uu_init__, defScope s_Pen_uu_init__, [], []⟩
def dd_u_law_sides : DefY := ⟨fun K => He.ga K "_law_sides", "_law_sides", "_law_sides", defArgs s_u_law_sides, defBody s_u_law_sides, defScope s_u_law_sides, [], []⟩
def dd_u_law_mixed : DefY := ⟨fun K => He.ga K "_law_mixed", "_law_mixed", "_law_mixed", defArgs s_u_law_mixed, defBody s_u_law_mixed, defScope s_u_law_mixed, [], []⟩
def dd_u_law_same : DefY := ⟨fun K => He.ga K "_law_same", "_law_same", "_law_same", defArgs s_u_law_same, defBody s_u_law_same, defScope s_u_law_same, [], []⟩
def dd_Pen_sides : DefY := ⟨fun K => He.ma K (He.ga K "Pen") "sides", "sides", "Pen.sides", defArgs s_Pen_sides, defBody s_Pen_sides, defScope s_Pen_sides, [], []⟩
def dd_mixed : DefY := ⟨fun K => He.ga K "mixed", "mixed", "mixed", defArgs s_mixed, defBody s_mixed, defScope s_mixed, [], []⟩
def dd_Pen_rim : DefY := ⟨fun K => recFn K (He.ma K (He.ga K "Pen") "rim") "property", "rim", "Pen.rim", defArgs s_Pen_rim, defBody s_Pen_rim, defScope s_Pen_rim, [], []⟩
def dd_Pen_even : DefY := ⟨fun K => recFn K (He.ma K (He.ga K "Pen") "even") "staticmethod", "even", "Pen.even", defArgs s_Pen_even, defBody s_Pen_even, defScope s_Pen_even, [], []⟩
def dd_u_law_mixed_fits : DefY := ⟨fun K => He.ga K "_law_mixed_fits", "_law_mixed_fits", "_law_mixed_fits", defArgs s_u_law_mixed_fits, defBody s_u_law_mixed_fits, defScope s_u_law_mixed_fits, [], []⟩
def dd_check_drawn : DefY := ⟨fun K => He.ga K "check_drawn", "check_drawn", "check_drawn", defArgs s_check_drawn, defBody s_check_drawn, defScope s_check_drawn, [], []⟩
def dd_Pen_area : DefY := ⟨fun K => recFn K (He.ma K (He.ga K "Pen") "area") "property", "area", "Pen.area", defArgs s_Pen_area, defBody s_Pen_area, defScope s_Pen_area, [], []⟩
def dd_spare : DefY := ⟨fun K => He.ga K "spare", "spare", "spare", defArgs s_spare, defBody s_spare, defScope s_spare, [], []⟩
def dd_u_law_ratio : DefY := ⟨fun K => He.ga K "_law_ratio", "_law_ratio", "_law_ratio", defArgs s_u_law_ratio, defBody s_u_law_ratio, defScope s_u_law_ratio, [], []⟩
def dd_same_ratio : DefY := ⟨fun K => He.ga K "same_ratio", "same_ratio", "same_ratio", defArgs s_same_ratio, defBody s_same_ratio, defScope s_same_ratio, [], []⟩
def dd_u_law_drawn_fits : DefY := ⟨fun K => He.ga K "_law_drawn_fits", "_law_drawn_fits", "_law_drawn_fits", defArgs s_u_law_drawn_fits, defBody s_u_law_drawn_fits, defScope s_u_law_drawn_fits, [], []⟩
def dd_u_law_refusal : DefY := ⟨fun K => He.ga K "_law_refusal", "_law_refusal", "_law_refusal", defArgs s_u_law_refusal, defBody s_u_law_refusal, defScope s_u_law_refusal, [], []⟩
def dd_u_law_refused : DefY := ⟨fun K => He.ga K "_law_refused", "_law_refused", "_law_refused", defArgs s_u_law_refused, defBody s_u_law_refused, defScope s_u_law_refused, [], []⟩
def dd_u_law_pair_fits : DefY := ⟨fun K => He.ga K "_law_pair_fits", "_law_pair_fits", "_law_pair_fits", defArgs s_u_law_pair_fits, defBody s_u_law_pair_fits, defScope s_u_law_pair_fits, [], []⟩
def dd_u_law_corners : DefY := ⟨fun K => He.ga K "_law_corners", "_law_corners", "_law_corners", defArgs s_u_law_corners, defBody s_u_law_corners, defScope s_u_law_corners, [], []⟩
def dd_u_law_unit : DefY := ⟨fun K => He.ga K "_law_unit", "_law_unit", "_law_unit", defArgs s_u_law_unit, defBody s_u_law_unit, defScope s_u_law_unit, [], []⟩
def dd_u_law_cooked : DefY := ⟨fun K => He.ga K "_law_cooked", "_law_cooked", "_law_cooked", defArgs s_u_law_cooked, defBody s_u_law_cooked, defScope s_u_law_cooked, [], []⟩
def dd_law : DefY := ⟨fun K => He.ga K "law", "law", "law", defArgs s_law, defBody s_law, defScope s_law, [], []⟩
def ddi_NotDrawn : DefY := ⟨fun K => He.ma K (He.ga K "NotDrawn") "__init__", "__init__", "NotDrawn.__init__", defArgs si_NotDrawn, defBody si_NotDrawn, defScope si_NotDrawn, [], []⟩
def fn : List DefY := [dd_u_law_draw, dd_u_law_number, dd_u_law_line, dd_u_law_moved, dd_Pen_uu_init__, dd_u_law_sides, dd_u_law_mixed, dd_u_law_same, dd_Pen_sides, dd_mixed, dd_Pen_rim, dd_Pen_even, dd_u_law_mixed_fits, dd_check_drawn, dd_Pen_area, dd_spare, dd_u_law_ratio, dd_same_ratio, dd_u_law_drawn_fits, dd_u_law_refusal, dd_u_law_refused, dd_u_law_pair_fits, dd_u_law_corners, dd_u_law_unit, dd_u_law_cooked, dd_law, ddi_NotDrawn]
def fa1 : List He.Fa := [.glo "_law_draw", .glo "_law_number", .glo "_law_line", .glo "_law_moved", .glo "_law_sides", .glo "_law_mixed", .glo "_law_same", .glo "mixed", .glo "_law_mixed_fits", .glo "check_drawn", .glo "spare", .glo "_law_ratio", .glo "same_ratio", .glo "_law_drawn_fits", .glo "_law_refusal", .glo "_law_refused", .glo "_law_pair_fits", .glo "_law_corners", .glo "_law_unit", .glo "_law_cooked", .glo "law", .glo "Pen", .cls "Pen", .mkr "Pen", .noat "Pen" "reaches", .meth "Pen" "sides", .glo "NotDrawn", .glo "BadCount", .glo "Nowhere", .glo "DrawingError", .free "range", .free "int", .free "len", .free "tuple", .free "sum"]
def fa2 : List He.Fa := [.free "bool", .free "isinstance", .free "str", .free "list", .free "all", .free "zip", .free "enumerate", .free "min", .free "max", .free "ValueError", .meth "NotDrawn" "__init__"]
def fa : List He.Fa := fa1 ++ fa2
theorem glo_in : ∀ x ∈ XCs ++ XTs, He.Fa.glo x ∈ fa := (List.forall_mem_cons.mpr ⟨List.mem_of_getElem? (i := 26) rfl, (List.forall_mem_cons.mpr ⟨List.mem_of_getElem? (i := 26) rfl, (List.forall_mem_cons.mpr ⟨List.mem_of_getElem? (i := 27) rfl, (List.forall_mem_cons.mpr ⟨List.mem_of_getElem? (i := 28) rfl, (fun _ h => nomatch h)⟩)⟩)⟩)⟩)
theorem known_in (nm : Str) (h : known nm = true) : nm ∈ XCs := by
  simpa [known, XCs] using h
theorem cx_end {P : Program} {w : World} {H : Hp} {s : Shared} {e : Value} {s2 : Shared} (z : L2.CX P w [] H s (fun _ _ _ => False) e s2) : False := by
  obtain ⟨_, _, _, _, _, _, _, _, _, _, _, _, z⟩ := z
  exact z
def ts : List He.Tab := []
def tf : List He.Defn := [("_law_refused", none)]
def exs : List (PySem.W.Frag → Bool) := [(fun K => oexB (He.ga K "NotDrawn") K), (fun K => decide (PySem.W.findIn K (.ref (He.ga K "NotDrawn")) "side" = some none)), propB "Pen" "rim", propB "Pen" "area", statB "Pen" "even", xfB' XCs XTs XFs isaB, catB XCs "DrawingError", nodupB tf]
def ex (K : PySem.W.Frag) : Bool := exs.all fun g => g K
abbrev hk : PySem.W.Hook := hookY 5 fa fn ts tf ex
def ob (s : PySem.W.SharedT) : AlY := lookY 5 fa fn ts tf ex (HandSHeadRun.getT s)
theorem ob_eq (s : PySem.W.SharedT) : ob s = hk.obs s.abs := lookY_eq (HandSHeadRun.getT_eq s)
def names0 : List PySem.Str := ["_wall", "DrawingError", "BadView", "BadKind", "BadCount", "NotDrawn", "Nowhere", "KINDS", "_LINES", "_CORNERS", "check_view", "check_kind"]
def names1 : List PySem.Str := ["line_of", "corners_of", "Pen", "check_drawn", "mixed", "spare", "same_ratio", "_law_draw", "_law_number", "_law_same", "_law_line", "_law_corners"]
def names2 : List PySem.Str := ["_law_refusal", "_law_sides", "_law_unit", "_law_cooked", "_law_moved", "_law_mixed", "_law_ratio", "_law_mixed_fits", "_law_drawn_fits", "_law_refused", "_law_pair_fits"]
def names : List PySem.Str := names0 ++ names1 ++ names2
theorem run_f (w : World) : HandSHeadRun.RunEq R (PySem.W.view R.prog [40]) hk ob 20000 names (w.withFollow "special-get-raises" false) := by intro os; kernel_rfl
theorem run_t (w : World) : HandSHeadRun.RunEq R (PySem.W.view R.prog [40]) hk ob 20000 names (w.withFollow "special-get-raises" true) := by intro os; kernel_rfl
theorem run (w : World) : HandSHeadRun.RunEq R (PySem.W.view R.prog [40]) hk ob 20000 names w := PySem.W.byRow2 "special-get-raises" (P := fun w => HandSHeadRun.RunEq R (PySem.W.view R.prog [40]) hk ob 20000 names w) run_f run_t w
theorem facts {w : World} {K : PySem.W.Frag} {h : Heap} {mg : Str → Option Value} {f : Addr} (X : K.In h) (G : h.Ns mainGlobals mg) (hfa : mg ("law" : Str) = some (.ref f)) (c : SaysY fa fn ts tf ex w h K) : LawAtS PySem.Challenge.rw_sixviews_k07_mixed_numbers_and_rims w K (L2.CX (PySem.Challenge.rw_sixviews_k07_mixed_numbers_and_rims).prog w) 14 63 "_law_script" mg f h := by
  letI : Tbls := ⟨tbOf K tf, fun n => match mg n with | some (.ref a) => a | _ => 0⟩
  have cd := c.x.t.d
  have gg : ∀ i x, fa[i]? = some (He.Fa.glo x) → mg x = some (.ref (He.ga K x)) := fun i x hx => He.glo_ok X G (cd.fact i hx)
  have zz : ∀ i x, fa[i]? = some (He.Fa.free x) → mg x = none := fun i x hx => He.free_ok X G (cd.fact i hx)
  have cx : ∀ (i : Nat) (g : PySem.W.Frag → Bool), exs[i]? = some g → g K = true := fun i g hi => List.all_eq_true.mp c.x.more g (List.mem_of_getElem? hi)
  obtain ⟨fd_u_law_draw, FD_u_law_draw⟩ := c.def_ 0 (d := dd_u_law_draw) rfl
  have F_u_law_draw : Fun K "_law_draw" "_law_draw" s_u_law_draw (He.ga K "_law_draw") fd_u_law_draw := fun_of_D FD_u_law_draw
  have g_u_law_draw := gg 0 "_law_draw" rfl
  obtain ⟨fd_u_law_number, FD_u_law_number⟩ := c.def_ 1 (d := dd_u_law_number) rfl
  have F_u_law_number : Fun K "_law_number" "_law_number" s_u_law_number (He.ga K "_law_number") fd_u_law_number := fun_of_D FD_u_law_number
  have g_u_law_number := gg 1 "_law_number" rfl
  obtain ⟨fd_u_law_line, FD_u_law_line⟩ := c.def_ 2 (d := dd_u_law_line) rfl
  have F_u_law_line : Fun K "_law_line" "_law_line" s_u_law_line (He.ga K "_law_line") fd_u_law_line := fun_of_D FD_u_law_line
  have g_u_law_line := gg 2 "_law_line" rfl
  obtain ⟨fd_u_law_moved, FD_u_law_moved⟩ := c.def_ 3 (d := dd_u_law_moved) rfl
  have F_u_law_moved : Fun K "_law_moved" "_law_moved" s_u_law_moved (He.ga K "_law_moved") fd_u_law_moved := fun_of_D FD_u_law_moved
  have g_u_law_moved := gg 3 "_law_moved" rfl
  obtain ⟨fd_Pen_uu_init__, FD_Pen_uu_init__⟩ := c.def_ 4 (d := dd_Pen_uu_init__) rfl
  have FD_Pen_uu_init__ : FunD K "__init__" "Pen.__init__" (defArgs s_Pen_uu_init__) (defBody s_Pen_uu_init__) (defScope s_Pen_uu_init__) [] [] (He.ma K (He.ga K "Pen") "__init__") fd_Pen_uu_init__ := FD_Pen_uu_init__
  obtain ⟨fd_u_law_sides, FD_u_law_sides⟩ := c.def_ 5 (d := dd_u_law_sides) rfl
  have F_u_law_sides : Fun K "_law_sides" "_law_sides" s_u_law_sides (He.ga K "_law_sides") fd_u_law_sides := fun_of_D FD_u_law_sides
  have g_u_law_sides := gg 4 "_law_sides" rfl
  obtain ⟨fd_u_law_mixed, FD_u_law_mixed⟩ := c.def_ 6 (d := dd_u_law_mixed) rfl
  have F_u_law_mixed : Fun K "_law_mixed" "_law_mixed" s_u_law_mixed (He.ga K "_law_mixed") fd_u_law_mixed := fun_of_D FD_u_law_mixed
  have g_u_law_mixed := gg 5 "_law_mixed" rfl
  obtain ⟨fd_u_law_same, FD_u_law_same⟩ := c.def_ 7 (d := dd_u_law_same) rfl
  have F_u_law_same : Fun K "_law_same" "_law_same" s_u_law_same (He.ga K "_law_same") fd_u_law_same := fun_of_D FD_u_law_same
  have g_u_law_same := gg 6 "_law_same" rfl
  obtain ⟨fd_Pen_sides, FD_Pen_sides⟩ := c.def_ 8 (d := dd_Pen_sides) rfl
  have FD_Pen_sides : FunD K "sides" "Pen.sides" (defArgs s_Pen_sides) (defBody s_Pen_sides) (defScope s_Pen_sides) [] [] (He.ma K (He.ga K "Pen") "sides") fd_Pen_sides := FD_Pen_sides
  obtain ⟨fd_mixed, FD_mixed⟩ := c.def_ 9 (d := dd_mixed) rfl
  have F_mixed : Fun K "mixed" "mixed" s_mixed (He.ga K "mixed") fd_mixed := fun_of_D FD_mixed
  have g_mixed := gg 7 "mixed" rfl
  obtain ⟨fd_Pen_rim, FD_Pen_rim⟩ := c.def_ 10 (d := dd_Pen_rim) rfl
  have FD_Pen_rim : FunD K "rim" "Pen.rim" (defArgs s_Pen_rim) (defBody s_Pen_rim) (defScope s_Pen_rim) [] [] (recFn K (He.ma K (He.ga K "Pen") "rim") "property") fd_Pen_rim := FD_Pen_rim
  obtain ⟨fd_Pen_even, FD_Pen_even⟩ := c.def_ 11 (d := dd_Pen_even) rfl
  have FD_Pen_even : FunD K "even" "Pen.even" (defArgs s_Pen_even) (defBody s_Pen_even) (defScope s_Pen_even) [] [] (recFn K (He.ma K (He.ga K "Pen") "even") "staticmethod") fd_Pen_even := FD_Pen_even
  obtain ⟨fd_u_law_mixed_fits, FD_u_law_mixed_fits⟩ := c.def_ 12 (d := dd_u_law_mixed_fits) rfl
  have F_u_law_mixed_fits : Fun K "_law_mixed_fits" "_law_mixed_fits" s_u_law_mixed_fits (He.ga K "_law_mixed_fits") fd_u_law_mixed_fits := fun_of_D FD_u_law_mixed_fits
  have g_u_law_mixed_fits := gg 8 "_law_mixed_fits" rfl
  obtain ⟨fd_check_drawn, FD_check_drawn⟩ := c.def_ 13 (d := dd_check_drawn) rfl
  have F_check_drawn : Fun K "check_drawn" "check_drawn" s_check_drawn (He.ga K "check_drawn") fd_check_drawn := fun_of_D FD_check_drawn
  have g_check_drawn := gg 9 "check_drawn" rfl
  obtain ⟨fd_Pen_area, FD_Pen_area⟩ := c.def_ 14 (d := dd_Pen_area) rfl
  have FD_Pen_area : FunD K "area" "Pen.area" (defArgs s_Pen_area) (defBody s_Pen_area) (defScope s_Pen_area) [] [] (recFn K (He.ma K (He.ga K "Pen") "area") "property") fd_Pen_area := FD_Pen_area
  obtain ⟨fd_spare, FD_spare⟩ := c.def_ 15 (d := dd_spare) rfl
  have F_spare : Fun K "spare" "spare" s_spare (He.ga K "spare") fd_spare := fun_of_D FD_spare
  have g_spare := gg 10 "spare" rfl
  obtain ⟨fd_u_law_ratio, FD_u_law_ratio⟩ := c.def_ 16 (d := dd_u_law_ratio) rfl
  have F_u_law_ratio : Fun K "_law_ratio" "_law_ratio" s_u_law_ratio (He.ga K "_law_ratio") fd_u_law_ratio := fun_of_D FD_u_law_ratio
  have g_u_law_ratio := gg 11 "_law_ratio" rfl
  obtain ⟨fd_same_ratio, FD_same_ratio⟩ := c.def_ 17 (d := dd_same_ratio) rfl
  have F_same_ratio : Fun K "same_ratio" "same_ratio" s_same_ratio (He.ga K "same_ratio") fd_same_ratio := fun_of_D FD_same_ratio
  have g_same_ratio := gg 12 "same_ratio" rfl
  obtain ⟨fd_u_law_drawn_fits, FD_u_law_drawn_fits⟩ := c.def_ 18 (d := dd_u_law_drawn_fits) rfl
  have F_u_law_drawn_fits : Fun K "_law_drawn_fits" "_law_drawn_fits" s_u_law_drawn_fits (He.ga K "_law_drawn_fits") fd_u_law_drawn_fits := fun_of_D FD_u_law_drawn_fits
  have g_u_law_drawn_fits := gg 13 "_law_drawn_fits" rfl
  obtain ⟨fd_u_law_refusal, FD_u_law_refusal⟩ := c.def_ 19 (d := dd_u_law_refusal) rfl
  have F_u_law_refusal : Fun K "_law_refusal" "_law_refusal" s_u_law_refusal (He.ga K "_law_refusal") fd_u_law_refusal := fun_of_D FD_u_law_refusal
  have g_u_law_refusal := gg 14 "_law_refusal" rfl
  obtain ⟨fd_u_law_refused, FD_u_law_refused⟩ := c.def_ 20 (d := dd_u_law_refused) rfl
  have F_u_law_refused : Fun K "_law_refused" "_law_refused" s_u_law_refused (He.ga K "_law_refused") fd_u_law_refused := fun_of_D FD_u_law_refused
  have g_u_law_refused := gg 15 "_law_refused" rfl
  obtain ⟨fd_u_law_pair_fits, FD_u_law_pair_fits⟩ := c.def_ 21 (d := dd_u_law_pair_fits) rfl
  have F_u_law_pair_fits : Fun K "_law_pair_fits" "_law_pair_fits" s_u_law_pair_fits (He.ga K "_law_pair_fits") fd_u_law_pair_fits := fun_of_D FD_u_law_pair_fits
  have g_u_law_pair_fits := gg 16 "_law_pair_fits" rfl
  obtain ⟨fd_u_law_corners, FD_u_law_corners⟩ := c.def_ 22 (d := dd_u_law_corners) rfl
  have F_u_law_corners : Fun K "_law_corners" "_law_corners" s_u_law_corners (He.ga K "_law_corners") fd_u_law_corners := fun_of_D FD_u_law_corners
  have g_u_law_corners := gg 17 "_law_corners" rfl
  obtain ⟨fd_u_law_unit, FD_u_law_unit⟩ := c.def_ 23 (d := dd_u_law_unit) rfl
  have F_u_law_unit : Fun K "_law_unit" "_law_unit" s_u_law_unit (He.ga K "_law_unit") fd_u_law_unit := fun_of_D FD_u_law_unit
  have g_u_law_unit := gg 18 "_law_unit" rfl
  obtain ⟨fd_u_law_cooked, FD_u_law_cooked⟩ := c.def_ 24 (d := dd_u_law_cooked) rfl
  have F_u_law_cooked : Fun K "_law_cooked" "_law_cooked" s_u_law_cooked (He.ga K "_law_cooked") fd_u_law_cooked := fun_of_D FD_u_law_cooked
  have g_u_law_cooked := gg 19 "_law_cooked" rfl
  obtain ⟨fd_law, FD_law⟩ := c.def_ 25 (d := dd_law) rfl
  have F_law : Fun K "law" "law" s_law (He.ga K "law") fd_law := fun_of_D FD_law
  have g_law := gg 20 "law" rfl
  obtain ⟨fdi_NotDrawn, FDi_NotDrawn⟩ := c.def_ 26 (d := ddi_NotDrawn) rfl
  have Fi_NotDrawn : Fun K "__init__" "NotDrawn.__init__" si_NotDrawn (He.ma K (He.ga K "NotDrawn") "__init__") fdi_NotDrawn := fun_of_D FDi_NotDrawn
  have z_range := zz 30 "range" rfl
  have z_int := zz 31 "int" rfl
  have z_len := zz 32 "len" rfl
  have z_tuple := zz 33 "tuple" rfl
  have z_sum := zz 34 "sum" rfl
  have z_bool := zz 35 "bool" rfl
  have z_isinstance := zz 36 "isinstance" rfl
  have z_str := zz 37 "str" rfl
  have z_list := zz 38 "list" rfl
  have z_all := zz 39 "all" rfl
  have z_zip := zz 40 "zip" rfl
  have z_enumerate := zz 41 "enumerate" rfl
  have z_min := zz 42 "min" rfl
  have z_max := zz 43 "max" rfl
  have z_ValueError := zz 44 "ValueError" rfl
  have hm_NotDrawn := He.meth_ok (x := "NotDrawn") (m := "__init__") (cd.fact 45 (f := .meth "NotDrawn" "__init__") rfl)
  have ox_NotDrawn : OexC K (He.ga K "NotDrawn") := oexB_ok (cx 0 (fun K => oexB (He.ga K "NotDrawn") K) rfl)
  have no_NotDrawn : PySem.W.findIn K (.ref (He.ga K "NotDrawn")) "side" = some none := of_decide_eq_true (cx 1 (fun K => decide (PySem.W.findIn K (.ref (He.ga K "NotDrawn")) "side" = some none)) rfl)
  have xf : XFacts K mg known isaB XTs XFs := xfB'_ok X G known_in (fun x hx => cd.facts (glo_in x (List.mem_append_left _ hx))) (fun x hx => cd.facts (glo_in x (List.mem_append_right _ hx))) (cx 5 _ rfl)
  have x_DrawingError : mg "DrawingError" = some (.ref (He.ga K "DrawingError")) ∧ Catches K mg (.ref (He.ga K "DrawingError")) known := ⟨gg 29 "DrawingError" rfl, catB_ok X G known_in (fun x hx => cd.facts (glo_in x (List.mem_append_left _ hx))) (cx 6 _ rfl)⟩
  have e := hfa.symm.trans g_law
  cases e
  refine ⟨fd_law, csOf K tf, spD K mg 1 m_law, fun p hp => ?_, fun p hp => ?_, fun p hp => ?_, fun s u => FunD.bindsA (ps := ["_law_script"]) FD_law (fun _ _ _ _ _ _ us hl => match us, hl with | [_], _ => rfl) s [u] rfl, fun H a ns hl hb ht hS => law_sp rfl (law_true ns hl) ht hS, fun base KX' G' hTB => ?_⟩
  · obtain ⟨z, hz, rfl⟩ := List.mem_map.mp hp; exact c.x.empty z hz
  · obtain ⟨z, hz, rfl⟩ := List.mem_map.mp hp; exact c.x.out z hz
  · obtain ⟨z, hz, rfl⟩ := List.mem_map.mp hp; exact PySem.W.codeHd_of_K X (c.x.hd z hz)
  have x_NotDrawn : ∃ C, XCls (PySem.Challenge.rw_sixviews_k07_mixed_numbers_and_rims).prog w K mg base "NotDrawn" "side" C := xcls_NotDrawn (gg 26 "NotDrawn" rfl) ox_NotDrawn no_NotDrawn hm_NotDrawn.1 (by exact of_isFn hm_NotDrawn.fn) Fi_NotDrawn
  have hA_Pen : Tbls.adr "Pen" = He.ga K "Pen" := by
    show (match mg "Pen" with | some (.ref a) => a | _ => 0) = _
    rw [gg 21 "Pen" rfl]
  have cl_Pen : Cls K (He.ga K "Pen") := He.cls_ok (cd.fact 22 (f := .cls "Pen") rfl)
  have cv_Pen : mg "Pen" = some (.ref (Tbls.adr "Pen")) := by rw [hA_Pen]; exact gg 21 "Pen" rfl
  have at_Pen_reaches : AttrG K "Pen" "reaches" := attrG_of hA_Pen cl_Pen (He.noat_ok (cd.fact 24 (f := .noat "Pen" "reaches") rfl))
  have ok_u_law_draw := ok_u_law_draw (P := (PySem.Challenge.rw_sixviews_k07_mixed_numbers_and_rims).prog) (w := w) (base := base) (mg := mg) F_u_law_draw z_range z_int
  have h_u_law_draw := fnO_of ok_u_law_draw F_u_law_draw g_u_law_draw (fun _ _ _ _ _ _ us hl => match us, hl with | [_, _], _ => rfl)
  have ok_u_law_number := ok_u_law_number (P := (PySem.Challenge.rw_sixviews_k07_mixed_numbers_and_rims).prog) (w := w) (base := base) (mg := mg) F_u_law_number h_u_law_draw z_int
  have h_u_law_number := fnO_of ok_u_law_number F_u_law_number g_u_law_number (fun _ _ _ _ _ _ us hl => match us, hl with | [_, _, _], _ => rfl)
  have ok_u_law_line := ok_u_law_line (P := (PySem.Challenge.rw_sixviews_k07_mixed_numbers_and_rims).prog) (w := w) (base := base) (mg := mg) F_u_law_line 
  have h_u_law_line := fnG_of ok_u_law_line F_u_law_line g_u_law_line (fun _ _ _ _ _ _ us hl => match us, hl with | [_, _], _ => rfl)
  have ok_u_law_moved := ok_u_law_moved (P := (PySem.Challenge.rw_sixviews_k07_mixed_numbers_and_rims).prog) (w := w) (base := base) (mg := mg) F_u_law_moved z_range h_u_law_line
  have h_u_law_moved := fnG_of ok_u_law_moved F_u_law_moved g_u_law_moved (fun _ _ _ _ _ _ us hl => match us, hl with | [_, _], _ => rfl)
  have ok_Pen_uu_init__ := ok_Pen_uu_init__ (P := (PySem.Challenge.rw_sixviews_k07_mixed_numbers_and_rims).prog) (w := w) (base := base) (mg := mg) FD_Pen_uu_init__ z_len z_tuple at_Pen_reaches
  have mk_Pen := He.mkr_ok (cd.fact 23 (f := .mkr "Pen") rfl)
  have kb_Pen_1 : KBn K fd_Pen_uu_init__ ["self", "reaches"] 2 [] (fun us ws => us) (fun vs zs => vs) := ⟨fun s us ws hK h1 h2 => by
    have z := bindsD (ps := ["self", "reaches"]) FD_Pen_uu_init__ (fun _ _ _ _ _ _ us hl => match us, hl with | [_, _], _ => rfl) s us hK (by rw [List.append_nil, h1]; rfl)
    rw [List.append_nil] at z
    exact z, fun h _ => h⟩
  have mn_Pen_1 := mkN_of (pl := pl_Pen_1) hA_Pen (gg 21 "Pen" rfl) mk_Pen ok_Pen_uu_init__ kb_Pen_1 (fun F x vs zs ds es h1 h2 hl hz => match ds, vs, es, zs, h1, h2, hl, hz with | [_], _, [], _, _, _, .cons a0 .nil, .nil => ⟨_, rfl, (.cons a0 .nil)⟩)
  have ok_u_law_sides := ok_u_law_sides (P := (PySem.Challenge.rw_sixviews_k07_mixed_numbers_and_rims).prog) (w := w) (base := base) (mg := mg) F_u_law_sides z_range z_int
  have h_u_law_sides := fnG_of ok_u_law_sides F_u_law_sides g_u_law_sides (fun _ _ _ _ _ _ us hl => match us, hl with | [_], _ => rfl)
  have ok_u_law_mixed := ok_u_law_mixed (P := (PySem.Challenge.rw_sixviews_k07_mixed_numbers_and_rims).prog) (w := w) (base := base) (mg := mg) F_u_law_mixed h_u_law_sides z_range z_sum
  have h_u_law_mixed := fnG_of ok_u_law_mixed F_u_law_mixed g_u_law_mixed (fun _ _ _ _ _ _ us hl => match us, hl with | [_, _], _ => rfl)
  have hs_u_law_same : ∀ k, FnG (PySem.Challenge.rw_sixviews_k07_mixed_numbers_and_rims).prog w K mg base "_law_same" (k + 1) 2 ["_law_told", "_law_due"] (m_u_law_same k) := fun k => by
    induction k with
    | zero => exact fnG_of (fnOk_bad rfl) F_u_law_same g_u_law_same (fun _ _ _ _ _ _ us hl => match us, hl with | [_, _], _ => rfl)
    | succ k ih => exact fnG_of (ok_u_law_same F_u_law_same z_bool z_isinstance z_int z_str z_tuple z_list z_len z_range ih z_all) F_u_law_same g_u_law_same (fun _ _ _ _ _ _ us hl => match us, hl with | [_, _], _ => rfl)
  have h_u_law_same := (hs_u_law_same 5).mono (lev2 := 7) (by decide)
  have ok_Pen_sides := ok_Pen_sides (P := (PySem.Challenge.rw_sixviews_k07_mixed_numbers_and_rims).prog) (w := w) (base := base) (mg := mg) FD_Pen_sides at_Pen_reaches z_range z_tuple
  have mm_Pen_sides := methG_of hA_Pen cl_Pen (He.meth_ok (cd.fact 25 (f := .meth "Pen" "sides") rfl)) ok_Pen_sides (bindsD FD_Pen_sides (fun _ _ _ _ _ _ us hl => match us, hl with | [_], _ => rfl))
  have ok_mixed := ok_mixed (P := (PySem.Challenge.rw_sixviews_k07_mixed_numbers_and_rims).prog) (w := w) (base := base) (mg := mg) F_mixed at_Pen_reaches mm_Pen_sides z_zip z_sum
  have h_mixed := fnG_of ok_mixed F_mixed g_mixed (fun _ _ _ _ _ _ us hl => match us, hl with | [_, _], _ => rfl)
  have k_mixed_sf : FnK (PySem.Challenge.rw_sixviews_k07_mixed_numbers_and_rims).prog w K mg base "mixed" 3 2 ["first", "second"] m_mixed 0 ["second", "first"] [1, 0] := fnK_of ok_mixed F_mixed g_mixed (fun _ _ _ _ _ _ us ws h1 h2 => match us, h1, ws, h2 with | [], _, [_, _], _ => rfl)
  have ok_Pen_rim := ok_Pen_rim (P := (PySem.Challenge.rw_sixviews_k07_mixed_numbers_and_rims).prog) (w := w) (base := base) (mg := mg) FD_Pen_rim mm_Pen_sides z_sum
  have mp_Pen_rim := propG_of hA_Pen cl_Pen (propB_ok (n := "Pen") (m := "rim") (cx 2 _ rfl)) ok_Pen_rim (bindsD FD_Pen_rim (fun _ _ _ _ _ _ us hl => match us, hl with | [_], _ => rfl))
  have ok_Pen_even := ok_Pen_even (P := (PySem.Challenge.rw_sixviews_k07_mixed_numbers_and_rims).prog) (w := w) (base := base) (mg := mg) FD_Pen_even mn_Pen_1
  have st_Pen_even := statG_of hA_Pen (gg 21 "Pen" rfl) (cx 4 _ rfl : statB "Pen" "even" K = true) ok_Pen_even (bindsD FD_Pen_even (fun _ _ _ _ _ _ us hl => match us, hl with | [_], _ => rfl))
  have ok_u_law_mixed_fits := ok_u_law_mixed_fits (P := (PySem.Challenge.rw_sixviews_k07_mixed_numbers_and_rims).prog) (w := w) (base := base) (mg := mg) F_u_law_mixed_fits mn_Pen_1 h_u_law_mixed k_mixed_sf h_mixed h_u_law_moved z_range h_u_law_same h_u_law_sides z_sum st_Pen_even mp_Pen_rim
  have h_u_law_mixed_fits := fnG_of ok_u_law_mixed_fits F_u_law_mixed_fits g_u_law_mixed_fits (fun _ _ _ _ _ _ us hl => match us, hl with | [_, _, _, _], _ => rfl)
  have ok_check_drawn := ok_check_drawn (P := (PySem.Challenge.rw_sixviews_k07_mixed_numbers_and_rims).prog) (w := w) (base := base) (mg := mg) F_check_drawn mm_Pen_sides z_enumerate x_NotDrawn
  have h_check_drawn := fnG_of ok_check_drawn F_check_drawn g_check_drawn (fun _ _ _ _ _ _ us hl => match us, hl with | [_], _ => rfl)
  have ok_Pen_area := ok_Pen_area (P := (PySem.Challenge.rw_sixviews_k07_mixed_numbers_and_rims).prog) (w := w) (base := base) (mg := mg) FD_Pen_area at_Pen_reaches mm_Pen_sides z_zip z_sum
  have mp_Pen_area := propG_of hA_Pen cl_Pen (propB_ok (n := "Pen") (m := "area") (cx 3 _ rfl)) ok_Pen_area (bindsD FD_Pen_area (fun _ _ _ _ _ _ us hl => match us, hl with | [_], _ => rfl))
  have ok_spare := ok_spare (P := (PySem.Challenge.rw_sixviews_k07_mixed_numbers_and_rims).prog) (w := w) (base := base) (mg := mg) F_spare h_check_drawn h_mixed mp_Pen_area
  have h_spare := fnG_of ok_spare F_spare g_spare (fun _ _ _ _ _ _ us hl => match us, hl with | [_, _], _ => rfl)
  have k_spare_sf : FnK (PySem.Challenge.rw_sixviews_k07_mixed_numbers_and_rims).prog w K mg base "spare" 5 2 ["first", "second"] m_spare 0 ["second", "first"] [1, 0] := fnK_of ok_spare F_spare g_spare (fun _ _ _ _ _ _ us ws h1 h2 => match us, h1, ws, h2 with | [], _, [_, _], _ => rfl)
  have ok_u_law_ratio := ok_u_law_ratio (P := (PySem.Challenge.rw_sixviews_k07_mixed_numbers_and_rims).prog) (w := w) (base := base) (mg := mg) F_u_law_ratio h_u_law_sides z_range
  have h_u_law_ratio := fnG_of ok_u_law_ratio F_u_law_ratio g_u_law_ratio (fun _ _ _ _ _ _ us hl => match us, hl with | [_, _], _ => rfl)
  have ok_same_ratio := ok_same_ratio (P := (PySem.Challenge.rw_sixviews_k07_mixed_numbers_and_rims).prog) (w := w) (base := base) (mg := mg) F_same_ratio h_check_drawn mm_Pen_sides z_range z_all
  have h_same_ratio := fnG_of ok_same_ratio F_same_ratio g_same_ratio (fun _ _ _ _ _ _ us hl => match us, hl with | [_, _], _ => rfl)
  have k_same_ratio_sf : FnK (PySem.Challenge.rw_sixviews_k07_mixed_numbers_and_rims).prog w K mg base "same_ratio" 4 2 ["first", "second"] m_same_ratio 0 ["second", "first"] [1, 0] := fnK_of ok_same_ratio F_same_ratio g_same_ratio (fun _ _ _ _ _ _ us ws h1 h2 => match us, h1, ws, h2 with | [], _, [_, _], _ => rfl)
  have ok_u_law_drawn_fits := ok_u_law_drawn_fits (P := (PySem.Challenge.rw_sixviews_k07_mixed_numbers_and_rims).prog) (w := w) (base := base) (mg := mg) F_u_law_drawn_fits mn_Pen_1 h_u_law_mixed h_spare h_u_law_same k_spare_sf h_u_law_ratio h_same_ratio k_same_ratio_sf mp_Pen_rim mp_Pen_area h_u_law_sides z_min z_max
  have h_u_law_drawn_fits := fnG_of ok_u_law_drawn_fits F_u_law_drawn_fits g_u_law_drawn_fits (fun _ _ _ _ _ _ us hl => match us, hl with | [_, _], _ => rfl)
  have l_u_law_refusal : FnL (PySem.Challenge.rw_sixviews_k07_mixed_numbers_and_rims).prog w K mg base "_law_refusal" 10 m_u_law_refusal := fnL_of F_u_law_refusal g_u_law_refusal (F_u_law_refusal.binds (fun _ _ _ _ _ _ us hl => match us, hl with | [_], _ => rfl)) sc_u_law_refusal rfl (by first | exact Or.inl rfl | exact Or.inr rfl) (by decide) (by decide) (fun cdv => gl_u_law_refusal z_isinstance z_ValueError x_DrawingError xf) ref_ok
  have ok_u_law_refused := ok_u_law_refused (P := (PySem.Challenge.rw_sixviews_k07_mixed_numbers_and_rims).prog) (w := w) (base := base) (mg := mg) F_u_law_refused (codeF_of rfl (by decide) (cx 7 _ rfl) F_u_law_refused hTB) mn_Pen_1 h_spare l_u_law_refusal h_same_ratio h_u_law_same
  have h_u_law_refused := fnG_of ok_u_law_refused F_u_law_refused g_u_law_refused (fun _ _ _ _ _ _ us hl => match us, hl with | [_, _, _], _ => rfl)
  have ok_u_law_pair_fits := ok_u_law_pair_fits (P := (PySem.Challenge.rw_sixviews_k07_mixed_numbers_and_rims).prog) (w := w) (base := base) (mg := mg) F_u_law_pair_fits z_range h_u_law_sides h_u_law_refused h_u_law_drawn_fits
  have h_u_law_pair_fits := fnG_of ok_u_law_pair_fits F_u_law_pair_fits g_u_law_pair_fits (fun _ _ _ _ _ _ us hl => match us, hl with | [_, _], _ => rfl)
  have ok_u_law_corners := ok_u_law_corners (P := (PySem.Challenge.rw_sixviews_k07_mixed_numbers_and_rims).prog) (w := w) (base := base) (mg := mg) F_u_law_corners 
  have h_u_law_corners := fnG_of ok_u_law_corners F_u_law_corners g_u_law_corners (fun _ _ _ _ _ _ us hl => match us, hl with | [_], _ => rfl)
  have ok_u_law_unit := ok_u_law_unit (P := (PySem.Challenge.rw_sixviews_k07_mixed_numbers_and_rims).prog) (w := w) (base := base) (mg := mg) F_u_law_unit h_u_law_corners z_range h_u_law_line z_max
  have h_u_law_unit := fnG_of ok_u_law_unit F_u_law_unit g_u_law_unit (fun _ _ _ _ _ _ us hl => match us, hl with | [_], _ => rfl)
  have ok_u_law_cooked := ok_u_law_cooked (P := (PySem.Challenge.rw_sixviews_k07_mixed_numbers_and_rims).prog) (w := w) (base := base) (mg := mg) F_u_law_cooked h_u_law_draw z_range z_int h_u_law_unit
  have h_u_law_cooked := fnO_of ok_u_law_cooked F_u_law_cooked g_u_law_cooked (fun _ _ _ _ _ _ us hl => match us, hl with | [_, _], _ => rfl)
  have ok_law := ok_law (P := (PySem.Challenge.rw_sixviews_k07_mixed_numbers_and_rims).prog) (w := w) (base := base) (mg := mg) F_law h_u_law_draw h_u_law_number z_range h_u_law_moved z_int h_u_law_cooked h_u_law_mixed_fits h_u_law_pair_fits
  exact ok_law
end T
open PySem PySem.W PySem.Calls PyProof.Rows
theorem PySem.Challenge.cw_sixviews_k07_mixed_numbers_and_rims_holds : PySem.Challenge.rw_sixviews_k07_mixed_numbers_and_rims.Holds := by
  w_on; o_law
  refine HandSHeadRun.head_any (r := OpenLaw.row PySem.Challenge.rw_sixviews_k07_mixed_numbers_and_rims) (q := view (OpenLaw.row PySem.Challenge.rw_sixviews_k07_mixed_numbers_and_rims).prog [40]) (H := T.hk) (ob := T.ob) (M := 20000) (loose := T.names) (d := HandSHeadRun.topDef (OpenLaw.row PySem.Challenge.rw_sixviews_k07_mixed_numbers_and_rims).prog 40) (kwd := []) T.ob_eq
    (by kernel_rfl) (fun s => by kernel_rfl) T.run (by kernel_rfl) (by kernel_rfl) (by kernel_rfl) (by rfl) (by first | assumption | decide +kernel) (by decide +kernel) ⟨rfl, rfl, rfl, rfl, rfl, by decide +kernel⟩ ?hw ?hc
  case hw => w_witness2
  case hc =>
    refine LamX.walk_ofTsE (l := PySem.Challenge.rw_sixviews_k07_mixed_numbers_and_rims) (n := 63) (k := 14) (x := "_law_script") (CX := fun w => L2.CX (PySem.Challenge.rw_sixviews_k07_mixed_numbers_and_rims).prog w) rfl (by decide) (by kernel_rfl) ⟨rfl, by decide, by decide⟩ ?F (fun _ _ _ _ _ z => ?G)
    case F =>
      intro w mg fa h Y G hmg0
      obtain ⟨K, KX, c⟩ := Y
      have hmg : mg ("law" : PySem.Str) = some (.ref fa) := by
        have e : (HandSHeadRun.topDef (OpenLaw.row PySem.Challenge.rw_sixviews_k07_mixed_numbers_and_rims).prog 40).name = ("law" : PySem.Str) := by kernel_rfl
        rw [← e]
        exact hmg0
      exact ⟨K, KX, T.facts KX G hmg c⟩
    case G => exact T.cx_end z

import PyProof.Rows.All
import Wide.All
import OpenK.AllK
import Wide.FinOn
import HandS.ForMost
import HandS.IsInst
import HandS.StrMore
import HandS.Wide
import HandS.Defaults
import HandS.CallSlots
import HandS.Flow
import HandS.Walk
import HandS.Evl
import HandS.OwnEq
import HandS.OwnIter
import HandS.GenList
import HandS.GenYield
import HandS.IterVal
import HandS.Property
import HandS.Exc
import HandS.ExcInit
import HandS.ExcIs
import HandS.ExcField
import HandS.ExcOwn
import HandS.TryOnly
import HandS.WordsExc
import HandS.Conv
import HandS.Star
import HandS.Deep
import HandS.SortInts
import HandS.DictComp
import HandS.HotCalls
import HandS.IterVal
import HandS.Style
import HandS.SetFor
import HandS.More
import HandS.RevRange
import HandS.Rev
import PyProof.EnumMake
import HandS.Zip
import HandS.Sort
import HandS.SortRule
import HandS.Iter
import PySem.Challenge.RW_wornsheaf_k56_whole_shares_met_again
set_option Elab.async false
set_option linter.all false
set_option maxRecDepth 100000
set_option maxHeartbeats 0
namespace Pf
open PySem PySem.Spec PyProof.Rows L2
inductive P where
  | non | bl (b : Bool) | int (n : Int) | str (z : Str)
  | tup (xs : List P) | lst (xs : List P) | dct (ks : List Key) (xs : List P)
  | ins (C : Addr) (ns : List Str) (xs : List P)
  | scr (xs : List Int) | adr (a : Addr) | ty (s : String)
  | exc (a : Addr) (d : Option Addr) (C : Addr) (ns : List Str) (xs : List P)
  | slf (a C : Addr) (ns : List Str) (xs : List P)
  | rng (lo hi : Int) | dtt (ks : List (List Key)) (xs : List P)
def SOk (z : Str) : Prop := z.length ≤ sizeLine ∧ ∀ c ∈ z.cps.toList, c < 1114112
section
variable (K : PySem.W.Frag)
mutual
/-- the value v stands for p in the heap F -/
inductive R (F : Hp) : V → P → Prop
  | non : R F .non .non
  | bl (b : Bool) : R F (.bl b) (.bl b)
  | int (n : Int) : R F (.int n) (.int n)
  | str {z : Str} (h : SOk z) : R F (.str z) (.str z)
  | tup {a : Addr} {vs : List V} {xs : List P} (h : F a = some (.tup vs)) (r : RL F vs xs) : R F (.ref a) (.tup xs)
  | lst {a : Addr} {vs : List V} {xs : List P} (h : F a = some (.lst vs)) (r : RL F vs xs) : R F (.ref a) (.lst xs)
  | dct {a : Addr} {ks : List Key} {vs : List V} {xs : List P} (h : Rd F a (.dK (ks.zip vs))) (l : ks.length = vs.length) (r : RL F vs xs) : R F (.ref a) (.dct ks xs)
  | ins {a C dx : Addr} {fs : List (Str × V)} {ns : List Str} {vs : List V} {xs : List P} (h : F a = some (.ins C dx fs)) (e1 : fs.map Prod.fst = ns) (e2 : fs.map Prod.snd = vs) (r : RL F vs xs) : R F (.ref a) (.ins C ns xs)
  | slf {a C dx : Addr} {fs : List (Str × V)} {ns : List Str} {vs : List V} {xs : List P} (h : F a = some (.ins C dx fs)) (e1 : fs.map Prod.fst = ns) (e2 : fs.map Prod.snd = vs) (r : RL F vs xs) : R F (.ref a) (.slf a C ns xs)
  | scr {a : Addr} {xs : List Int} (h : SqL K F a (xs.map V.int)) : R F (.ref a) (.scr xs)
  | adr (a : Addr) : R F (.ref a) (.adr a)
  | ty (s : String) : R F (.ty s) (.ty s)
  | exc0 (a C : Addr) : R F (.ref a) (.exc a none C [] [])
  | exc1 {a d C : Addr} {fs : List (Str × V)} {ns : List Str} {vs : List V} {xs : List P} (h : F d = some (.xd fs)) (e1 : fs.map Prod.fst = ns) (e2 : fs.map Prod.snd = vs) (r : RL F vs xs) : R F (.ref a) (.exc a (some d) C ns xs)
  | rng {a : Addr} {lo hi : Int} (h : F a = some (.rng lo hi)) : R F (.ref a) (.rng lo hi)
  | dtt {a : Addr} {ks : List (List Key)} {vs : List V} {xs : List P} (h : Rd F a (.dT (ks.zip vs))) (l : ks.length = vs.length) (r : RL F vs xs) : R F (.ref a) (.dtt ks xs)
inductive RL (F : Hp) : List V → List P → Prop
  | nil : RL F [] []
  | cons {v : V} {vs : List V} {x : P} {xs : List P} (h : R F v x) (r : RL F vs xs) : RL F (v :: vs) (x :: xs)
end
end
variable {K : PySem.W.Frag}
mutual
theorem R.mono {F F' : Hp} (s : Same F F') : ∀ {v : V} {x : P}, R K F v x → R K F' v x
  | _, _, .non => .non
  | _, _, .bl b => .bl b
  | _, _, .int n => .int n
  | _, _, .str h => .str h
  | _, _, .tup h r => .tup (s _ _ h) (RL.mono s r)
  | _, _, .lst h r => .lst (s _ _ h) (RL.mono s r)
  | _, _, .rng h => .rng (s _ _ h)
  | _, _, .dtt h l r => .dtt (h.elim (fun h => .inl (s _ _ h)) fun ⟨o, h⟩ => .inr ⟨o, s _ _ h⟩) l (RL.mono s r)
  | _, _, .dct h l r => .dct (h.elim (fun h => .inl (s _ _ h)) fun ⟨o, h⟩ => .inr ⟨o, s _ _ h⟩) l (RL.mono s r)
  | _, _, .ins h e1 e2 r => .ins (s _ _ h) e1 e2 (RL.mono s r)
  | _, _, .slf h e1 e2 r => .slf (s _ _ h) e1 e2 (RL.mono s r)
  | _, _, .scr h => .scr (s.seq h)
  | _, _, .adr a => .adr a
  | _, _, .ty a => .ty a
  | _, _, .exc0 a C => .exc0 a C
  | _, _, .exc1 h e1 e2 r => .exc1 (s _ _ h) e1 e2 (RL.mono s r)
theorem RL.mono {F F' : Hp} (s : Same F F') : ∀ {vs : List V} {xs : List P}, RL K F vs xs → RL K F' vs xs
  | _, _, .nil => .nil
  | _, _, .cons h r => .cons (R.mono s h) (RL.mono s r)
end
theorem RL.len {F : Hp} : ∀ {vs : List V} {xs : List P}, RL K F vs xs → vs.length = xs.length
  | _, _, .nil => rfl
  | _, _, .cons _ r => by simp [RL.len r]
theorem RL.get {F : Hp} : ∀ {vs : List V} {xs : List P} {i : Nat} {v : V}, RL K F vs xs → vs[i]? = some v → ∃ x, xs[i]? = some x ∧ R K F v x
  | _, _, _, _, .nil, e => by simp at e
  | _, _, 0, _, .cons h r, e => by
    have e := Option.some.inj e
    exact ⟨_, rfl, e ▸ h⟩
  | _, _, i + 1, _, .cons h r, e => RL.get (i := i) r e
theorem RL.get' {F : Hp} : ∀ {vs : List V} {xs : List P} {i : Nat} {x : P}, RL K F vs xs → xs[i]? = some x → ∃ v, vs[i]? = some v ∧ R K F v x
  | _, _, _, _, .nil, e => by simp at e
  | _, _, 0, _, .cons h r, e => by
    have e := Option.some.inj e
    exact ⟨_, rfl, e ▸ h⟩
  | _, _, i + 1, _, .cons h r, e => RL.get' (i := i) r e
theorem RL.app {F : Hp} : ∀ {vs ws : List V} {xs ys : List P}, RL K F vs xs → RL K F ws ys → RL K F (vs ++ ws) (xs ++ ys)
  | _, _, _, _, .nil, q => q
  | _, _, _, _, .cons h r, q => .cons h (RL.app r q)
theorem RL.set {F : Hp} {v : V} {x : P} (h : R K F v x) : ∀ {vs : List V} {xs : List P} (i : Nat), RL K F vs xs → RL K F (vs.set i v) (xs.set i x)
  | _, _, _, .nil => .nil
  | _, _, 0, .cons _ r => .cons h r
  | _, _, i + 1, .cons g r => .cons g (RL.set h i r)
theorem RL.drop {F : Hp} : ∀ {vs : List V} {xs : List P} (i : Nat), RL K F vs xs → RL K F (vs.drop i) (xs.drop i)
  | _, _, 0, r => r
  | _, _, i + 1, .nil => .nil
  | _, _, i + 1, .cons _ r => RL.drop i r
theorem RL.take {F : Hp} : ∀ {vs : List V} {xs : List P} (i : Nat), RL K F vs xs → RL K F (vs.take i) (xs.take i)
  | _, _, 0, _ => .nil
  | _, _, i + 1, .nil => .nil
  | _, _, i + 1, .cons h r => .cons h (RL.take i r)
/-- F' says more than F, of new addresses alone -/
def Ext (H0 F F' : Hp) : Prop := Same F F' ∧ ∀ b o, H0 b = some o → F' b = F b
theorem Ext.refl {H0 F : Hp} : Ext H0 F F := ⟨Same.refl _, fun _ _ _ => rfl⟩
theorem Ext.trans {H0 H1 F F1 F2 : Hp} (s : Same H0 H1) (a : Ext H0 F F1) (b : Ext H1 F1 F2) : Ext H0 F F2 :=
  ⟨a.1.trans b.1, fun x o h => (b.2 x o (s x o h)).trans (a.2 x o h)⟩
structure Mv (F H F' H' : Hp) : Prop where
  e : Ext H F F'
  s : Same H H'
  fh : Same F' H'
theorem Mv.refl {F H : Hp} (s : Same F H) : Mv F H F H := ⟨.refl, Same.refl _, s⟩
theorem Mv.trans {F H F1 H1 F2 H2 : Hp} (a : Mv F H F1 H1) (b : Mv F1 H1 F2 H2) : Mv F H F2 H2 := ⟨a.e.trans a.s b.e, a.s.trans b.s, b.fh⟩
/-- what may change: a list or a dict at the top, its items in F -/
def Cell (K : PySem.W.Frag) (F : Hp) (a : Addr) (o : HO) (x : P) : Prop := match x with
  | .lst xs => ∃ vs, o = .lst vs ∧ RL K F vs xs
  | .dct ks xs => ∃ vs, o = .dK (ks.zip vs) ∧ ks.length = vs.length ∧ RL K F vs xs
  | .dtt ks xs => ∃ vs, o = .dT (ks.zip vs) ∧ ks.length = vs.length ∧ RL K F vs xs
  | .ins C ns xs => ∃ dx fs, o = .ins C dx fs ∧ fs.map Prod.fst = ns ∧ RL K F (fs.map Prod.snd) xs
  | .slf a' C ns xs => a = a' ∧ ∃ dx fs, o = .ins C dx fs ∧ fs.map Prod.fst = ns ∧ RL K F (fs.map Prod.snd) xs
  | _ => False
/-- .. as it is read: a dict may be locked -/
def CellT (K : PySem.W.Frag) (F : Hp) (a : Addr) (o : HO) (x : P) : Prop := match x with
  | .dct ks xs => ∃ vs, (o = .dK (ks.zip vs) ∨ ∃ ob, o = .frz ob (.dK (ks.zip vs))) ∧ ks.length = vs.length ∧ RL K F vs xs
  | x => Cell K F a o x
theorem Cell.t {K : PySem.W.Frag} {F : Hp} {a : Addr} {o : HO} {x : P} (c : Cell K F a o x) : CellT K F a o x := by
  cases x <;> first | exact c | (obtain ⟨vs, e, l, r⟩ := c; exact ⟨vs, .inl e, l, r⟩)
/-- what can be read: the top in H, the items in F -/
def Tp (K : PySem.W.Frag) (F H : Hp) (v : V) (x : P) : Prop := R K F v x ∨ ∃ a o, v = .ref a ∧ H a = some o ∧ CellT K F a o x
/-- a new list or dict that nobody else knows -/
def scB : P → Bool
  | .non => true | .bl _ => true | .int _ => true | .str _ => true
  | _ => false
def Ow (K : PySem.W.Frag) (H F' H' : Hp) (v : V) (x : P) : Prop := (∃ a o, v = .ref a ∧ H a = none ∧ F' a = none ∧ H' a = some o ∧ Cell K F' a o x) ∨ (scB x = true ∧ R K F' v x)
inductive Mo | v | b | o
deriving DecidableEq
theorem Cell.mono {F F' : Hp} (s : Same F F') {a : Addr} {o : HO} {x : P} (h : Cell K F a o x) : Cell K F' a o x := by
  cases x <;> first | exact h.elim | (obtain ⟨vs, e, r⟩ := h; exact ⟨vs, e, r.mono s⟩) | (obtain ⟨vs, e, l, r⟩ := h; exact ⟨vs, e, l, r.mono s⟩) | (obtain ⟨dx, fs, e, l, r⟩ := h; exact ⟨dx, fs, e, l, r.mono s⟩) | (obtain ⟨ea, dx, fs, e, l, r⟩ := h; exact ⟨ea, dx, fs, e, l, r.mono s⟩)
theorem CellT_eq {F : Hp} {a : Addr} {o : HO} {x : P} (h : ∀ ks xs, x ≠ .dct ks xs) : CellT K F a o x = Cell K F a o x := by
  cases x <;> first | rfl | exact absurd rfl (h _ _)
theorem CellT.mono {F F' : Hp} (s : Same F F') {a : Addr} {o : HO} {x : P} (h : CellT K F a o x) : CellT K F' a o x := by
  by_cases hd : ∃ ks xs, x = .dct ks xs
  · obtain ⟨ks, xs, rfl⟩ := hd
    obtain ⟨vs, e, l, r⟩ := h
    exact ⟨vs, e, l, r.mono s⟩
  · rw [CellT_eq fun ks xs e => hd ⟨ks, xs, e⟩] at h ⊢
    exact Cell.mono s h
theorem Tp.mono {F F' H H' : Hp} (s : Same F F') (t : Same H H') {v : V} {x : P} (h : Tp K F H v x) : Tp K F' H' v x :=
  h.elim (fun h => .inl (h.mono s)) fun ⟨a, o, e, h, c⟩ => .inr ⟨a, o, e, t _ _ h, c.mono s⟩
theorem Tp.mv {F F' H H' : Hp} (m : Mv F H F' H') {v : V} {x : P} (h : Tp K F H v x) : Tp K F' H' v x := h.mono m.e.1 m.s
theorem R.mv {F F' H H' : Hp} (m : Mv F H F' H') {v : V} {x : P} (h : R K F v x) : R K F' v x := h.mono m.e.1
theorem Ow.tp {F H H0 : Hp} {v : V} {x : P} : Ow K H0 F H v x → Tp K F H v x := fun h => h.elim (fun ⟨a, o, e, _, _, h, c⟩ => .inr ⟨a, o, e, h, c.t⟩) fun h => .inl h.2
theorem sc_noref {F : Hp} {a : Addr} {x : P} (h : scB x = true) (r : R K F (.ref a) x) : False := by
  cases x <;> first | (cases h; done) | cases r
theorem sc_nocell {F : Hp} {a : Addr} {o : HO} {x : P} (h : scB x = true) (c : Cell K F a o x) : False := by
  cases x <;> first | (cases h; done) | exact c
/-- a list by what may be read of it -/
theorem Tp.lst {F H : Hp} (s : Same F H) {v : V} {xs : List P} (h : Tp K F H v (.lst xs)) : ∃ a vs, v = .ref a ∧ H a = some (.lst vs) ∧ RL K F vs xs := by
  rcases h with h | ⟨a, o, rfl, h, vs, rfl, r⟩
  · cases h with | lst h r => exact ⟨_, _, rfl, s _ _ h, r⟩
  · exact ⟨_, _, rfl, h, r⟩
theorem Tp.dct {F H : Hp} (s : Same F H) {v : V} {ks : List Key} {xs : List P} (h : Tp K F H v (.dct ks xs)) : ∃ a vs, v = .ref a ∧ Rd H a (.dK (ks.zip vs)) ∧ ks.length = vs.length ∧ RL K F vs xs := by
  rcases h with h | ⟨a, o, rfl, h, vs, e, l, r⟩
  · cases h with | dct h l r => exact ⟨_, _, rfl, h.elim (fun h => .inl (s _ _ h)) (fun ⟨o, h⟩ => .inr ⟨o, s _ _ h⟩), l, r⟩
  · exact ⟨_, _, rfl, e.elim (fun e => .inl (e ▸ h)) (fun ⟨ob, e⟩ => .inr ⟨ob, e ▸ h⟩), l, r⟩
theorem Tp.r {F H : Hp} {v : V} {x : P} (h : Tp K F H v x) (hx : ∀ xs, x ≠ .lst xs) (hd : ∀ ks xs, x ≠ .dct ks xs) (hi : ∀ C ns xs, x ≠ .ins C ns xs) (hi' : ∀ a C ns xs, x ≠ .slf a C ns xs) (hd' : ∀ ks xs, x ≠ .dtt ks xs := by intro _ _ z; cases z) : R K F v x := by
  rcases h with h | ⟨a, o, rfl, h, c⟩
  · exact h
  · cases x <;> first | exact c.elim | exact absurd rfl (hx _) | exact absurd rfl (hd _ _) | exact absurd rfl (hd' _ _) | exact absurd rfl (hi _ _ _) | exact absurd rfl (hi' _ _ _ _)
theorem Tp.ins {F H : Hp} (s : Same F H) {v : V} {C : Addr} {ns : List Str} {xs : List P} (h : Tp K F H v (.ins C ns xs)) : ∃ a dx fs, v = .ref a ∧ H a = some (.ins C dx fs) ∧ fs.map Prod.fst = ns ∧ RL K F (fs.map Prod.snd) xs := by
  rcases h with h | ⟨a, o, rfl, h, dx, fs, rfl, l, r⟩
  · cases h with | ins h e1 e2 r => exact ⟨_, _, _, rfl, s _ _ h, e1, e2 ▸ r⟩
  · exact ⟨_, _, _, rfl, h, l, r⟩
theorem Tp.slf {F H : Hp} (s : Same F H) {v : V} {a' C : Addr} {ns : List Str} {xs : List P} (h : Tp K F H v (.slf a' C ns xs)) : ∃ a dx fs, v = .ref a ∧ H a = some (.ins C dx fs) ∧ fs.map Prod.fst = ns ∧ RL K F (fs.map Prod.snd) xs := by
  rcases h with h | ⟨a, o, rfl, h, rfl, dx, fs, rfl, l, r⟩
  · cases h with | slf h e1 e2 r => exact ⟨_, _, _, rfl, s _ _ h, e1, e2 ▸ r⟩
  · exact ⟨_, _, _, rfl, h, l, r⟩
theorem Cell.l {F : Hp} {a : Addr} {vs : List V} {xs : List P} (r : RL K F vs xs) : Cell K F a (.lst vs) (.lst xs) := ⟨vs, rfl, r⟩
theorem Cell.d {F : Hp} {a : Addr} {ks : List Key} {vs : List V} {xs : List P} (l : ks.length = vs.length) (r : RL K F vs xs) : Cell K F a (.dK (ks.zip vs)) (.dct ks xs) := ⟨vs, rfl, l, r⟩
theorem Cell.r {F : Hp} {a : Addr} {o : HO} {x : P} (h : F a = some o) (c : Cell K F a o x) : R K F (.ref a) x := by
  cases x <;> first | exact c.elim | (obtain ⟨vs, e, r⟩ := c; subst e; exact .lst h r) | (obtain ⟨vs, e, l, r⟩ := c; subst e; exact .dct (.inl h) l r) | (obtain ⟨vs, e, l, r⟩ := c; subst e; exact .dtt (.inl h) l r) | (obtain ⟨dx, fs, rfl, l, r⟩ := c; exact .ins h l rfl r) | (obtain ⟨rfl, dx, fs, rfl, l, r⟩ := c; exact .slf h l rfl r)
theorem upd_ext {H F : Hp} {p : Addr} {o : HO} (hH : H p = none) (hF : F p = none) : Ext H F (upd F p o) :=
  ⟨fun b x e => by rw [upd_ne (ne_of_none e hF)]; exact e, fun b x e => upd_ne (ne_of_none e hH)⟩
theorem same_new {H : Hp} {p : Addr} {o : HO} (h : H p = none) : Same H (upd H p o) := fun b x e => by
  rw [upd_ne (ne_of_none e h)]; exact e
theorem same_free {F H : Hp} (s : Same F H) {p : Addr} (h : H p = none) : F p = none := by
  cases e : F p with
  | none => rfl
  | some o => rw [s _ _ e] at h; cases h
theorem same_upd2 {F H : Hp} (s : Same F H) {p : Addr} {o : HO} : Same (upd F p o) (upd H p o) := fun b x e => by
  by_cases hb : b = p
  · subst hb; rw [upd_same] at e ⊢; exact e
  · rw [upd_ne hb] at e ⊢; exact s _ _ e
/-- a new object that is never changed -/
theorem mv_frz {F H : Hp} {p : Addr} {o : HO} (s : Same F H) (h : H p = none) : Mv F H (upd F p o) (upd H p o) :=
  ⟨upd_ext h (same_free s h), same_new h, same_upd2 s⟩
/-- a new object that may be changed -/
theorem mv_new {F H : Hp} {p : Addr} {o : HO} (s : Same F H) (h : H p = none) : Mv F H F (upd H p o) :=
  ⟨.refl, same_new h, fun b x e => by rw [upd_ne (ne_of_none e (same_free s h))]; exact s _ _ e⟩
theorem same_put {F H : Hp} {p : Addr} {o : HO} (s : Same F H) (h : F p = none) : Same F (upd H p o) := fun b x e => by
  rw [upd_ne (ne_of_none e h)]; exact s _ _ e
end Pf

namespace Pf
open PySem PySem.Spec PyProof.Rows L2
abbrev PEnv := List (Option (Mo × P))
abbrev XP := Addr → List Str → List P → Prop
abbrev WE := PEnv → (P → Prop) → XP → Prop
abbrev WT := PEnv → (Bool → Prop) → XP → Prop
abbrev WA := PEnv → (List P → Prop) → XP → Prop
structure PEnds where
  nx : PEnv → Prop
  rt : P → Prop
  bk : PEnv → Prop
  ct : PEnv → Prop
  ex : PEnv → XP
abbrev WS := PEnds → PEnv → Prop
/-- a list that may be read is the caller's -/
def LsIn (H0 : Hp) (v : V) (x : P) : Prop := ∀ xs a, x = .lst xs → v = .ref a → H0 a ≠ none
def Slot (K : PySem.W.Frag) (F H0 H : Hp) (m : Mo) (v : V) (x : P) : Prop := match m with
  | .v => R K F v x
  | .b => Tp K F H0 v x ∧ LsIn H0 v x
  | .o => (∃ a o, v = .ref a ∧ H a = some o ∧ Cell K F a o x) ∨ (scB x = true ∧ R K F v x)
structure Good (K : PySem.W.Frag) (F0 H0 : Hp) (σ : L2.St) (F H : Hp) (env : PEnv) : Prop where
  fh : Same F H
  hh : Same H0 H
  e : Ext H0 F0 F
  len : env.length ≤ σ.length
  slot : ∀ (i : Nat) m x, env[i]? = some (some (m, x)) → ∃ v, σ[i]? = some (some v) ∧ Slot K F H0 H m v x
  own : ∀ (i : Nat) x a, env[i]? = some (some (Mo.o, x)) → σ[i]? = some (some (.ref a)) → F a = none ∧ H0 a = none
  dis : ∀ (i j : Nat) x y a, i ≠ j → env[i]? = some (some (Mo.o, x)) → env[j]? = some (some (Mo.o, y)) → σ[i]? = some (some (.ref a)) → σ[j]? = some (some (.ref a)) → False
section
variable {K : PySem.W.Frag} {F0 H0 F H F' H' : Hp} {σ : L2.St} {env : PEnv}
theorem Slot.mv (m : Mv F H F' H') {q : Mo} {v : V} {x : P} (h : Slot K F H0 H q v x) : Slot K F' H0 H' q v x := by
  cases q with
  | v => exact R.mv m h
  | b => exact ⟨Tp.mono m.e.1 (Same.refl _) h.1, h.2⟩
  | o =>
    rcases h with ⟨a, o, e, ha, c⟩ | h
    · exact .inl ⟨a, o, e, m.s _ _ ha, c.mono m.e.1⟩
    · exact .inr ⟨h.1, R.mv m h.2⟩
theorem Good.mv (g : Good K F0 H0 σ F H env) (m : Mv F H F' H') : Good K F0 H0 σ F' H' env where
  fh := m.fh
  hh := g.hh.trans m.s
  e := g.e.trans g.hh m.e
  len := g.len
  slot := fun i q x h => by
    obtain ⟨v, e, s⟩ := g.slot i q x h
    exact ⟨v, e, s.mv m⟩
  own := fun i x a h hs => by
    obtain ⟨v, e, sl⟩ := g.slot i _ x h
    rw [hs] at e; cases e
    rcases sl with ⟨a', o, ev, ha, c⟩ | sl
    · cases ev
      exact ⟨(m.e.2 _ _ ha).trans (g.own i x a h hs).1, (g.own i x a h hs).2⟩
    · exact (sc_noref sl.1 sl.2).elim
  dis := g.dis
theorem Good.mvr (g : Good K F0 H0 σ F H env) : Mv F H F H := .refl g.fh
/-- a slot forgotten -/
theorem get_set_none {env : PEnv} {i j : Nat} {z : Mo × P} (h : (env.set i none)[j]? = some (some z)) : j ≠ i ∧ env[j]? = some (some z) := by
  by_cases e : i = j
  · subst e
    by_cases hi : i < env.length
    · rw [List.getElem?_set_self hi] at h; cases h
    · rw [List.getElem?_eq_none (by simpa using hi)] at h; cases h
  · rw [List.getElem?_set_ne e] at h
    exact ⟨fun z => e z.symm, h⟩
theorem get_set_some {env : PEnv} {i j : Nat} {z w : Mo × P} (h : (env.set i (some w))[j]? = some (some z)) : (j = i ∧ z = w ∧ i < env.length) ∨ (j ≠ i ∧ env[j]? = some (some z)) := by
  by_cases e : i = j
  · subst e
    by_cases hi : i < env.length
    · rw [List.getElem?_set_self hi] at h; cases h; exact .inl ⟨rfl, rfl, hi⟩
    · rw [List.getElem?_eq_none (by simpa using hi)] at h; cases h
  · rw [List.getElem?_set_ne e] at h
    exact .inr ⟨fun z => e z.symm, h⟩
/-- the slot i gets a value that is not changed any more -/
theorem Good.setV (g : Good K F0 H0 σ F H env) {i : Nat} {v : V} {x : P} (h : R K F v x) : Good K F0 H0 (σ.set i (some v)) F H (env.set i (some (Mo.v, x))) where
  fh := g.fh
  hh := g.hh
  e := g.e
  len := by rw [List.length_set, List.length_set]; exact g.len
  slot := fun j m y hj => by
    rcases get_set_some hj with ⟨rfl, e, hi⟩ | ⟨n, hj⟩
    · cases e
      exact ⟨v, by rw [List.getElem?_set_self (Nat.lt_of_lt_of_le hi g.len)], h⟩
    · obtain ⟨w, e, s⟩ := g.slot j m y hj
      exact ⟨w, by rw [List.getElem?_set_ne (fun z => n z.symm)]; exact e, s⟩
  own := fun j y a hj hs => by
    rcases get_set_some hj with ⟨rfl, e, hi⟩ | ⟨n, hj⟩
    · cases e
    · rw [List.getElem?_set_ne (fun z => n z.symm)] at hs
      exact g.own j y a hj hs
  dis := fun j k y z a hjk hj hk sj sk => by
    rcases get_set_some hj with ⟨rfl, e, hi⟩ | ⟨n, hj⟩
    · cases e
    rcases get_set_some hk with ⟨rfl, e, hi⟩ | ⟨n', hk⟩
    · cases e
    rw [List.getElem?_set_ne (fun z => n z.symm)] at sj
    rw [List.getElem?_set_ne (fun z => n' z.symm)] at sk
    exact g.dis j k y z a hjk hj hk sj sk
/-- the slot i gets what is no object -/
theorem Good.setS (g : Good K F0 H0 σ F H env) {i : Nat} {v : V} {x : P} (hs : scB x = true) (h : R K F v x) : Good K F0 H0 (σ.set i (some v)) F H (env.set i (some (Mo.o, x))) where
  fh := g.fh
  hh := g.hh
  e := g.e
  len := by rw [List.length_set, List.length_set]; exact g.len
  slot := fun j m y hj => by
    rcases get_set_some hj with ⟨rfl, e, hi⟩ | ⟨n, hj⟩
    · cases e
      exact ⟨v, by rw [List.getElem?_set_self (Nat.lt_of_lt_of_le hi g.len)], .inr ⟨hs, h⟩⟩
    · obtain ⟨w, e, s⟩ := g.slot j m y hj
      exact ⟨w, by rw [List.getElem?_set_ne (fun z => n z.symm)]; exact e, s⟩
  own := fun j y a hj hq => by
    rcases get_set_some hj with ⟨ej, e, hi⟩ | ⟨n, hj⟩
    · subst ej
      rw [List.getElem?_set_self (Nat.lt_of_lt_of_le hi g.len)] at hq
      cases hq
      exact (sc_noref hs h).elim
    · rw [List.getElem?_set_ne (fun z => n z.symm)] at hq
      exact g.own j y a hj hq
  dis := fun j k y z a hjk hj hk sj sk => by
    rcases get_set_some hj with ⟨ej, e, hi⟩ | ⟨n, hj⟩
    · subst ej
      rw [List.getElem?_set_self (Nat.lt_of_lt_of_le hi g.len)] at sj
      cases sj
      exact (sc_noref hs h).elim
    rcases get_set_some hk with ⟨ek, e, hi⟩ | ⟨n', hk⟩
    · subst ek
      rw [List.getElem?_set_self (Nat.lt_of_lt_of_le hi g.len)] at sk
      cases sk
      exact (sc_noref hs h).elim
    rw [List.getElem?_set_ne (fun z => n z.symm)] at sj
    rw [List.getElem?_set_ne (fun z => n' z.symm)] at sk
    exact g.dis j k y z a hjk hj hk sj sk
/-- the slot i gets a new list that may be changed -/
theorem Good.setO (g : Good K F0 H0 σ F H env) {i : Nat} {v : V} {x : P} (m : Mv F H F' H') (h : Ow K H F' H' v x) : Good K F0 H0 (σ.set i (some v)) F' H' (env.set i (some (Mo.o, x))) := by
  have g' := g.mv m
  rcases h with ⟨a, o, rfl, na, nf, ha, c⟩ | h
  case inr => exact g'.setS h.1 h.2
  have fresh : ∀ (j : Nat) y, env[j]? = some (some (Mo.o, y)) → σ[j]? = some (some (.ref a)) → False := fun j y hj sj => by
    obtain ⟨w, e, sl⟩ := g.slot j _ y hj
    rw [sj] at e; cases e
    rcases sl with ⟨b, u, ew, hb, _⟩ | sl
    · cases ew
      rw [na] at hb; cases hb
    · exact sc_noref sl.1 sl.2
  refine ⟨g'.fh, g'.hh, g'.e, by rw [List.length_set, List.length_set]; exact g.len, fun j q y hj => ?_, fun j y b hj hs => ?_, fun j k y z b hjk hj hk sj sk => ?_⟩
  · rcases get_set_some hj with ⟨rfl, e, hi⟩ | ⟨n, hj⟩
    · cases e
      exact ⟨_, by rw [List.getElem?_set_self (Nat.lt_of_lt_of_le hi g.len)], .inl ⟨a, o, rfl, ha, c⟩⟩
    · obtain ⟨w, e, s⟩ := g'.slot j q y hj
      exact ⟨w, by rw [List.getElem?_set_ne (fun z => n z.symm)]; exact e, s⟩
  · rcases get_set_some hj with ⟨rfl, e, hi⟩ | ⟨n, hj⟩
    · rw [List.getElem?_set_self (Nat.lt_of_lt_of_le hi g.len)] at hs
      cases hs
      refine ⟨nf, ?_⟩
      cases e : H0 a with
      | none => rfl
      | some u => rw [g.hh _ _ e] at na; cases na
    · rw [List.getElem?_set_ne (fun z => n z.symm)] at hs
      exact g'.own j y b hj hs
  · rcases get_set_some hj with ⟨ej, _, hi⟩ | ⟨n, hj2⟩
    · rcases get_set_some hk with ⟨ek, _, _⟩ | ⟨n', hk2⟩
      · exact hjk (ej.trans ek.symm)
      · subst ej
        rw [List.getElem?_set_self (Nat.lt_of_lt_of_le hi g.len)] at sj
        cases sj
        rw [List.getElem?_set_ne (fun z => n' z.symm)] at sk
        exact fresh k z hk2 sk
    · rw [List.getElem?_set_ne (fun z => n z.symm)] at sj
      rcases get_set_some hk with ⟨ek, _, hi⟩ | ⟨n', hk2⟩
      · subst ek
        rw [List.getElem?_set_self (Nat.lt_of_lt_of_le hi g.len)] at sk
        cases sk
        exact fresh j y hj2 sj
      · rw [List.getElem?_set_ne (fun z => n' z.symm)] at sk
        exact g.dis j k y z b hjk hj2 hk2 sj sk
/-- a slot forgotten -/
theorem Good.drop (g : Good K F0 H0 σ F H env) (i : Nat) (s : Option V) : Good K F0 H0 (σ.set i s) F H (env.set i none) where
  fh := g.fh
  hh := g.hh
  e := g.e
  len := by rw [List.length_set, List.length_set]; exact g.len
  slot := fun j m y hj => by
    obtain ⟨n, hj⟩ := get_set_none hj
    obtain ⟨w, e, s⟩ := g.slot j m y hj
    exact ⟨w, by rw [List.getElem?_set_ne (fun z => n z.symm)]; exact e, s⟩
  own := fun j y a hj hs => by
    obtain ⟨n, hj⟩ := get_set_none hj
    rw [List.getElem?_set_ne (fun z => n z.symm)] at hs
    exact g.own j y a hj hs
  dis := fun j k y z a hjk hj hk sj sk => by
    obtain ⟨n, hj⟩ := get_set_none hj
    obtain ⟨n', hk⟩ := get_set_none hk
    rw [List.getElem?_set_ne (fun z => n z.symm)] at sj
    rw [List.getElem?_set_ne (fun z => n' z.symm)] at sk
    exact g.dis j k y z a hjk hj hk sj sk
/-- what slot i owns is changed -/
theorem Good.put (g : Good K F0 H0 σ F H env) {i : Nat} {x y : P} {a : Addr} {o : HO} (hi : env[i]? = some (some (Mo.o, x))) (hs : σ[i]? = some (some (.ref a))) (c : Cell K F a o y) : Good K F0 H0 σ F (upd H a o) (env.set i (some (Mo.o, y))) := by
  obtain ⟨nf, nh⟩ := g.own i x a hi hs
  refine ⟨same_put g.fh nf, fun b u e => by rw [upd_ne (ne_of_none e nh)]; exact g.hh _ _ e, g.e, by rw [List.length_set]; exact g.len, fun j q z hj => ?_, fun j z b hj sj => ?_, fun j k z w b hjk hj hk sj sk => ?_⟩
  · rcases get_set_some hj with ⟨rfl, e, _⟩ | ⟨n, hj⟩
    · cases e
      exact ⟨_, hs, .inl ⟨a, o, rfl, upd_same, c⟩⟩
    · obtain ⟨w, e, s⟩ := g.slot j q z hj
      refine ⟨w, e, ?_⟩
      cases q with
      | v => exact s
      | b => exact s
      | o =>
        rcases s with ⟨b, u, rfl, hb, cb⟩ | s
        · exact .inl ⟨b, u, rfl, by rw [upd_ne (fun z => g.dis j i _ _ a n hj hi (by rw [← z]; exact e) hs)]; exact hb, cb⟩
        · exact .inr s
  · rcases get_set_some hj with ⟨rfl, e, _⟩ | ⟨n, hj⟩
    · exact g.own _ _ _ hi sj
    · exact g.own j z b hj sj
  · rcases get_set_some hj with ⟨ej, e, _⟩ | ⟨n, hj2⟩
    · rcases get_set_some hk with ⟨ek, _, _⟩ | ⟨n', hk2⟩
      · exact hjk (ej.trans ek.symm)
      · subst ej; exact g.dis _ k _ w b hjk hi hk2 sj sk
    · rcases get_set_some hk with ⟨ek, _, _⟩ | ⟨n', hk2⟩
      · subst ek; exact g.dis j _ z _ b hjk hj2 hi sj sk
      · exact g.dis j k z w b hjk hj2 hk2 sj sk
/-- what slot i owns is not changed any more -/
theorem Good.frz (g : Good K F0 H0 σ F H env) {i : Nat} {x : P} (hi : env[i]? = some (some (Mo.o, x))) : ∃ F', Good K F0 H0 σ F' H (env.set i (some (Mo.v, x))) := by
  obtain ⟨v, hs, sl⟩ := g.slot i _ x hi
  rcases sl with ⟨a, o, rfl, ha, c⟩ | sl
  case inr =>
    have g2 := g.setV (i := i) sl.2
    have e : σ.set i (some v) = σ := by
      refine List.ext_getElem? fun j => ?_
      by_cases hj : i = j
      · subst hj
        rw [List.getElem?_set_self (List.getElem?_eq_some_iff.mp hs).1, hs]
      · rw [List.getElem?_set_ne hj]
    rw [e] at g2
    exact ⟨F, g2⟩
  obtain ⟨nf, nh⟩ := g.own i x a hi hs
  have se : Same F (upd F a o) := same_new nf
  have hr : R K (upd F a o) (.ref a) x := Cell.r upd_same (c.mono se)
  refine ⟨upd F a o, fun b u e => ?_, g.hh, ⟨g.e.1.trans se, fun b u e => ?_⟩, by rw [List.length_set]; exact g.len, fun j q z hj => ?_, fun j z b hj sj => ?_, fun j k z w b hjk hj hk sj sk => ?_⟩
  · by_cases hb : b = a
    · subst hb; rw [upd_same] at e; cases e; exact ha
    · rw [upd_ne hb] at e; exact g.fh _ _ e
  · rw [upd_ne (ne_of_none e nh)]; exact g.e.2 _ _ e
  · rcases get_set_some hj with ⟨rfl, e, _⟩ | ⟨n, hj⟩
    · cases e
      exact ⟨_, hs, hr⟩
    · obtain ⟨w, e, s⟩ := g.slot j q z hj
      refine ⟨w, e, ?_⟩
      cases q with
      | v => exact R.mono se s
      | b => exact ⟨Tp.mono se (Same.refl _) s.1, s.2⟩
      | o =>
        rcases s with ⟨b, u, rfl, hb, cb⟩ | s
        · exact .inl ⟨b, u, rfl, hb, cb.mono se⟩
        · exact .inr ⟨s.1, R.mono se s.2⟩
  · rcases get_set_some hj with ⟨rfl, e, _⟩ | ⟨n, hj⟩
    · cases e
    · refine ⟨?_, (g.own j z b hj sj).2⟩
      rw [upd_ne fun y => g.dis j i _ _ a n hj hi (by rw [← y]; exact sj) hs]
      exact (g.own j z b hj sj).1
  · rcases get_set_some hj with ⟨rfl, e, _⟩ | ⟨n, hj⟩
    · cases e
    · rcases get_set_some hk with ⟨rfl, e, _⟩ | ⟨n', hk⟩
      · cases e
      · exact g.dis j k z w b hjk hj hk sj sk
end
/-- an exception's own dict -/
def XF (K : PySem.W.Frag) (F : Hp) (d : Option Addr) (ns : List Str) (xs : List P) : Prop :=
  (d = none ∧ ns = [] ∧ xs = []) ∨ ∃ a fs, d = some a ∧ F a = some (.xd fs) ∧ fs.map Prod.fst = ns ∧ RL K F (fs.map Prod.snd) xs
theorem XF.r {K : PySem.W.Frag} {F : Hp} {d : Option Addr} {ns : List Str} {xs : List P} (h : XF K F d ns xs) (a C : Addr) : R K F (.ref a) (.exc a d C ns xs) := by
  rcases h with ⟨rfl, rfl, rfl⟩ | ⟨a', fs, rfl, h, e, r⟩
  · exact .exc0 a C
  · exact .exc1 h e rfl r
def XOk (K : PySem.W.Frag) (W : WX) (σ : L2.St) (F H : Hp) (Xp : XP) : Prop := ∀ F' H' C d ns xs, Mv F H F' H' → XF K F' d ns xs → Xp C ns xs → W (.ref C) d σ H'
theorem XOk.mv {K : PySem.W.Frag} {W : WX} {σ : L2.St} {F H F' H' : Hp} {Xp : XP} (x : XOk K W σ F H Xp) (m : Mv F H F' H') : XOk K W σ F' H' Xp := fun F2 H2 C d ns xs m2 f h => x F2 H2 C d ns xs (m.trans m2) f h
abbrev Rel := Hp → Hp → Hp → V → P → Prop
abbrev rV (K : PySem.W.Frag) : Rel := fun _ F' _ v x => R K F' v x
abbrev rC (K : PySem.W.Frag) : Rel := fun _ F' H' v x => Tp K F' H' v x
abbrev rO (K : PySem.W.Frag) : Rel := fun H F' H' v x => Ow K H F' H' v x
def SimE (K : PySem.W.Frag) (W : WX) (rel : Rel) (t : TE) (w : WE) : Prop :=
  ∀ F0 H0 σ F H env Qp Xp Q, Good K F0 H0 σ F H env → w env Qp Xp → XOk K W σ F H Xp → (∀ F' H' v x, Mv F H F' H' → rel H F' H' v x → Qp x → Q v H') → t σ H Q
def SimT (K : PySem.W.Frag) (W : WX) (t : TT) (w : WT) : Prop :=
  ∀ F0 H0 σ F H env Qp Xp Q, Good K F0 H0 σ F H env → w env Qp Xp → XOk K W σ F H Xp → (∀ F' H' b, Mv F H F' H' → Qp b → Q b H') → t σ H Q
/-- arguments, each to be read (b) or kept (v) -/
def AL (K : PySem.W.Frag) (F H : Hp) : List Mo → List V → List P → Prop
  | [], [], [] => True
  | .v :: ms, v :: vs, x :: xs => R K F v x ∧ AL K F H ms vs xs
  | .b :: ms, v :: vs, x :: xs => Tp K F H v x ∧ AL K F H ms vs xs
  | _, _, _ => False
theorem AL.mv {K : PySem.W.Frag} {F H F' H' : Hp} (m : Mv F H F' H') : ∀ {ms : List Mo} {vs : List V} {xs : List P}, AL K F H ms vs xs → AL K F' H' ms vs xs
  | [], [], [], _ => trivial
  | .v :: ms, v :: vs, x :: xs, h => ⟨h.1.mv m, AL.mv (ms := ms) m h.2⟩
  | .b :: ms, v :: vs, x :: xs, h => ⟨h.1.mv m, AL.mv (ms := ms) m h.2⟩
  | [], _ :: _, _, h => h.elim
  | [], [], _ :: _, h => h.elim
  | .o :: _, _, _, h => by unfold AL at h; exact h.elim
  | .v :: _, [], _, h => h.elim
  | .b :: _, [], _, h => h.elim
  | .v :: _, _ :: _, [], h => h.elim
  | .b :: _, _ :: _, [], h => h.elim
def SimA (K : PySem.W.Frag) (W : WX) (ms : List Mo) (t : TA) (w : WA) : Prop :=
  ∀ F0 H0 σ F H env Qp Xp Q, Good K F0 H0 σ F H env → w env Qp Xp → XOk K W σ F H Xp → (∀ F' H' vs xs, Mv F H F' H' → AL K F' H' ms vs xs → Qp xs → Q vs H') → t σ H Q
def DOk (K : PySem.W.Frag) (ro : Bool) (F0 H0 : Hp) (Dp : PEnds) (D : Ends) : Prop :=
  (∀ σ F H env, Good K F0 H0 σ F H env → Dp.nx env → D.nx σ H) ∧
  (∀ F H v x, Mv F0 H0 F H → (if ro = true then Ow K H0 F H v x else R K F v x) → Dp.rt x → D.rt v H) ∧
  (∀ σ F H env, Good K F0 H0 σ F H env → Dp.bk env → D.bk σ H) ∧
  (∀ σ F H env, Good K F0 H0 σ F H env → Dp.ct env → D.ct σ H)
def WOk (K : PySem.W.Frag) (W : WX) (F0 H0 : Hp) (ex : PEnv → XP) : Prop := ∀ σ F H env C d ns xs, Good K F0 H0 σ F H env → XF K F d ns xs → ex env C ns xs → W (.ref C) d σ H
theorem WOk.x {K : PySem.W.Frag} {W : WX} {F0 H0 : Hp} {ex : PEnv → XP} (w : WOk K W F0 H0 ex) {σ : L2.St} {F H : Hp} {env : PEnv} (g : Good K F0 H0 σ F H env) : XOk K W σ F H (ex env) := fun F' H' C d ns xs m f h => w σ F' H' env C d ns xs (g.mv m) f h
def SimS (K : PySem.W.Frag) (W : WX) (ro : Bool) (t : TS) (w : WS) : Prop :=
  ∀ F0 H0 σ F H env Dp D, Good K F0 H0 σ F H env → w Dp env → DOk K ro F0 H0 Dp D → WOk K W F0 H0 Dp.ex → t D σ H
end Pf

namespace Pf
open PySem PySem.Spec PyProof.Rows L2
inductive Rk | V | C | O
def rel (K : PySem.W.Frag) : Rk → Rel
  | .V => rV K
  | .C => rC K
  | .O => rO K
theorem rel_back {K : PySem.W.Frag} {k : Rk} {H1 H2 F H : Hp} {v : V} {x : P} (s : Same H1 H2) (h : rel K k H2 F H v x) : rel K k H1 F H v x := by
  cases k with
  | V => exact h
  | C => exact h
  | O =>
    rcases h with ⟨a, o, e, n, f, ha, c⟩ | h
    · exact .inl ⟨a, o, e, s.free n, f, ha, c⟩
    · exact .inr h
section
variable {K : PySem.W.Frag} {W : WX} {k : Rk}
abbrev SE (K : PySem.W.Frag) (W : WX) (k : Rk) (t : TE) (w : WE) : Prop := SimE K W (rel K k) t w
theorem se_vc {t : TE} {w : WE} (h : SE K W .V t w) : SE K W .C t w := fun F0 H0 σ F H env Qp Xp Q g hw hx q => h F0 H0 σ F H env Qp Xp Q g hw hx fun F' H' v x m r z => q F' H' v x m (.inl r) z
theorem se_oc {t : TE} {w : WE} (h : SE K W .O t w) : SE K W .C t w := fun F0 H0 σ F H env Qp Xp Q g hw hx q => h F0 H0 σ F H env Qp Xp Q g hw hx fun F' H' v x m r z => q F' H' v x m (Ow.tp r) z
theorem Ow.frz {F H F' H' : Hp} {v : V} {x : P} (m : Mv F H F' H') (h : Ow K H F' H' v x) : ∃ F2, Mv F H F2 H' ∧ R K F2 v x := by
  rcases h with ⟨a, o, rfl, n, f, ha, c⟩ | h
  case inr => exact ⟨F', m, h.2⟩
  have s : Same F' (upd F' a o) := same_new f
  refine ⟨upd F' a o, ⟨⟨m.e.1.trans s, fun b u e => by rw [upd_ne (ne_of_none e n)]; exact m.e.2 _ _ e⟩, m.s, fun b u e => ?_⟩, ?_⟩
  · by_cases hb : b = a
    · subst hb; rw [upd_same] at e; cases e; exact ha
    · rw [upd_ne hb] at e; exact m.fh _ _ e
  · exact Cell.r upd_same (c.mono s)
theorem se_ov {t : TE} {w : WE} (h : SE K W .O t w) : SE K W .V t w := fun F0 H0 σ F H env Qp Xp Q g hw hx q => h F0 H0 σ F H env Qp Xp Q g hw hx fun F' H' v x m r z => by
  obtain ⟨F2, m2, r2⟩ := Ow.frz m r
  exact q F2 H' v x m2 r2 z
def wV (i : Nat) : WE := fun env Q _ => match env[i]? with
  | some (some (.v, x)) => Q x
  | _ => False
def wC (i : Nat) : WE := fun env Q _ => match env[i]? with
  | some (some (_, x)) => Q x
  | _ => False
def wK (x : P) : WE := fun _ Q _ => Q x
theorem slot_tp {F0 H0 F H : Hp} {σ : L2.St} {env : PEnv} (g : Good K F0 H0 σ F H env) {i : Nat} {m : Mo} {x : P} (h : env[i]? = some (some (m, x))) : ∃ v, σ[i]? = some (some v) ∧ Tp K F H v x := by
  obtain ⟨v, e, s⟩ := g.slot i m x h
  refine ⟨v, e, ?_⟩
  cases m with
  | v => exact .inl s
  | b => exact Tp.mono (Same.refl _) g.hh s.1
  | o => exact s.elim (fun ⟨a, o, e, ha, c⟩ => .inr ⟨a, o, e, ha, c.t⟩) fun s => .inl s.2
theorem se_v (i : Nat) : SE K W .V (tVar i) (wV i) := fun F0 H0 σ F H env Qp Xp Q g hw hx q => by
  unfold wV at hw
  split at hw
  · rename_i x e
    obtain ⟨v, e, s⟩ := g.slot i _ x e
    exact ⟨v, e, q F H v x g.mvr s hw⟩
  · exact hw.elim
theorem se_c (i : Nat) : SE K W .C (tVar i) (wC i) := fun F0 H0 σ F H env Qp Xp Q g hw hx q => by
  unfold wC at hw
  split at hw
  · rename_i m x e
    obtain ⟨v, e, s⟩ := slot_tp g e
    exact ⟨v, e, q F H v x g.mvr s hw⟩
  · exact hw.elim
theorem se_k {v : V} {x : P} (h : ∀ F, R K F v x) : SE K W .V (tC v) (wK x) := fun F0 H0 σ F H env Qp Xp Q g hw hx q => q F H v x g.mvr (h F) hw
theorem se_int {n : Int} : SE K W .V (tC (.int n)) (wK (.int n)) := se_k fun _ => .int n
theorem se_bl {b : Bool} : SE K W .V (tC (.bl b)) (wK (.bl b)) := se_k fun _ => .bl b
theorem se_non : SE K W .V (tC .non) (wK .non) := se_k fun _ => .non
theorem se_str {z : Str} (h : SOk z) : SE K W .V (tC (.str z)) (wK (.str z)) := se_k fun _ => .str h
theorem se_adr {a : Addr} : SE K W .V (tC (.ref a)) (wK (.adr a)) := se_k fun _ => .adr a
theorem se_ty {s : String} : SE K W .V (tC (.ty s)) (wK (.ty s)) := se_k fun _ => .ty s
def sokB (z : Str) : Bool := decide (z.length ≤ sizeLine) && z.cps.toList.all fun c => decide (c < 1114112)
theorem sok_by {z : Str} (h : sokB z = true) : SOk z := by
  unfold sokB at h
  rw [Bool.and_eq_true, List.all_eq_true] at h
  exact ⟨of_decide_eq_true h.1, fun c hc => of_decide_eq_true (h.2 c hc)⟩
abbrev PF2 := P → P → (P → Prop) → Prop
def OpS (K : PySem.W.Frag) (k : Rk) (r : R2) (f : PF2) : Prop := ∀ F H v w x y (Qp : P → Prop) (Q : VK), Same F H → Tp K F H v x → Tp K F H w y → f x y Qp → (∀ F' H' u z, Mv F H F' H' → rel K k H F' H' u z → Qp z → Q u H') → r v w H Q
def wOp (f : PF2) (a b : WE) : WE := fun env Q X => a env (fun x => b env (fun y => f x y Q) X) X
theorem se_op {ta tb : TE} {wa wb : WE} {r : R2} {f : PF2} (ho : OpS K k r f) (ha : SE K W .C ta wa) (hb : SE K W .C tb wb) : SE K W k (tOp r ta tb) (wOp f wa wb) :=
  fun F0 H0 σ F H env Qp Xp Q g hw hx q => ha F0 H0 σ F H env _ Xp _ g hw hx fun F1 H1 v x m1 r1 h1 =>
    hb F0 H0 σ F1 H1 env _ Xp _ (g.mv m1) h1 (hx.mv m1) fun F2 H2 w y m2 r2 h2 =>
      ho F2 H2 v w x y Qp Q m2.fh (Tp.mv m2 r1) r2 h2 fun F3 H3 u z m3 r3 h3 => q F3 H3 u z ((m1.trans m2).trans m3) (rel_back (m1.s.trans m2.s) r3) h3
abbrev PF1 := P → (P → Prop) → Prop
def UnS (K : PySem.W.Frag) (k : Rk) (r : V → Hp → VK → Prop) (f : PF1) : Prop := ∀ F H v x (Qp : P → Prop) (Q : VK), Same F H → Tp K F H v x → f x Qp → (∀ F' H' u z, Mv F H F' H' → rel K k H F' H' u z → Qp z → Q u H') → r v H Q
def wUn (f : PF1) (a : WE) : WE := fun env Q X => a env (fun x => f x Q) X
theorem se_un {ta : TE} {wa : WE} {r : V → Hp → VK → Prop} {f : PF1} (ho : UnS K k r f) (ha : SE K W .C ta wa) : SE K W k (tUn r ta) (wUn f wa) :=
  fun F0 H0 σ F H env Qp Xp Q g hw hx q => ha F0 H0 σ F H env _ Xp _ g hw hx fun F1 H1 v x m1 r1 h1 =>
    ho F1 H1 v x Qp Q m1.fh r1 h1 fun F3 H3 u z m3 r3 h3 => q F3 H3 u z (m1.trans m3) (rel_back m1.s r3) h3
def onB (x : P) (Q : Bool → Prop) : Prop := match x with
  | .bl b => Q b
  | _ => False
theorem onB_of {F H : Hp} {v : V} {x : P} {Q : Bool → Prop} (r : Tp K F H v x) (h : onB x Q) : ∃ b, v = .bl b ∧ x = .bl b ∧ Q b := by
  cases x with
  | bl b =>
    rcases r with r | ⟨_, _, _, _, c⟩
    · cases r; exact ⟨b, rfl, rfl, h⟩
    · exact c.elim
  | _ => exact h.elim
abbrev ST (K : PySem.W.Frag) (W : WX) (t : TT) (w : WT) : Prop := SimT K W t w
def wT (a : WE) : WT := fun env Q X => a env (fun x => onB x Q) X
theorem st_test {ta : TE} {wa : WE} (ha : SE K W .C ta wa) : ST K W (tTest ta) (wT wa) :=
  fun F0 H0 σ F H env Qp Xp Q g hw hx q => ha F0 H0 σ F H env _ Xp _ g hw hx fun F1 H1 v x m1 r1 h1 => by
    obtain ⟨b, rfl, rfl, h⟩ := onB_of r1 h1
    exact ⟨b, rfl, q F1 H1 b m1 h⟩
theorem st_val {ta : TE} {wa : WE} (ha : SE K W .C ta wa) : ST K W (tB ta) (wT wa) := st_test ha
/-- a list, a dict, a text, an int as a test -/
def onT (x : P) (Q : Bool → Prop) : Prop := match x with
  | .bl b => Q b
  | .non => Q false
  | .int i => Q (i != 0)
  | .str z => Q ((z.length : Int) != 0)
  | .lst xs => Q (!xs.isEmpty)
  | .tup xs => Q (!xs.isEmpty)
  | _ => False
def wTr (a : WE) : WT := fun env Q X => a env (fun x => onT x Q) X
def wAndV (a b : WE) : WE := fun env Q X => a env (fun x => onB x fun c => if c = true then b env Q X else Q (.bl false)) X
theorem se_and {ta tb : TE} {wa wb : WE} (ha : SE K W .C ta wa) (hb : SE K W .V tb wb) : SE K W .V (tAndV ta tb) (wAndV wa wb) :=
  fun F0 H0 σ F H env Qp Xp Q g hw hx q => ha F0 H0 σ F H env _ Xp _ g hw hx fun F1 H1 v x m1 r1 h1 => by
    obtain ⟨c, rfl, rfl, h⟩ := onB_of r1 h1
    refine ⟨c, rfl, ?_⟩
    cases c with
    | true => exact iteT (hb F0 H0 σ F1 H1 env Qp Xp Q (g.mv m1) (by simpa using h) (hx.mv m1) fun F2 H2 u z m2 r2 h2 => q F2 H2 u z (m1.trans m2) r2 h2)
    | false => exact iteF (q F1 H1 _ _ m1 (R.bl false) (by simpa using h))
def wAnd (a b : WT) : WT := fun env Q X => a env (fun c => if c = true then b env Q X else Q false) X
def wOr (a b : WT) : WT := fun env Q X => a env (fun c => if c = true then Q true else b env Q X) X
def wNot (a : WT) : WT := fun env Q X => a env (fun c => Q (!c)) X
theorem st_and {ta tb : TT} {wa wb : WT} (ha : ST K W ta wa) (hb : ST K W tb wb) : ST K W (tAnd ta tb) (wAnd wa wb) :=
  fun F0 H0 σ F H env Qp Xp Q g hw hx q => ha F0 H0 σ F H env _ Xp _ g hw hx fun F1 H1 c m1 h => by
    cases c with
    | true => exact iteT (hb F0 H0 σ F1 H1 env Qp Xp Q (g.mv m1) (by simpa using h) (hx.mv m1) fun F2 H2 z m2 h2 => q F2 H2 z (m1.trans m2) h2)
    | false => exact iteF (q F1 H1 _ m1 (by simpa using h))
theorem st_or {ta tb : TT} {wa wb : WT} (ha : ST K W ta wa) (hb : ST K W tb wb) : ST K W (tOr ta tb) (wOr wa wb) :=
  fun F0 H0 σ F H env Qp Xp Q g hw hx q => ha F0 H0 σ F H env _ Xp _ g hw hx fun F1 H1 c m1 h => by
    cases c with
    | true => exact iteT (q F1 H1 _ m1 (by simpa using h))
    | false => exact iteF (hb F0 H0 σ F1 H1 env Qp Xp Q (g.mv m1) (by simpa using h) (hx.mv m1) fun F2 H2 z m2 h2 => q F2 H2 z (m1.trans m2) h2)
theorem st_not {ta : TT} {wa : WT} (ha : ST K W ta wa) : ST K W (tNot ta) (wNot wa) :=
  fun F0 H0 σ F H env Qp Xp Q g hw hx q => ha F0 H0 σ F H env _ Xp _ g hw hx fun F1 H1 c m1 h => q F1 H1 _ m1 h
theorem st_yes : ST K W tYes (fun _ Q _ => Q true) := fun F0 H0 σ F H env Qp Xp Q g hw hx q => q F H true g.mvr hw
def wChain (f f' : PF2) (a b c : WE) : WE := fun env Q X => a env (fun x => b env (fun y => f x y fun z => onB z fun k => if k = true then c env (fun u => f' y u Q) X else Q (.bl false)) X) X
theorem se_chain {ta tb tc : TE} {wa wb wc : WE} {r r' : R2} {f f' : PF2} (ho : OpS K .V r f) (ho' : OpS K .V r' f') (ha : SE K W .C ta wa) (hb : SE K W .C tb wb) (hc : SE K W .C tc wc) : SE K W .V (tChain r r' ta tb tc) (wChain f f' wa wb wc) :=
  fun F0 H0 σ F H env Qp Xp Q g hw hx q => ha F0 H0 σ F H env _ Xp _ g hw hx fun F1 H1 v x m1 r1 h1 =>
    hb F0 H0 σ F1 H1 env _ Xp _ (g.mv m1) h1 (hx.mv m1) fun F2 H2 w y m2 r2 h2 =>
      ho F2 H2 v w x y _ _ m2.fh (Tp.mv m2 r1) r2 h2 fun F3 H3 u z m3 r3 h3 => by
        obtain ⟨c, rfl, rfl, h⟩ := onB_of (.inl r3 : Tp K F3 H3 u z) h3
        refine ⟨c, rfl, ?_⟩
        have m := (m1.trans m2).trans m3
        cases c with
        | true => exact iteT (hc F0 H0 σ F3 H3 env _ Xp _ (g.mv m) (by simpa using h) (hx.mv m) fun F4 H4 u z m4 r4 h4 =>
            ho' F4 H4 w u y z Qp Q m4.fh (Tp.mv (m3.trans m4) r2) r4 h4 fun F5 H5 u z m5 r5 h5 => q F5 H5 u z ((m.trans m4).trans m5) r5 h5)
        | false => exact iteF (q F3 H3 _ _ m (R.bl false) (by simpa using h))
def wNil : WA := fun _ Q _ => Q []
def wCons (a : WE) (r : WA) : WA := fun env Q X => a env (fun x => r env (fun xs => Q (x :: xs)) X) X
theorem sa_nil : SimA K W [] tNil wNil := fun F0 H0 σ F H env Qp Xp Q g hw hx q => q F H [] [] g.mvr trivial hw
theorem sa_v {ms : List Mo} {t : TE} {r : TA} {w : WE} {wr : WA} (h : SE K W .V t w) (hr : SimA K W ms r wr) : SimA K W (.v :: ms) (tCons t r) (wCons w wr) :=
  fun F0 H0 σ F H env Qp Xp Q g hw hx q => h F0 H0 σ F H env _ Xp _ g hw hx fun F1 H1 v x m1 r1 h1 =>
    hr F0 H0 σ F1 H1 env _ Xp _ (g.mv m1) h1 (hx.mv m1) fun F2 H2 vs xs m2 r2 h2 => q F2 H2 (v :: vs) (x :: xs) (m1.trans m2) ⟨R.mv m2 r1, r2⟩ h2
theorem sa_b {ms : List Mo} {t : TE} {r : TA} {w : WE} {wr : WA} (h : SE K W .C t w) (hr : SimA K W ms r wr) : SimA K W (.b :: ms) (tCons t r) (wCons w wr) :=
  fun F0 H0 σ F H env Qp Xp Q g hw hx q => h F0 H0 σ F H env _ Xp _ g hw hx fun F1 H1 v x m1 r1 h1 =>
    hr F0 H0 σ F1 H1 env _ Xp _ (g.mv m1) h1 (hx.mv m1) fun F2 H2 vs xs m2 r2 h2 => q F2 H2 (v :: vs) (x :: xs) (m1.trans m2) ⟨Tp.mv m2 r1, r2⟩ h2
def allV : List Mo → Bool
  | [] => true
  | .v :: ms => allV ms
  | _ => false
theorem AL.rl {F H : Hp} : ∀ {ms : List Mo} {vs : List V} {xs : List P}, allV ms = true → AL K F H ms vs xs → RL K F vs xs
  | [], [], [], _, _ => .nil
  | .v :: ms, v :: vs, x :: xs, a, h => .cons h.1 (AL.rl (ms := ms) a h.2)
  | [], _ :: _, _, _, h => h.elim
  | [], [], _ :: _, _, h => h.elim
  | .o :: _, _, _, a, h => by cases a
  | .b :: _, _, _, a, h => by cases a
  | .v :: _, [], _, _, h => h.elim
  | .v :: _, _ :: _, [], _, h => h.elim
def wTup (a : WA) : WE := fun env Q X => a env (fun xs => xs.length ≤ sizeLine ∧ Q (.tup xs)) X
def wLst (a : WA) : WE := fun env Q X => a env (fun xs => xs.length ≤ sizeLine ∧ Q (.lst xs)) X
theorem se_tup {ms : List Mo} {t : TA} {w : WA} (h : SimA K W ms t w) (hm : allV ms = true := by rfl) : SE K W .V (tTup t) (wTup w) :=
  fun F0 H0 σ F H env Qp Xp Q g hw hx q => h F0 H0 σ F H env _ Xp _ g hw hx fun F1 H1 vs xs m1 r1 h1 => by
    have r := AL.rl hm r1
    refine ⟨by rw [r.len]; exact h1.1, fun p np => ?_⟩
    have m2 := mv_frz (o := .tup vs) m1.fh np
    exact q _ _ _ _ (m1.trans m2) (R.tup upd_same (r.mono m2.e.1)) h1.2
theorem se_lst {ms : List Mo} {t : TA} {w : WA} (h : SimA K W ms t w) (hm : allV ms = true := by rfl) : SE K W .O (tLst t) (wLst w) :=
  fun F0 H0 σ F H env Qp Xp Q g hw hx q => h F0 H0 σ F H env _ Xp _ g hw hx fun F1 H1 vs xs m1 r1 h1 => by
    have r := AL.rl hm r1
    refine ⟨by rw [r.len]; exact h1.1, fun p np => ?_⟩
    have m2 := mv_new (o := .lst vs) m1.fh np
    exact q _ _ _ (.lst xs) (m1.trans m2) (.inl ⟨p, _, rfl, m1.s.free np, same_free m1.fh np, upd_same, vs, rfl, r⟩) h1.2
abbrev PFn := List P → (P → Prop) → Prop
def CallS (K : PySem.W.Frag) (k : Rk) (ms : List Mo) (r : List V → Hp → VK → Prop) (f : PFn) : Prop := ∀ F H vs xs (Qp : P → Prop) (Q : VK), Same F H → AL K F H ms vs xs → f xs Qp → (∀ F' H' u z, Mv F H F' H' → rel K k H F' H' u z → Qp z → Q u H') → r vs H Q
def wCB (f : PFn) (a : WA) : WE := fun env Q X => a env (fun xs => f xs Q) X
theorem se_cb {ms : List Mo} {t : TA} {w : WA} {r : List V → Hp → VK → Prop} {f : PFn} (hc : CallS K k ms r f) (h : SimA K W ms t w) : SE K W k (tCB r t) (wCB f w) :=
  fun F0 H0 σ F H env Qp Xp Q g hw hx q => h F0 H0 σ F H env _ Xp _ g hw hx fun F1 H1 vs xs m1 r1 h1 =>
    hc F1 H1 vs xs Qp Q m1.fh r1 h1 fun F2 H2 u z m2 r2 h2 => q F2 H2 u z (m1.trans m2) (rel_back m1.s r2) h2
abbrev PSp := List P → (P → Prop) → XP → Prop
def Res (K : PySem.W.Frag) (ro : Bool) (H F' H' : Hp) (v : V) (x : P) : Prop := if ro = true then Ow K H F' H' v x else R K F' v x
def spOf (K : PySem.W.Frag) (ms : List Mo) (ro : Bool) (p : PSp) : Sp := fun vs H Q E => ∃ F xs Qp Xp, Same F H ∧ AL K F H ms vs xs ∧ p xs Qp Xp ∧
  (∀ F' H' v x, Mv F H F' H' → Res K ro H F' H' v x → Qp x → Q v H') ∧ (∀ F' H' C d ns ys, Mv F H F' H' → XF K F' d ns ys → Xp C ns ys → E (.ref C) d H')
def rkOf : Bool → Rk
  | true => .O
  | false => .V
theorem Res.rel {ro : Bool} {H F' H' : Hp} {v : V} {x : P} (h : Res K ro H F' H' v x) : rel K (rkOf ro) H F' H' v x := by
  cases ro with
  | true => exact h
  | false => exact h
abbrev noX : XP := fun _ _ _ => False
def wCall0 (p : PSp) (a : WA) : WE := fun env Q X => a env (fun xs => p xs Q noX) X
def wCallX (p : PSp) (a : WA) : WE := fun env Q X => a env (fun xs => p xs Q X) X
theorem se_call0 {ms : List Mo} {ro : Bool} {p : PSp} {E : XK} {t : TA} {w : WA} (h : SimA K W ms t w) : SE K W (rkOf ro) (tCall (spOf K ms ro p) [] E t) (wCall0 p w) :=
  fun F0 H0 σ F H env Qp Xp Q g hw hx q => h F0 H0 σ F H env _ Xp _ g hw hx fun F1 H1 vs xs m1 r1 h1 => by
    rw [List.append_nil]
    exact ⟨F1, xs, Qp, noX, m1.fh, r1, h1, fun F2 H2 v x m2 r2 h2 => q F2 H2 v x (m1.trans m2) (rel_back m1.s r2.rel) h2, fun _ _ _ _ _ _ _ _ z => z.elim⟩
theorem se_callS {ms : List Mo} {ro : Bool} {p : PSp} {t : TA} {w : WA} (h : SimA K W ms t w) : SE K W (rkOf ro) (tCallS (spOf K ms ro p) (fun σ => L2.WE W σ) t) (wCallX p w) :=
  fun F0 H0 σ F H env Qp Xp Q g hw hx q => h F0 H0 σ F H env _ Xp _ g hw hx fun F1 H1 vs xs m1 r1 h1 =>
    ⟨F1, xs, Qp, Xp, m1.fh, r1, h1, fun F2 H2 v x m2 r2 h2 => q F2 H2 v x (m1.trans m2) (rel_back m1.s r2.rel) h2, fun F' H' C d ns ys m f z => hx F' H' C d ns ys (m1.trans m) f z⟩
end
end Pf

namespace Pf
open PySem PySem.Spec PyProof.Rows L2
section
variable {K : PySem.W.Frag} {W : WX} {k : Rk} {ro : Bool}
abbrev SS (K : PySem.W.Frag) (W : WX) (ro : Bool) (t : TS) (w : WS) : Prop := SimS K W ro t w
theorem Good.base {F0 H0 F H : Hp} {σ : L2.St} {env : PEnv} (g : Good K F0 H0 σ F H env) : Good K F H0 σ F H env := ⟨g.fh, g.hh, .refl, g.len, g.slot, g.own, g.dis⟩
theorem Good.back {F0 F1 H0 F H : Hp} {σ : L2.St} {env : PEnv} (e : Ext H0 F0 F1) (g : Good K F1 H0 σ F H env) : Good K F0 H0 σ F H env := ⟨g.fh, g.hh, e.trans (Same.refl _) g.e, g.len, g.slot, g.own, g.dis⟩
theorem Good.m {F0 H0 F H : Hp} {σ : L2.St} {env : PEnv} (g : Good K F0 H0 σ F H env) : Mv F0 H0 F H := ⟨g.e, g.hh, g.fh⟩
theorem DOk.base {F0 F1 H0 : Hp} {Dp : PEnds} {D : Ends} (e : Ext H0 F0 F1) (d : DOk K ro F0 H0 Dp D) : DOk K ro F1 H0 Dp D :=
  ⟨fun σ F H env g => d.1 σ F H env (g.back e), fun F H v x m => d.2.1 F H v x ⟨e.trans (Same.refl _) m.e, m.s, m.fh⟩, fun σ F H env g => d.2.2.1 σ F H env (g.back e), fun σ F H env g => d.2.2.2 σ F H env (g.back e)⟩
theorem WOk.base {F0 F1 H0 : Hp} {ex : PEnv → XP} (e : Ext H0 F0 F1) (d : WOk K W F0 H0 ex) : WOk K W F1 H0 ex := fun σ F H env C dd ns xs g => d σ F H env C dd ns xs (g.back e)
def wNx : WS := fun D env => D.nx env
def wSeq (a b : WS) : WS := fun D env => a { D with nx := b D } env
def wCut (a b : WS) : WS := fun D env => ∃ Mid : PEnv → Prop, a { D with nx := Mid } env ∧ ∀ env', Mid env' → b D env'
theorem ss_nx : SS K W ro tNext wNx := fun F0 H0 σ F H env Dp D g hw d x => d.1 σ F H env g hw
theorem ss_seq {t u : TS} {a b : WS} (ht : SS K W ro t a) (hu : SS K W ro u b) : SS K W ro (tSeq t u) (wSeq a b) := fun F0 H0 σ F H env Dp D g hw d x =>
  ht F0 H0 σ F H env _ _ g hw ⟨fun σ1 F1 H1 e1 g1 h1 => hu F0 H0 σ1 F1 H1 e1 Dp D g1 h1 d x, d.2⟩ x
theorem ss_cut {t u : TS} {a b : WS} (ht : SS K W ro t a) (hu : SS K W ro u b) : SS K W ro (Evl.tCut t u) (wCut a b) := fun F0 H0 σ F H env Dp D g ⟨Mid, h1, h2⟩ d x =>
  ⟨fun σ' H' => ∃ F' env', Good K F0 H0 σ' F' H' env' ∧ Mid env', ht F0 H0 σ F H env _ _ g h1 ⟨fun σ1 F1 H1 e1 g1 h1 => ⟨F1, e1, g1, h1⟩, d.2⟩ x, fun σ' H' ⟨F', env', g', m'⟩ => hu F0 H0 σ' F' H' env' Dp D g' (h2 env' m') d x⟩
/-- what slot i owns is kept from here on -/
def wFrz (i : Nat) (a : WS) : WS := fun D env => match env[i]? with
  | some (some (.o, x)) => a D (env.set i (some (.v, x)))
  | _ => a D env
theorem ss_frz {t : TS} {a : WS} (i : Nat) (ht : SS K W ro t a) : SS K W ro t (wFrz i a) := fun F0 H0 σ F H env Dp D g hw d x => by
  unfold wFrz at hw
  split at hw
  · rename_i y e
    obtain ⟨F', g'⟩ := g.frz e
    exact ht F0 H0 σ F' H _ Dp D g' hw d x
  · exact ht F0 H0 σ F H env Dp D g hw d x
def wAV (i : Nat) (w : WE) : WS := fun D env => w env (fun x => D.nx (env.set i (some (.v, x)))) (D.ex env)
def wAO (i : Nat) (w : WE) : WS := fun D env => w env (fun x => D.nx (env.set i (some (.o, x)))) (D.ex env)
theorem ss_av {i : Nat} {t : TE} {w : WE} (h : SE K W .V t w) : SS K W ro (tAsg t (gName i)) (wAV i w) := fun F0 H0 σ F H env Dp D g hw d x =>
  h F0 H0 σ F H env _ _ _ g hw (x.x g) fun F1 H1 v y m r q => d.1 _ F1 H1 _ ((g.mv m).setV r) q
theorem ss_ao {i : Nat} {t : TE} {w : WE} (h : SE K W .O t w) : SS K W ro (tAsg t (gName i)) (wAO i w) := fun F0 H0 σ F H env Dp D g hw d x =>
  h F0 H0 σ F H env _ _ _ g hw (x.x g) fun F1 H1 v y m r q => d.1 _ F1 H1 _ (g.setO m r) q
def Off (ts : List Nat) (σ σ' : L2.St) : Prop := σ'.length = σ.length ∧ ∀ j, j ∉ ts → σ'[j]? = σ[j]?
def SimG (K : PySem.W.Frag) (ts : List Nat) (g : TG) (w : P → PEnv → (PEnv → Prop) → Prop) : Prop :=
  ∀ F0 H0 σ F H env v x (kp : PEnv → Prop) (k : L2.St → Hp → Prop), Good K F0 H0 σ F H env → R K F v x → w x env kp → (∀ σ2 env2, Good K F0 H0 σ2 F H env2 → Off ts σ σ2 → kp env2 → k σ2 H) → g v σ H k
def SimGs (K : PySem.W.Frag) (ts : List Nat) (g : TGs) (w : List P → PEnv → (PEnv → Prop) → Prop) : Prop :=
  ∀ F0 H0 σ F H env vs xs (kp : PEnv → Prop) (k : L2.St → Hp → Prop), Good K F0 H0 σ F H env → RL K F vs xs → w xs env kp → (∀ σ2 env2, Good K F0 H0 σ2 F H env2 → Off ts σ σ2 → kp env2 → k σ2 H) → g vs σ H k
def wgN (i : Nat) : P → PEnv → (PEnv → Prop) → Prop := fun x env k => k (env.set i (some (.v, x)))
def wgT (gs : List P → PEnv → (PEnv → Prop) → Prop) : P → PEnv → (PEnv → Prop) → Prop := fun x env k => match x with
  | .tup xs => gs xs env k
  | _ => False
def wgNil : List P → PEnv → (PEnv → Prop) → Prop := fun xs env k => match xs with
  | [] => k env
  | _ => False
def wgCons (g : P → PEnv → (PEnv → Prop) → Prop) (gs : List P → PEnv → (PEnv → Prop) → Prop) : List P → PEnv → (PEnv → Prop) → Prop := fun xs env k => match xs with
  | x :: r => g x env fun env2 => gs r env2 k
  | _ => False
theorem Off.set {ts : List Nat} {σ : L2.St} {i : Nat} {v : Option V} (h : i ∈ ts) : Off ts σ (σ.set i v) := ⟨by rw [List.length_set], fun j hj => List.getElem?_set_ne fun e => hj (by rw [← e]; exact h)⟩
theorem Off.trans {ts : List Nat} {σ σ1 σ2 : L2.St} (a : Off ts σ σ1) (b : Off ts σ1 σ2) : Off ts σ σ2 := ⟨b.1.trans a.1, fun j h => (b.2 j h).trans (a.2 j h)⟩
theorem Off.mono {ts us : List Nat} {σ σ1 : L2.St} (h : ∀ x, x ∈ ts → x ∈ us) (a : Off ts σ σ1) : Off us σ σ1 := ⟨a.1, fun j hj => a.2 j fun z => hj (h j z)⟩
theorem sg_n (i : Nat) : SimG K [i] (gName i) (wgN i) := fun F0 H0 σ F H env v x kp k g r hw q => q _ _ (g.setV r) (.set List.mem_cons_self) hw
theorem sg_nil : SimGs K [] gNil wgNil := fun F0 H0 σ F H env vs xs kp k g r hw q => by
  cases r with
  | nil => exact ⟨rfl, q σ env g ⟨rfl, fun _ _ => rfl⟩ hw⟩
  | cons => exact hw.elim
theorem sg_cons {ts us : List Nat} {a : TG} {b : TGs} {wa : P → PEnv → (PEnv → Prop) → Prop} {wb : List P → PEnv → (PEnv → Prop) → Prop} (ha : SimG K ts a wa) (hb : SimGs K us b wb) : SimGs K (ts ++ us) (gCons a b) (wgCons wa wb) := fun F0 H0 σ F H env vs xs kp k g r hw q => by
  cases r with
  | nil => exact hw.elim
  | cons h r => exact ⟨_, _, rfl, ha F0 H0 σ F H env _ _ _ _ g h hw fun σ2 env2 g2 o2 h2 => hb F0 H0 σ2 F H env2 _ _ _ _ g2 r h2 fun σ3 env3 g3 o3 h3 => q σ3 env3 g3 ((o2.mono fun x hx => List.mem_append_left _ hx).trans (o3.mono fun x hx => List.mem_append_right _ hx)) h3⟩
/-- as many names as items -/
def wgLen : (n : Nat) → (List P → PEnv → (PEnv → Prop) → Prop) → List P → PEnv → (PEnv → Prop) → Prop := fun n w xs env k => xs.length = n ∧ w xs env k
theorem sg_t {ts : List Nat} {n : Nat} {b : TGs} {wb : List P → PEnv → (PEnv → Prop) → Prop} (hb : SimGs K ts b wb) : SimG K ts (gTup K n b) (wgT (wgLen n wb)) := fun F0 H0 σ F H env v x kp k g r hw q => by
  cases r with
  | tup h r => exact ⟨_, _, rfl, SqT.of (g.fh _ _ h), r.len.trans hw.1, hb F0 H0 σ F H env _ _ _ _ g r hw.2 q⟩
  | _ => exact hw.elim
def wRet (w : WE) : WS := fun D env => w env D.rt (D.ex env)
theorem ss_rv {t : TE} {w : WE} (h : SE K W .V t w) : SS K W false (tRet t) (wRet w) := fun F0 H0 σ F H env Dp D g hw d x =>
  h F0 H0 σ F H env _ _ _ g hw (x.x g) fun F1 H1 v y m r q => d.2.1 F1 H1 v y (g.mv m).m r q
theorem ss_ro {t : TE} {w : WE} (h : SE K W .O t w) : SS K W true (tRet t) (wRet w) := fun F0 H0 σ F H env Dp D g hw d x =>
  h F0 H0 σ F H env _ _ _ g hw (x.x g) fun F1 H1 v y m r q => d.2.1 F1 H1 v y (g.mv m).m (rel_back (k := .O) g.hh r) q
def wRetO (i : Nat) : WS := fun D env => match env[i]? with
  | some (some (.o, x)) => D.rt x
  | _ => False
theorem ss_roV (i : Nat) : SS K W true (tRet (tVar i)) (wRetO i) := fun F0 H0 σ F H env Dp D g hw d x => by
  unfold wRetO at hw
  split at hw
  · rename_i y e
    obtain ⟨v, hs, sl⟩ := g.slot i _ y e
    rcases sl with ⟨a, o, rfl, ha, c⟩ | sl
    · obtain ⟨nf, nh⟩ := g.own i y a e hs
      exact ⟨_, hs, d.2.1 F H _ y g.m (.inl ⟨a, o, rfl, nh, nf, ha, c⟩) hw⟩
    · exact ⟨_, hs, d.2.1 F H _ y g.m (.inr sl) hw⟩
  · exact hw.elim
def wBrk : WS := fun D env => D.bk env
theorem ss_brk : SS K W ro tBreak wBrk := fun F0 H0 σ F H env Dp D g hw d x => d.2.2.1 σ F H env g hw
def wDo (w : WE) : WS := fun D env => w env (fun _ => D.nx env) (D.ex env)
theorem ss_do {t : TE} {w : WE} (h : SE K W k t w) : SS K W ro (tDrop t) (wDo w) := fun F0 H0 σ F H env Dp D g hw d x =>
  h F0 H0 σ F H env _ _ _ g hw (x.x g) fun F1 H1 v y m r q => d.1 σ F1 H1 env (g.mv m) q
def wIfS (c : WT) (a b : WS) : WS := fun D env => c env (fun d => if d = true then a D env else b D env) (D.ex env)
theorem ss_if {tc : TT} {t u : TS} {wc : WT} {a b : WS} (hc : ST K W tc wc) (ht : SS K W ro t a) (hu : SS K W ro u b) : SS K W ro (tIfS tc t u) (wIfS wc a b) := fun F0 H0 σ F H env Dp D g hw d x =>
  hc F0 H0 σ F H env _ _ _ g hw (x.x g) fun F1 H1 c m h => by
    cases c with
    | true => exact iteT (ht F0 H0 σ F1 H1 env Dp D (g.mv m) (by simpa using h) d x)
    | false => exact iteF (hu F0 H0 σ F1 H1 env Dp D (g.mv m) (by simpa using h) d x)
def onInt (x : P) (Q : Int → Prop) : Prop := match x with
  | .int n => Q n
  | _ => False
def onLst (x : P) (Q : List P → Prop) : Prop := match x with
  | .lst xs => Q xs
  | _ => False
theorem onInt_of {F H : Hp} {v : V} {x : P} {Q : Int → Prop} (r : Tp K F H v x) (h : onInt x Q) : ∃ b, v = .int b ∧ x = .int b ∧ Q b := by
  cases x with
  | int b =>
    rcases r with r | ⟨_, _, _, _, c⟩
    · cases r; exact ⟨b, rfl, rfl, h⟩
    · exact c.elim
  | _ => exact h.elim
theorem onLst_of {F H : Hp} {v : V} {x : P} {Q : List P → Prop} (s : Same F H) (r : Tp K F H v x) (h : onLst x Q) : ∃ xs a vs, x = .lst xs ∧ v = .ref a ∧ H a = some (.lst vs) ∧ RL K F vs xs ∧ Q xs := by
  cases x with
  | lst xs => obtain ⟨a, vs, e, ha, r⟩ := Tp.lst s r; exact ⟨xs, a, vs, rfl, e, ha, r, h⟩
  | _ => exact h.elim
/-- the list that slot i owns -/
def ownL (env : PEnv) (i : Nat) (Q : List P → Prop) : Prop := match env[i]? with
  | some (some (.o, .lst xs)) => Q xs
  | _ => False
theorem ownL_of {F0 H0 F H : Hp} {σ : L2.St} {env : PEnv} {i : Nat} {Q : List P → Prop} (g : Good K F0 H0 σ F H env) (h : ownL env i Q) : ∃ xs a vs, env[i]? = some (some (.o, .lst xs)) ∧ σ[i]? = some (some (.ref a)) ∧ H a = some (.lst vs) ∧ RL K F vs xs ∧ Q xs := by
  unfold ownL at h
  split at h
  · rename_i xs e
    obtain ⟨v, hs, sl⟩ := g.slot i _ _ e
    rcases sl with ⟨a, o, rfl, ha, vs, rfl, r⟩ | sl
    · exact ⟨xs, a, vs, e, hs, ha, r, h⟩
    · cases sl.1
  · exact h.elim
def wApp (i : Nat) (w : WE) : WS := fun D env => ownL env i fun xs => w env (fun x => xs.length < sizeLine ∧ D.nx (env.set i (some (.o, .lst (xs ++ [x]))))) (D.ex env)
theorem ss_app {i : Nat} {t : TE} {w : WE} (h : SE K W .V t w) : SS K W ro (tDrop (tBM K "list" rAppend (tVar i) (tCons t tNil))) (wApp i w) := fun F0 H0 σ F H env Dp D g hw d x => by
  obtain ⟨xs, a, vs, e, hs, ha, r, hw⟩ := ownL_of g hw
  refine ⟨.ref a, hs, .inl ⟨rfl, vs, SqL.of ha⟩, ?_⟩
  refine h F0 H0 σ F H env _ _ _ g hw (x.x g) fun F1 H1 v y m ry q => ?_
  exact ⟨a, vs, v, rfl, rfl, m.s _ _ ha, by rw [r.len]; exact q.1, d.1 σ F1 _ _ ((g.mv m).put e hs (.l ((r.mono m.e.1).app (.cons ry .nil)))) q.2⟩
def wExt (i : Nat) (w : WE) : WS := fun D env => ownL env i fun xs => w env (fun x => onLst x fun ys => xs.length + ys.length ≤ sizeLine ∧ D.nx (env.set i (some (.o, .lst (xs ++ ys))))) (D.ex env)
theorem ss_ext {i : Nat} {t : TE} {w : WE} (h : SE K W .C t w) : SS K W ro (tDrop (tBM K "list" rExtend (tVar i) (tCons t tNil))) (wExt i w) := fun F0 H0 σ F H env Dp D g hw d x => by
  obtain ⟨xs, a, vs, e, hs, ha, r, hw⟩ := ownL_of g hw
  refine ⟨.ref a, hs, .inl ⟨rfl, vs, SqL.of ha⟩, ?_⟩
  refine h F0 H0 σ F H env _ _ _ g hw (x.x g) fun F1 H1 v y m ry q => ?_
  obtain ⟨ys, b, ws, rfl, rfl, hb, rb, q⟩ := onLst_of m.fh ry q
  exact ⟨a, b, vs, ws, rfl, rfl, m.s _ _ ha, hb, by rw [r.len, rb.len]; exact q.1, d.1 σ F1 _ _ ((g.mv m).put e hs (.l ((r.mono m.e.1).app rb))) q.2⟩
def wSet (i : Nat) (w wi : WE) : WS := fun D env => ownL env i fun xs => w env (fun x => wi env (fun y => onInt y fun k => ∃ j, ixN xs.length k = some j ∧ D.nx (env.set i (some (.o, .lst (xs.set j x))))) (D.ex env)) (D.ex env)
theorem ss_set {i : Nat} {t ti : TE} {w wi : WE} (h : SE K W .V t w) (hi : SE K W .C ti wi) : SS K W ro (tAsg t (gSub (tVar i) ti rSetL)) (wSet i w wi) := fun F0 H0 σ F H env Dp D g hw d x => by
  obtain ⟨xs, a, vs, e, hs, ha, r, hw⟩ := ownL_of g hw
  refine h F0 H0 σ F H env _ _ _ g hw (x.x g) fun F1 H1 v y m ry q => ⟨.ref a, hs, ?_⟩
  have g1 := g.mv m
  refine hi F0 H0 σ F1 H1 env _ _ _ g1 q (x.x g1) fun F2 H2 u z m2 rz q2 => ?_
  obtain ⟨k, rfl, rfl, j, hj, q2⟩ := onInt_of rz q2
  have r2 := (r.mono m.e.1).mono m2.e.1
  exact ⟨a, vs, k, j, rfl, rfl, m2.s _ _ (m.s _ _ ha), by rw [r2.len]; exact hj, d.1 σ F2 _ _ ((g1.mv m2).put e hs (.l (r2.set (R.mv m2 ry) j))) q2⟩
def keyP : P → Option Key
  | .int n => some (Sum.inl n)
  | .str z => some (Sum.inr z)
  | _ => none
def valP (ks : List Key) (xs : List P) (k : Key) : Option P := match ks, xs with
  | q :: ks, x :: xs => if q = k then some x else valP ks xs k
  | _, _ => none
/-- the keys and the values behind d[k] = x -/
def putP (ks : List Key) (xs : List P) (k : Key) (x : P) : List Key × List P :=
  if (ks.any fun q => decide (q = k)) = true then (ks, List.zipWith (fun q y => if q = k then x else y) ks xs) else (ks ++ [k], xs ++ [x])
theorem keyP_of {F H : Hp} {v : V} {x : P} {k : Key} (r : Tp K F H v x) (h : keyP x = some k) : v = kV k := by
  rcases r with r | ⟨_, _, _, _, c⟩
  · cases r <;> cases h <;> rfl
  · cases x <;> first | exact c.elim | cases h
theorem valP_zip {F : Hp} {k : Key} : ∀ {ks : List Key} {vs : List V} {xs : List P}, ks.length = vs.length → RL K F vs xs →
    (valP ks xs k = none → valV (ks.zip vs) k = none) ∧ ∀ x, valP ks xs k = some x → ∃ v, valV (ks.zip vs) k = some v ∧ R K F v x
  | [], vs, xs, l, r => by
    have e : vs = [] := List.eq_nil_of_length_eq_zero l.symm
    subst e
    cases r
    exact ⟨fun _ => rfl, fun x h => by cases h⟩
  | q :: ks, [], xs, l, r => by cases l
  | q :: ks, v :: vs, _, l, .cons (x := x) (xs := xs) h r => by
    have ih := valP_zip (k := k) (ks := ks) (by simpa using l) r
    by_cases hq : q = k
    · subst hq
      refine ⟨fun z => ?_, fun y z => ?_⟩
      · unfold valP at z; rw [if_pos rfl] at z; cases z
      · unfold valP at z; rw [if_pos rfl] at z; cases z
        exact ⟨v, by simp [valV], h⟩
    · refine ⟨fun z => ?_, fun y z => ?_⟩
      · unfold valP at z; rw [if_neg hq] at z
        have := ih.1 z
        unfold valV at this ⊢
        rw [List.zip_cons_cons, List.find?_cons_of_neg (by simpa using hq)]
        exact this
      · unfold valP at z; rw [if_neg hq] at z
        obtain ⟨w, e, rr⟩ := ih.2 y z
        refine ⟨w, ?_, rr⟩
        unfold valV at e ⊢
        rw [List.zip_cons_cons, List.find?_cons_of_neg (by simpa using hq)]
        exact e
theorem zip_any {k : Key} : ∀ {ks : List Key} {vs : List V}, ks.length = vs.length → ((ks.zip vs).any fun kv => decide (kv.1 = k)) = (ks.any fun q => decide (q = k))
  | [], [], _ => rfl
  | q :: ks, v :: vs, l => by rw [List.zip_cons_cons, List.any_cons, List.any_cons, zip_any (by simpa using l)]
theorem zip_put {k : Key} {w : V} : ∀ {ks : List Key} {vs : List V}, ks.length = vs.length → (ks.zip vs).map (fun kv => if kv.1 = k then (kv.1, w) else kv) = ks.zip (List.zipWith (fun q y => if q = k then w else y) ks vs)
  | [], [], _ => rfl
  | q :: ks, v :: vs, l => by
    rw [List.zip_cons_cons, List.map_cons, List.zipWith_cons_cons, List.zip_cons_cons, zip_put (by simpa using l)]
    by_cases h : q = k
    · simp [h]
    · simp [h]
theorem RL.put {F : Hp} {k : Key} {w : V} {x : P} (hr : R K F w x) : ∀ {ks : List Key} {vs : List V} {xs : List P}, ks.length = vs.length → RL K F vs xs → RL K F (List.zipWith (fun q y => if q = k then w else y) ks vs) (List.zipWith (fun q y => if q = k then x else y) ks xs)
  | [], _, _, _, _ => by simp; exact .nil
  | q :: ks, v :: vs, _, l, .cons h r => by
    rw [List.zipWith_cons_cons, List.zipWith_cons_cons]
    refine .cons ?_ (RL.put hr (by simpa using l) r)
    by_cases hq : q = k
    · rw [if_pos hq, if_pos hq]; exact hr
    · rw [if_neg hq, if_neg hq]; exact h
theorem put_cell {F : Hp} {a : Addr} {ks : List Key} {vs : List V} {xs : List P} {k : Key} {w : V} {x : P} (l : ks.length = vs.length) (r : RL K F vs xs) (hr : R K F w x) :
    Cell K F a (.dK (putK (ks.zip vs) k w)) (.dct (putP ks xs k x).1 (putP ks xs k x).2) := by
  unfold putK putP
  rw [zip_any l]
  by_cases h : (ks.any fun q => decide (q = k)) = true
  · rw [if_pos h, if_pos h, zip_put l]
    exact .d (by rw [List.length_zipWith, ← l, Nat.min_self]) (RL.put hr l r)
  · rw [if_neg h, if_neg h]
    have e : ks.zip vs ++ [(k, w)] = (ks ++ [k]).zip (vs ++ [w]) := by rw [List.zip_append l]; rfl
    rw [e]
    exact .d (by rw [List.length_append, List.length_append, l]; rfl) (r.app (.cons hr .nil))
def onDct (x : P) (Q : List Key → List P → Prop) : Prop := match x with
  | .dct ks xs => Q ks xs
  | _ => False
theorem onDct_of {F H : Hp} {v : V} {x : P} {Q : List Key → List P → Prop} (s : Same F H) (r : Tp K F H v x) (h : onDct x Q) : ∃ ks xs a vs, x = .dct ks xs ∧ v = .ref a ∧ Rd H a (.dK (ks.zip vs)) ∧ ks.length = vs.length ∧ RL K F vs xs ∧ Q ks xs := by
  cases x with
  | dct ks xs => obtain ⟨a, vs, e, ha, l, r⟩ := Tp.dct s r; exact ⟨ks, xs, a, vs, rfl, e, ha, l, r, h⟩
  | _ => exact h.elim
theorem Rd.same {H H' : Hp} {a : Addr} {u : HO} (s : Same H H') (h : Rd H a u) : Rd H' a u := h.elim (fun h => .inl (s _ _ h)) fun ⟨o, h⟩ => .inr ⟨o, s _ _ h⟩
def onKey (y : P) (Q : Key → Prop) : Prop := match y with
  | .int n => Q (Sum.inl n)
  | .str z => Q (Sum.inr z)
  | _ => False
theorem onKey_of {F H : Hp} {v : V} {y : P} {Q : Key → Prop} (r : Tp K F H v y) (h : onKey y Q) : ∃ k, v = kV k ∧ Q k := by
  cases y with
  | int n => exact ⟨Sum.inl n, keyP_of r rfl, h⟩
  | str z => exact ⟨Sum.inr z, keyP_of r rfl, h⟩
  | _ => exact h.elim
def wDGet (d y : WE) : WE := fun env Q X => d env (fun x => y env (fun z => onDct x fun ks xs => onKey z fun k => ∃ u, valP ks xs k = some u ∧ Q u) X) X
theorem se_dget {td ty : TE} {d y : WE} (hd : SE K W .C td d) (hy : SE K W .C ty y) : SE K W .V (tDGet td ty) (wDGet d y) := fun F0 H0 σ F H env Qp Xp Q g hw hx q =>
  hd F0 H0 σ F H env _ Xp _ g hw hx fun F1 H1 v x m1 r1 h1 => hy F0 H0 σ F1 H1 env _ Xp _ (g.mv m1) h1 (hx.mv m1) fun F2 H2 w z m2 r2 h2 => by
    obtain ⟨ks, xs, a, vs, rfl, rfl, ha, l, r, h2⟩ := onDct_of m2.fh (Tp.mv m2 r1) h2
    obtain ⟨k, rfl, u, hu, h2⟩ := onKey_of r2 h2
    obtain ⟨w, e, rr⟩ := (valP_zip (k := k) l r).2 u hu
    exact ⟨a, w, rfl, .inl ⟨_, k, ha, rfl, e.symm⟩, q F2 H2 w u (m1.trans m2) rr h2⟩
/-- the dict that slot i owns -/
def ownD (env : PEnv) (i : Nat) (Q : List Key → List P → Prop) : Prop := match env[i]? with
  | some (some (.o, .dct ks xs)) => Q ks xs
  | _ => False
theorem ownD_of {F0 H0 F H : Hp} {σ : L2.St} {env : PEnv} {i : Nat} {Q : List Key → List P → Prop} (g : Good K F0 H0 σ F H env) (h : ownD env i Q) : ∃ ks xs a vs, env[i]? = some (some (.o, .dct ks xs)) ∧ σ[i]? = some (some (.ref a)) ∧ H a = some (.dK (ks.zip vs)) ∧ ks.length = vs.length ∧ RL K F vs xs ∧ Q ks xs := by
  unfold ownD at h
  split at h
  · rename_i ks xs e
    obtain ⟨v, hs, sl⟩ := g.slot i _ _ e
    rcases sl with ⟨a, o, rfl, ha, vs, rfl, l, r⟩ | sl
    · exact ⟨ks, xs, a, vs, e, hs, ha, l, r, h⟩
    · cases sl.1
  · exact h.elim
def wDPut (i : Nat) (y w : WE) : WS := fun D env => ownD env i fun ks xs => w env (fun x => y env (fun z => onKey z fun k => ks.length < sizeLine ∧ D.nx (env.set i (some (.o, .dct (putP ks xs k x).1 (putP ks xs k x).2)))) (D.ex env)) (D.ex env)
theorem ss_dput {i : Nat} {ty tv : TE} {y w : WE} (hv : SE K W .V tv w) (hy : SE K W .C ty y) : SS K W ro (sDPut (tVar i) ty tv) (wDPut i y w) := fun F0 H0 σ F H env Dp D g hw d x => by
  obtain ⟨ks, xs, a, vs, e, hs, ha, l, r, hw⟩ := ownD_of g hw
  refine hv F0 H0 σ F H env _ _ _ g hw (x.x g) fun F1 H1 v z m rz q => ⟨.ref a, hs, ?_⟩
  have g1 := g.mv m
  refine hy F0 H0 σ F1 H1 env _ _ _ g1 q (x.x g1) fun F2 H2 u z2 m2 rz2 q2 => ?_
  obtain ⟨k, rfl, q2, q3⟩ := onKey_of rz2 q2
  have hl : (ks.zip vs).length < sizeLine := by rw [List.length_zip, ← l, Nat.min_self]; exact q2
  have r2 := (r.mono m.e.1).mono m2.e.1
  exact ⟨a, _, rfl, DPut.k (m2.s _ _ (m.s _ _ ha)) hl, d.1 σ F2 _ _ ((g1.mv m2).put e hs (put_cell l r2 (R.mv m2 rz))) q3⟩
def wDNew : WE := fun _ Q _ => Q (.dct [] [])
theorem se_dnew : SE K W .O tDNewK wDNew := fun F0 H0 σ F H env Qp Xp Q g hw hx q p np =>
  q F (upd H p (.dK [])) (.ref p) (.dct [] []) (mv_new g.fh np) (.inl ⟨p, _, rfl, np, same_free g.fh np, upd_same, [], rfl, rfl, .nil⟩) hw
end
end Pf

namespace Pf
open PySem PySem.Spec PyProof.Rows L2
section
variable {K : PySem.W.Frag} {W : WX} {k : Rk} {ro : Bool}
abbrev WI := PEnv → (List P → Prop) → XP → Prop
/-- J gives the items xs while the heap says what `ok` wants -/
def Wkd (K : PySem.W.Frag) (ok : Hp → Hp → Prop) (J : It) (xs : List P) : Prop :=
  ∃ G Y, Walk J xs.length G Y ∧ (∀ F1 H1, ok F1 H1 → G H1) ∧ (∀ i F1 H1 v H2, i < xs.length → ok F1 H1 → Y i H1 v H2 → ∃ x F2, xs[i]? = some x ∧ Mv F1 H1 F2 H2 ∧ R K F2 v x)
theorem Wkd.imp {ok ok' : Hp → Hp → Prop} {J : It} {xs : List P} (h : ∀ F H, ok' F H → ok F H) : Wkd K ok J xs → Wkd K ok' J xs := fun ⟨G, Y, w, a, b⟩ => ⟨G, Y, w, fun F1 H1 o => a F1 H1 (h _ _ o), fun i F1 H1 v H2 hi o => b i F1 H1 v H2 hi (h _ _ o)⟩
/-- in a for: what is kept stays -/
abbrev okF (H0 F : Hp) : Hp → Hp → Prop := fun F1 H1 => Same F F1 ∧ Same F1 H1 ∧ Same H0 H1
/-- in a comprehension: all stays -/
abbrev okC (F H : Hp) : Hp → Hp → Prop := fun F1 H1 => Mv F H F1 H1
def SimI (K : PySem.W.Frag) (W : WX) (wi : TI) (w : WI) : Prop :=
  ∀ F0 H0 σ F H env Qp Xp (Rr : It → Hp → Prop), Good K F0 H0 σ F H env → w env Qp Xp → XOk K W σ F H Xp → (∀ F' H' J xs, Mv F H F' H' → Wkd K (okF H0 F') J xs → Qp xs → Rr J H') → wi σ H Rr
def SimIc (K : PySem.W.Frag) (W : WX) (wi : TI) (w : WI) : Prop :=
  ∀ F0 H0 σ F H env Qp Xp (Rr : It → Hp → Prop), Good K F0 H0 σ F H env → w env Qp Xp → XOk K W σ F H Xp → (∀ F' H' J xs, Mv F H F' H' → Wkd K (okC F' H') J xs → Qp xs → Rr J H') → wi σ H Rr
theorem SimI.c {wi : TI} {w : WI} (h : SimI K W wi w) : SimIc K W wi w := fun F0 H0 σ F H env Qp Xp Rr g hw hx q =>
  h F0 H0 σ F H env Qp Xp Rr g hw hx fun F' H' J xs m wk z => q F' H' J xs m (wk.imp fun F1 H1 m1 => ⟨m1.e.1, m1.fh, (g.hh.trans m.s).trans m1.s⟩) z
theorem wkd_at {ok : Hp → Hp → Prop} {J : It} {vs : List V} {xs : List P} {G : Hp → Prop} (w : Walk J vs.length G (YAt vs)) (hg : ∀ F1 H1, ok F1 H1 → G H1 ∧ RL K F1 vs xs ∧ Same F1 H1) (hl : vs.length = xs.length) : Wkd K ok J xs := by
  refine ⟨G, YAt vs, hl ▸ w, fun F1 H1 o => (hg F1 H1 o).1, fun i F1 H1 v H2 hi o y => ?_⟩
  obtain ⟨rfl, y⟩ := y
  obtain ⟨_, r, s⟩ := hg F1 _ o
  obtain ⟨x, e, rx⟩ := r.get y
  exact ⟨x, F1, e, .refl s, rx⟩
def wIL (a : WE) : WI := fun env Q X => a env (fun x => onLst x Q) X
theorem si_list {tl : TE} {a : WE} (h : SE K W .V tl a) : SimI K W (iList K tl) (wIL a) := fun F0 H0 σ F H env Qp Xp Rr g hw hx q =>
  h F0 H0 σ F H env _ Xp _ g hw hx fun F1 H1 v x m r h1 => by
    cases r with
    | lst hf r =>
      refine ⟨_, rfl, ⟨_, SqL.of (m.fh _ _ hf)⟩, q F1 H1 _ _ m (wkd_at walk_list (fun F2 H2 o => ⟨SqL.of (o.2.1 _ _ (o.1 _ _ hf)), r.mono o.1, o.2.1⟩) r.len) h1⟩
    | _ => exact h1.elim
theorem si_listc {tl : TE} {a : WE} (h : SE K W .C tl a) : SimIc K W (iList K tl) (wIL a) := fun F0 H0 σ F H env Qp Xp Rr g hw hx q =>
  h F0 H0 σ F H env _ Xp _ g hw hx fun F1 H1 v x m r h1 => by
    obtain ⟨xs, b, vs, rfl, rfl, hb, r, h1⟩ := onLst_of m.fh r h1
    exact ⟨_, rfl, ⟨_, SqL.of hb⟩, q F1 H1 _ _ m (wkd_at walk_list (fun F2 H2 o => ⟨SqL.of (o.s _ _ hb), r.mono o.e.1, o.fh⟩) r.len) h1⟩
/-- a name whose list stays (kept, or the caller's) -/
def wILv (i : Nat) : WI := fun env Q _ => match env[i]? with
  | some (some (.v, .lst xs)) => Q xs
  | some (some (.b, .lst xs)) => Q xs
  | _ => False
theorem si_var (i : Nat) : SimI K W (iList K (tVar i)) (wILv i) := fun F0 H0 σ F H env Qp Xp Rr g hw hx q => by
  unfold wILv at hw
  split at hw
  · rename_i xs e
    obtain ⟨v, hs, s⟩ := g.slot i _ _ e
    cases s with
    | lst hf r => exact ⟨_, hs, _, rfl, ⟨_, SqL.of (g.fh _ _ hf)⟩, q F H _ _ g.mvr (wkd_at walk_list (fun F2 H2 o => ⟨SqL.of (o.2.1 _ _ (o.1 _ _ hf)), r.mono o.1, o.2.1⟩) r.len) hw⟩
  · rename_i xs e
    obtain ⟨v, hs, s⟩ := g.slot i _ _ e
    rcases s.1 with s | ⟨a, o, rfl, ha, vs, rfl, r⟩
    · cases s with
      | lst hf r => exact ⟨_, hs, _, rfl, ⟨_, SqL.of (g.fh _ _ hf)⟩, q F H _ _ g.mvr (wkd_at walk_list (fun F2 H2 o => ⟨SqL.of (o.2.1 _ _ (o.1 _ _ hf)), r.mono o.1, o.2.1⟩) r.len) hw⟩
    · exact ⟨_, hs, _, rfl, ⟨_, SqL.of (g.hh _ _ ha)⟩, q F H _ _ g.mvr (wkd_at walk_list (fun F2 H2 o => ⟨SqL.of (o.2.2 _ _ ha), r.mono o.1, o.2.1⟩) r.len) hw⟩
  · exact hw.elim
def onTup (x : P) (Q : List P → Prop) : Prop := match x with
  | .tup xs => Q xs
  | _ => False
theorem onTup_of {F H : Hp} {v : V} {x : P} {Q : List P → Prop} (s : Same F H) (r : Tp K F H v x) (h : onTup x Q) : ∃ xs a vs, x = .tup xs ∧ v = .ref a ∧ F a = some (.tup vs) ∧ RL K F vs xs ∧ Q xs := by
  cases x with
  | tup xs =>
    rcases r with r | ⟨_, _, _, _, c⟩
    · cases r with | tup ha r => exact ⟨xs, _, _, rfl, rfl, ha, r, h⟩
    · exact c.elim
  | _ => exact h.elim
/-- lo, lo + 1, .. -/
def rng (lo : Int) (n : Nat) : List P := (List.range n).map fun (i : Nat) => .int (lo + (i : Int))
theorem rng_len {lo : Int} {n : Nat} : (rng lo n).length = n := by simp [rng]
theorem rng_at {lo : Int} {n i : Nat} (h : i < n) : (rng lo n)[i]? = some (.int (lo + (i : Int))) := by simp [rng, h]
theorem wkd_rng {ok : Hp → Hp → Prop} {lo : Int} {n : Nat} (hs : ∀ F H, ok F H → Same F H) : Wkd K ok (Itr lo n) (rng lo n) := by
  refine ⟨fun _ => True, YFn fun i => .int (lo + i), by rw [rng_len]; exact walk_range, fun _ _ _ => trivial, fun i F1 H1 v H2 hi o y => ?_⟩
  obtain ⟨rfl, rfl⟩ := y
  rw [rng_len] at hi
  exact ⟨_, F1, rng_at hi, .refl (hs _ _ o), .int _⟩
theorem AL.one {F H : Hp} {m : Mo} {vs : List V} {xs : List P} (h : AL K F H [m] vs xs) : ∃ v x, vs = [v] ∧ xs = [x] ∧ Tp K F H v x := by
  cases m <;> cases vs <;> cases xs <;> first
    | exact h.elim
    | (rename_i v vs x xs; cases vs <;> cases xs <;> first
        | exact h.2.elim
        | exact ⟨_, _, rfl, rfl, .inl h.1⟩
        | exact ⟨_, _, rfl, rfl, h.1⟩)
theorem AL.cons {F H : Hp} {m : Mo} {ms : List Mo} {vs : List V} {xs : List P} (h : AL K F H (m :: ms) vs xs) : ∃ v vs' x xs', vs = v :: vs' ∧ xs = x :: xs' ∧ Tp K F H v x ∧ AL K F H ms vs' xs' := by
  cases m <;> cases vs <;> cases xs <;> first
    | exact h.elim
    | exact ⟨_, _, _, _, rfl, rfl, .inl h.1, h.2⟩
    | exact ⟨_, _, _, _, rfl, rfl, h.1, h.2⟩
theorem AL.nil {F H : Hp} {vs : List V} {xs : List P} (h : AL K F H [] vs xs) : vs = [] ∧ xs = [] := by
  cases vs <;> cases xs <;> first | exact ⟨rfl, rfl⟩ | exact h.elim
def wIR1 (a : WA) : WI := fun env Q X => a env (fun xs => match xs with
  | [.int j] => -(2 ^ 62) ≤ j ∧ j < 2 ^ 62 ∧ Q (rng 0 j.toNat)
  | _ => False) X
def wIR2 (a : WA) : WI := fun env Q X => a env (fun xs => match xs with
  | [.int i, .int j] => (-(2 ^ 62) ≤ i ∧ i < 2 ^ 62 ∧ -(2 ^ 62) ≤ j ∧ j < 2 ^ 62) ∧ Q (rng i (j - i).toNat)
  | _ => False) X
theorem Tp.int {F H : Hp} {v : V} {n : Int} (h : Tp K F H v (.int n)) : v = .int n := by
  rcases h with r | ⟨_, _, _, _, c⟩
  · cases r; rfl
  · exact c.elim
theorem Tp.str {F H : Hp} {v : V} {z : Str} (h : Tp K F H v (.str z)) : v = .str z ∧ SOk z := by
  rcases h with r | ⟨_, _, _, _, c⟩
  · cases r with | str h => exact ⟨rfl, h⟩
  · exact c.elim
theorem si_r1 {m : Mo} {ta : TA} {a : WA} (h : SimA K W [m] ta a) : SimI K W (iRng1 ta) (wIR1 a) := fun F0 H0 σ F H env Qp Xp Rr g hw hx q =>
  h F0 H0 σ F H env _ Xp _ g hw hx fun F1 H1 vs xs m1 r h1 => by
    obtain ⟨v, x, rfl, rfl, t⟩ := AL.one r
    split at h1
    · rename_i j e
      cases e
      obtain rfl := t.int
      exact ⟨j, rfl, h1.1, h1.2.1, q F1 H1 _ _ m1 (wkd_rng fun _ _ o => o.2.1) h1.2.2⟩
    · exact h1.elim
theorem si_r2 {m m' : Mo} {ta : TA} {a : WA} (h : SimA K W [m, m'] ta a) : SimI K W (iRng2 ta) (wIR2 a) := fun F0 H0 σ F H env Qp Xp Rr g hw hx q =>
  h F0 H0 σ F H env _ Xp _ g hw hx fun F1 H1 vs xs m1 r h1 => by
    obtain ⟨v, vs', x, xs', rfl, rfl, t, r'⟩ := AL.cons r
    obtain ⟨v', x', rfl, rfl, t'⟩ := AL.one r'
    split at h1
    · rename_i i j e
      cases e
      obtain rfl := t.int
      obtain rfl := t'.int
      exact ⟨i, j, rfl, h1.1, q F1 H1 _ _ m1 (wkd_rng fun _ _ o => o.2.1) h1.2⟩
    · exact h1.elim
/-- pairs (i, x) -/
def enumP (xs : List P) : List P := (List.range xs.length).zipWith (fun (i : Nat) x => .tup [.int (i : Int), x]) xs
theorem enumP_len {xs : List P} : (enumP xs).length = xs.length := by simp [enumP]
theorem enumP_at {xs : List P} {i : Nat} {x : P} (h : xs[i]? = some x) : (enumP xs)[i]? = some (.tup [.int (i : Int), x]) := by
  have hi := (List.getElem?_eq_some_iff.mp h).1
  simp [enumP, List.getElem?_zipWith, hi]; exact (List.getElem?_eq_some_iff.mp h).2
theorem pair_mv {F H : Hp} {T : Addr} {v w : V} {x y : P} (s : Same F H) (n : H T = none) (r : R K F v x) (r' : R K F w y) : ∃ F2, Mv F H F2 (upd H T (.tup [v, w])) ∧ R K F2 (.ref T) (.tup [x, y]) := by
  have m := mv_frz (o := .tup [v, w]) s n
  exact ⟨_, m, .tup upd_same (.cons (r.mono m.e.1) (.cons (r'.mono m.e.1) .nil))⟩
def wIE (a : WA) : WI := fun env Q X => a env (fun xs => match xs with
  | [.lst xs] => Q (enumP xs)
  | _ => False) X
theorem wkd_enum {ok : Hp → Hp → Prop} {a : Addr} {vs : List V} {xs : List P} (hg : ∀ F1 H1, ok F1 H1 → SqL K H1 a vs ∧ RL K F1 vs xs ∧ Same F1 H1) (hl : vs.length = xs.length) : Wkd K ok (Ite K a) (enumP xs) := by
  refine ⟨fun H => SqL K H a vs, _, by rw [enumP_len, ← hl]; exact walk_enum, fun F1 H1 o => (hg F1 H1 o).1, fun i F1 H1 v H2 hi o y => ?_⟩
  obtain ⟨T, u, w, rfl, n, rfl, e1, e2⟩ := y
  obtain ⟨_, r, s⟩ := hg F1 _ o
  cases e1
  obtain ⟨x, e, rx⟩ := r.get e2
  obtain ⟨F2, m, r2⟩ := pair_mv s n (.int (i : Int)) rx
  exact ⟨_, F2, enumP_at e, m, r2⟩
theorem AL.v1 {F H : Hp} {ms : List Mo} {vs : List V} {xs : List P} (h : AL K F H (.v :: ms) vs xs) : ∃ v vs' x xs', vs = v :: vs' ∧ xs = x :: xs' ∧ R K F v x ∧ AL K F H ms vs' xs' := by
  cases vs <;> cases xs <;> first
    | exact h.elim
    | exact ⟨_, _, _, _, rfl, rfl, h.1, h.2⟩
theorem si_enum {ta : TA} {a : WA} (h : SimA K W [.v] ta a) : SimI K W (iEnum K ta) (wIE a) := fun F0 H0 σ F H env Qp Xp Rr g hw hx q =>
  h F0 H0 σ F H env _ Xp _ g hw hx fun F1 H1 vs xs m1 r h1 => by
    obtain ⟨v, vs', x, xs', rfl, rfl, t, r'⟩ := AL.v1 r
    obtain ⟨rfl, rfl⟩ := AL.nil r'
    split at h1
    · rename_i ys e
      cases e
      cases t with
      | lst hf rl => exact ⟨_, _, rfl, SqL.of (m1.fh _ _ hf), q F1 H1 _ _ m1 (wkd_enum (fun F2 H2 o => ⟨SqL.of (o.2.1 _ _ (o.1 _ _ hf)), rl.mono o.1, o.2.1⟩) rl.len) h1⟩
    · exact h1.elim
theorem si_enumc {m : Mo} {ta : TA} {a : WA} (h : SimA K W [m] ta a) : SimIc K W (iEnum K ta) (wIE a) := fun F0 H0 σ F H env Qp Xp Rr g hw hx q =>
  h F0 H0 σ F H env _ Xp _ g hw hx fun F1 H1 vs xs m1 r h1 => by
    obtain ⟨v, x, rfl, rfl, t⟩ := AL.one r
    split at h1
    · rename_i ys e
      cases e
      obtain ⟨b, ws, rfl, hb, rl⟩ := Tp.lst m1.fh t
      exact ⟨_, _, rfl, SqL.of hb, q F1 H1 _ _ m1 (wkd_enum (fun F2 H2 o => ⟨SqL.of (o.s _ _ hb), rl.mono o.e.1, o.fh⟩) rl.len) h1⟩
    · exact h1.elim
def wFor (wi : WI) (g : P → PEnv → (PEnv → Prop) → Prop) (b : WS) : WS := fun D env => wi env (fun xs => ∃ Inv : Nat → PEnv → Prop, Inv 0 env ∧
  (∀ i x e, xs[i]? = some x → Inv i e → g x e fun e2 => b { D with nx := Inv (i + 1), ct := Inv (i + 1), bk := D.nx } e2) ∧ ∀ e, Inv xs.length e → D.nx e) (D.ex env)
theorem ss_for {ts : List Nat} {wi : TI} {a : WI} {g : TG} {gw : P → PEnv → (PEnv → Prop) → Prop} {tb : TS} {b : WS} (hi : SimI K W wi a) (hg : SimG K ts g gw) (hb : SS K W ro tb b) : SS K W ro (tFor wi g tb) (wFor a gw b) := fun F0 H0 σ F H env Dp D gd hw d x => by
  refine hi F0 H0 σ F H env _ _ _ gd hw (x.x gd) fun F1 H1 J xs m wk h => ?_
  obtain ⟨Inv, h0, hs, hd⟩ := h
  have g1 := gd.mv m
  have d1 : DOk K ro F1 H0 Dp D := d.base g1.e
  have x1 : WOk K W F1 H0 Dp.ex := x.base g1.e
  obtain ⟨G, Y, w, okG, okY⟩ := wk
  refine for_it w (fun i σ' H' => ∃ F' e, Good K F1 H0 σ' F' H' e ∧ Inv i e) ⟨F1, env, g1.base, h0⟩ (fun i σ' H' _ ⟨F', e, g', _⟩ => okG F' H' ⟨g'.e.1, g'.fh, g'.hh⟩) (fun i v σ' H' H2 hi ⟨F', e, g', hI⟩ y => ?_) (fun σ' H' ⟨F', e, g', hI⟩ => d1.1 σ' F' H' e g' (hd e hI))
  obtain ⟨y, F2, ey, m2, r2⟩ := okY i F' H' v H2 hi ⟨g'.e.1, g'.fh, g'.hh⟩ y
  refine hg F1 H0 σ' F2 H2 e v y _ _ (g'.mv m2) r2 (hs i y e ey hI) fun σ3 e3 g3 _ h3 => ?_
  exact hb F1 H0 σ3 F2 H2 e3 _ _ g3 h3 ⟨fun σ4 F4 H4 e4 g4 h4 => ⟨F4, e4, g4, h4⟩, d1.2.1, fun σ4 F4 H4 e4 g4 h4 => d1.1 σ4 F4 H4 e4 g4 h4, fun σ4 F4 H4 e4 g4 h4 => ⟨F4, e4, g4, h4⟩⟩ x1
def wWhile (c : WT) (b : WS) : WS := fun D env => ∃ Inv : Nat → PEnv → Prop, (∃ m, Inv m env) ∧ ∀ m e, Inv m e → c e (fun t => if t = true then b { D with nx := fun e2 => ∃ m', m' < m ∧ Inv m' e2, ct := fun e2 => ∃ m', m' < m ∧ Inv m' e2, bk := D.nx } e else D.nx e) (D.ex e)
theorem ss_while {tc : TT} {c : WT} {tb : TS} {b : WS} (hc : ST K W tc c) (hb : SS K W ro tb b) : SS K W ro (tWhile tc tb) (wWhile c b) := fun F0 H0 σ F H env Dp D gd ⟨Iv, ⟨m0, h0⟩, hs⟩ d x => by
  refine ⟨fun m σ' H' => ∃ F' e, Good K F0 H0 σ' F' H' e ∧ Iv m e, ⟨m0, F, env, gd, h0⟩, ?_⟩
  rintro m σ' H' ⟨F', e, g', hI⟩
  refine hc F0 H0 σ' F' H' e _ _ _ g' (hs m e hI) (x.x g') fun F1 H1 t m1 h1 => ?_
  have g1 := g'.mv m1
  cases t with
  | true =>
    rw [if_pos rfl] at h1 ⊢
    refine ⟨fun σ2 H2 => ∃ F2 e2, Good K F0 H0 σ2 F2 H2 e2 ∧ ∃ m', m' < m ∧ Iv m' e2, fun σ2 H2 ⟨F2, e2, g2, m', hm, h2⟩ => ⟨m', hm, F2, e2, g2, h2⟩, ?_⟩
    exact hb F0 H0 σ' F1 H1 e _ _ g1 h1 ⟨fun σ4 F4 H4 e4 g4 h4 => ⟨F4, e4, g4, h4⟩, d.2.1, fun σ4 F4 H4 e4 g4 h4 => d.1 σ4 F4 H4 e4 g4 h4, fun σ4 F4 H4 e4 g4 h4 => ⟨F4, e4, g4, h4⟩⟩ x
  | false =>
    rw [if_neg Bool.false_ne_true] at h1 ⊢
    exact d.1 σ' F1 H1 e g1 h1
def wipeP (env : PEnv) : List Nat → PEnv
  | [] => env
  | v :: vs => (wipeP env vs).set v none
theorem Good.wipe {F0 H0 F H : Hp} {σ : L2.St} {env : PEnv} (g : Good K F0 H0 σ F H env) : ∀ vs : List Nat, Good K F0 H0 (wipe σ vs) F H (wipeP env vs)
  | [] => g
  | v :: vs => (Good.wipe g vs).drop v none
theorem wipe_at {σ : L2.St} {j : Nat} : ∀ {vs : List Nat}, (wipe σ vs)[j]? = if j ∈ vs ∧ j < σ.length then some none else σ[j]?
  | [] => by simp [wipe]
  | v :: vs => by
    unfold wipe
    by_cases e : v = j
    · subst e
      by_cases hv : v < σ.length
      · rw [List.getElem?_set_self (by rw [wipe_length]; exact hv), if_pos ⟨List.mem_cons_self, hv⟩]
      · rw [List.getElem?_eq_none (by rw [List.length_set, wipe_length]; omega), if_neg (fun z => hv z.2), List.getElem?_eq_none (by omega)]
    · rw [List.getElem?_set_ne e, wipe_at (vs := vs)]
      by_cases h : j ∈ vs ∧ j < σ.length
      · rw [if_pos h, if_pos ⟨List.mem_cons_of_mem _ h.1, h.2⟩]
      · rw [if_neg h, if_neg (fun z => h ⟨(List.mem_cons.mp z.1).resolve_left (fun y => e y.symm), z.2⟩)]
theorem wipe_off {σ σ2 : L2.St} {ts vs : List Nat} (o : Off ts (wipe σ vs) σ2) (h : ∀ t, t ∈ ts → t ∈ vs) : wipe σ2 vs = wipe σ vs := by
  refine List.ext_getElem? fun j => ?_
  have hl : σ2.length = σ.length := by rw [o.1, wipe_length]
  rw [wipe_at, hl]
  by_cases hj : j ∈ vs ∧ j < σ.length
  · rw [if_pos hj, wipe_at, if_pos hj]
  · rw [if_neg hj]
    by_cases hm : j ∈ ts
    · have hv := h j hm
      have hn : ¬ j < σ.length := fun z => hj ⟨hv, z⟩
      rw [List.getElem?_eq_none (by omega), List.getElem?_eq_none (by rw [wipe_length]; omega)]
    · exact o.2 j hm
def noX' : XP := fun _ _ _ => False
abbrev noW : WX := fun _ _ _ _ => False
theorem noX_ok {σ : L2.St} {F H : Hp} : XOk K noW σ F H noX' := fun _ _ _ _ _ _ _ _ h => h
def wLc (wi : WI) (g : P → PEnv → (PEnv → Prop) → Prop) (tt : WT) (te : WE) (vs : List Nat) : WE := fun env Q X => wi env (fun xs => ∃ Inv : Nat → List P → Prop, Inv 0 [] ∧
  (∀ i x acc, xs[i]? = some x → Inv i acc → g x (wipeP env vs) fun e => tt e (fun b => if b = true then te e (fun y => acc.length < sizeLine ∧ Inv (i + 1) (acc ++ [y])) noX' else Inv (i + 1) acc) noX') ∧
  ∀ acc, Inv xs.length acc → Q (.lst acc)) X
theorem se_lc {ts vs : List Nat} {wi : TI} {a : WI} {g : TG} {gw : P → PEnv → (PEnv → Prop) → Prop} {tt : TT} {te : TE} {wt : WT} {we : WE} (hi : SimIc K W wi a) (hg : SimG K ts g gw) (ht : ST K noW tt wt) (he : SE K noW .V te we) (hv : ∀ t, t ∈ ts → t ∈ vs) :
    SE K W .O (tLc wi g tt te vs) (wLc a gw wt we vs) := fun F0 H0 σ F H env Qp Xp Q gd hw hx q => by
  refine hi F0 H0 σ F H env _ Xp _ gd hw hx fun F1 H1 J xs m wk h D nD => ?_
  obtain ⟨Iv, h0, hs, hd⟩ := h
  have g1 := (gd.mv m).wipe vs
  obtain ⟨G, Y, w, okG, okY⟩ := wk
  -- the heap with the list at D
  have keep : ∀ {F' H' o}, Mv F1 H1 F' H' → F' D = none → Mv F1 H1 F' (upd H' D o) := fun m' n' =>
    ⟨m'.e, fun b u e => by rw [upd_ne (ne_of_none e nD)]; exact m'.s _ _ e, same_put m'.fh n'⟩
  refine lc_it w (fun i H' => ∃ F' acc ws, Mv F1 H1 F' H' ∧ F' D = none ∧ H' D = some (.lst ws) ∧ RL K F' ws acc ∧ Iv i acc) ⟨F1, [], [], mv_new m.fh nD, same_free m.fh nD, upd_same, .nil, h0⟩
    (fun i H' _ ⟨F', acc, ws, m', _⟩ => okG F' H' m') (fun i v H' H2 hi2 ⟨F', acc, ws, m', nf, hD, r, hI⟩ y => ?_) (fun H' ⟨F', acc, ws, m', nf, hD, r, hI⟩ => q F' H' (.ref D) (.lst acc) (m.trans m') (.inl ⟨D, _, rfl, m.s.free nD, nf, hD, .l r⟩) (hd acc hI))
  obtain ⟨y, F2, ey, m2, r2⟩ := okY i F' H' v H2 hi2 m' y
  refine hg F0 H0 (wipe σ vs) F2 H2 (wipeP env vs) v y _ _ ((g1.mv m').mv m2) r2 (hs i y acc ey hI) fun σ3 e3 g3 o3 h3 => ⟨wipe_off o3 hv, ?_⟩
  refine ht F0 H0 σ3 F2 H2 e3 _ _ _ g3 h3 noX_ok fun F3 H3 b m3 h4 => ?_
  have m13 := (m'.trans m2).trans m3
  have n3 : F3 D = none := ((m2.trans m3).e.2 _ _ hD).trans nf
  have hD3 := (m2.trans m3).s _ _ hD
  have r3 := r.mono (m2.trans m3).e.1
  cases b with
  | true =>
    rw [if_pos rfl] at h4 ⊢
    refine he F0 H0 σ3 F3 H3 e3 _ _ _ (g3.mv m3) h4 noX_ok fun F4 H4 u z m4 r4 h5 => ?_
    exact ⟨ws, m4.s _ _ hD3, by rw [r.len]; exact h5.1, F4, acc ++ [z], ws ++ [u], keep (m13.trans m4) ((m4.e.2 _ _ hD3).trans n3), (m4.e.2 _ _ hD3).trans n3, upd_same, (r3.mono m4.e.1).app (.cons r4 .nil), h5.2⟩
  | false =>
    rw [if_neg Bool.false_ne_true] at h4 ⊢
    exact ⟨F3, acc, ws, m13, n3, hD3, r3, h4⟩
end
end Pf

namespace Pf
open PySem PySem.Spec PyProof.Rows L2
section
variable {K : PySem.W.Frag} {W : WX} {k : Rk} {ro : Bool}
def fI (f : Int → Int → Int) : PF2 := fun x y Q => onInt x fun i => onInt y fun j => Q (.int (f i j))
def fB (p : Int → Int → Bool) : PF2 := fun x y Q => onInt x fun i => onInt y fun j => Q (.bl (p i j))
def fIc (C : Int → Int → Prop) (f : Int → Int → Int) : PF2 := fun x y Q => onInt x fun i => onInt y fun j => C i j ∧ Q (.int (f i j))
theorem os_i {f : Int → Int → Int} : OpS K .V (rI0 fun i j => .int (f i j)) (fI f) := fun F H v w x y Qp Q s r r' h q => by
  obtain ⟨i, rfl, rfl, h⟩ := onInt_of r h
  obtain ⟨j, rfl, rfl, h⟩ := onInt_of r' h
  exact ⟨i, j, rfl, rfl, q F H _ _ (.refl s) (R.int _) h⟩
theorem os_b {p : Int → Int → Bool} : OpS K .V (rI0 fun i j => .bl (p i j)) (fB p) := fun F H v w x y Qp Q s r r' h q => by
  obtain ⟨i, rfl, rfl, h⟩ := onInt_of r h
  obtain ⟨j, rfl, rfl, h⟩ := onInt_of r' h
  exact ⟨i, j, rfl, rfl, q F H _ _ (.refl s) (R.bl _) h⟩
theorem os_ic {C : Int → Int → Prop} {f : Int → Int → Int} : OpS K .V (rI C fun i j => .int (f i j)) (fIc C f) := fun F H v w x y Qp Q s r r' h q => by
  obtain ⟨i, rfl, rfl, h⟩ := onInt_of r h
  obtain ⟨j, rfl, rfl, h⟩ := onInt_of r' h
  exact ⟨i, j, rfl, rfl, h.1, q F H _ _ (.refl s) (R.int _) h.2⟩
theorem us_i {f : Int → Int} : UnS K .V (rU fun i => .int (f i)) (fun x Q => onInt x fun i => Q (.int (f i))) := fun F H v x Qp Q s r h q => by
  obtain ⟨i, rfl, rfl, h⟩ := onInt_of r h
  exact ⟨i, rfl, q F H _ _ (.refl s) (R.int _) h⟩
/-- == of scalars -/
def scP : P → P → Option Bool
  | .int a, .int b => some (decide (a = b))
  | .str a, .str b => some (decide (a = b))
  | .bl a, .bl b => some (decide (a = b))
  | .non, .non => some true
  | .non, .int _ => some false | .int _, .non => some false
  | .non, .str _ => some false | .str _, .non => some false
  | .int _, .str _ => some false | .str _, .int _ => some false
  | _, _ => none
def fEq : PF2 := fun x y Q => ∃ b, scP x y = some b ∧ Q (.bl b)
theorem Tp.sc {F H : Hp} {v : V} {x : P} (h : Tp K F H v x) : (x = .non → v = .non) ∧ (∀ b, x = .bl b → v = .bl b) ∧ (∀ b, x = .int b → v = .int b) ∧ (∀ b, x = .str b → v = .str b) := by
  rcases h with r | ⟨_, _, _, _, c⟩
  · cases r <;> simp
  · cases x <;> simp <;> exact c.elim
theorem sc_of {F H : Hp} {v w : V} {x y : P} {b : Bool} (r : Tp K F H v x) (r' : Tp K F H w y) (h : scP x y = some b) : scal v w = true ∧ decide (v = w) = b := by
  have a := r.sc
  have a' := r'.sc
  cases x <;> cases y <;> first
    | (cases h; done)
    | (cases h
       first | rw [a.1 rfl] | rw [a.2.1 _ rfl] | rw [a.2.2.1 _ rfl] | rw [a.2.2.2 _ rfl]
       first | rw [a'.1 rfl] | rw [a'.2.1 _ rfl] | rw [a'.2.2.1 _ rfl] | rw [a'.2.2.2 _ rfl]
       simp [scal])
theorem os_eq : OpS K .V rEq fEq := fun F H v w x y Qp Q s r r' ⟨b, e, h⟩ q => by
  obtain ⟨h1, h2⟩ := sc_of r r' e
  refine ⟨h1, ?_⟩
  rw [h2]
  exact q F H _ _ (.refl s) (R.bl _) h
def isNon : P → Bool
  | .non => true
  | _ => false
theorem isNon_of {F H : Hp} {v : V} {x : P} (r : Tp K F H v x) : decide (v = .non) = isNon x := by
  rcases r with r | ⟨_, _, rfl, _, c⟩
  · cases r <;> simp [isNon]
  · cases x <;> first | exact c.elim | simp [isNon]
def fIsN : PF2 := fun x y Q => isNon y = true ∧ Q (.bl (isNon x))
theorem os_isN : OpS K .V (fun x y H Q => y = .non ∧ Q (.bl (decide (x = .non))) H) fIsN := fun F H v w x y Qp Q s r r' ⟨e, h⟩ q => by
  refine ⟨of_decide_eq_true ((isNon_of r').trans e), ?_⟩
  rw [isNon_of r]
  exact q F H _ _ (.refl s) (R.bl _) h
mutual
def toD : P → PyData
  | .non => .none
  | .bl b => .bool b
  | .int n => .int n
  | .str z => .str z
  | .tup xs => .tuple (toDs xs)
  | .lst xs => .list (toDs xs)
  | _ => .none
def toDs : List P → List PyData
  | [] => []
  | x :: xs => toD x :: toDs xs
end
mutual
def datB : P → Bool
  | .non => true
  | .bl _ => true
  | .int _ => true
  | .str _ => true
  | .tup xs => datBs xs
  | .lst xs => datBs xs
  | _ => false
def datBs : List P → Bool
  | [] => true
  | x :: xs => datB x && datBs xs
end
theorem strOk_of {z : Str} (h : SOk z) : PyData.strOk z = true := by
  unfold PyData.strOk
  rw [Array.all_eq_true']
  intro c hc
  exact decide_eq_true (h.2 c (Array.mem_toList_iff.mpr hc))
mutual
theorem R.dp {F H : Hp} (s : Same F H) : ∀ {v : V} {x : P}, datB x = true → R K F v x → Dp K H v (toD x) ∧ PyData.canLay0 (toD x) = true
  | _, _, _, .non => ⟨.non, rfl⟩
  | _, _, _, .bl b => ⟨.bl b, rfl⟩
  | _, _, _, .int n => ⟨.int n, rfl⟩
  | _, _, _, .str h => ⟨.str _, strOk_of h⟩
  | _, _, d, .tup h r => by
    rw [datB] at d
    obtain ⟨a, b⟩ := RL.dp s d r
    rw [toD]
    exact ⟨.tup (SqT.of (s _ _ h)) a, b⟩
  | _, _, d, .lst h r => by
    rw [datB] at d
    obtain ⟨a, b⟩ := RL.dp s d r
    rw [toD]
    exact ⟨.lst (SqL.of (s _ _ h)) a, b⟩
  | _, .dct _ _, d, _ => by cases d
  | _, .ins _ _ _, d, _ => by cases d
  | _, .slf _ _ _ _, d, _ => by cases d
  | _, .scr _, d, _ => by cases d
  | _, .rng _ _, d, _ => by cases d
  | _, .dtt _ _, d, _ => by cases d
  | _, .adr _, d, _ => by cases d
  | _, .ty _, d, _ => by cases d
  | _, .exc _ _ _ _ _, d, _ => by cases d
theorem RL.dp {F H : Hp} (s : Same F H) : ∀ {vs : List V} {xs : List P}, datBs xs = true → RL K F vs xs → DpAll K H vs (toDs xs) ∧ PyData.canLayAll0 (toDs xs) = true
  | _, _, _, .nil => ⟨.nil, rfl⟩
  | _, _, d, .cons h r => by
    rw [datBs, Bool.and_eq_true] at d
    obtain ⟨a, b⟩ := R.dp s d.1 h
    obtain ⟨a', b'⟩ := RL.dp s d.2 r
    rw [toDs]
    refine ⟨.cons a a', ?_⟩
    rw [PyData.canLayAll0, b, b']
    rfl
end
def shP (x : P) : Bool := datB x && decide ((toD x).depth ≤ 64)
theorem shP_of {F H : Hp} {v : V} {x : P} (s : Same F H) (r : Tp K F H v x) (h : shP x = true) : Dp K H v (toD x) ∧ SeqAt.shaped (toD x) = true := by
  unfold shP at h
  rw [Bool.and_eq_true] at h
  have key : Dp K H v (toD x) ∧ PyData.canLay0 (toD x) = true := by
    rcases r with r | ⟨a, o, rfl, ha, c⟩
    · exact R.dp s h.1 r
    · cases x with
      | lst xs =>
        obtain ⟨vs, rfl, r⟩ := c
        have d := h.1
        rw [datB] at d
        obtain ⟨a, b⟩ := RL.dp s d r
        rw [toD]
        exact ⟨.lst (SqL.of ha) a, b⟩
      | dct => exact absurd h.1 (by simp [datB])
      | dtt => exact absurd h.1 (by simp [datB])
      | ins => exact absurd h.1 (by simp [datB])
      | slf => exact absurd h.1 (by simp [datB])
      | _ => exact c.elim
  refine ⟨key.1, ?_⟩
  unfold SeqAt.shaped
  rw [key.2, h.2]
  rfl
def eqP (x y : P) : Bool := PyData.eqv (toD x) (toD y)
def fEqD : PF2 := fun x y Q => shP x = true ∧ shP y = true ∧ Q (.bl (eqP x y))
theorem os_eqD : OpS K .V (rEqD K) fEqD := fun F H v w x y Qp Q s r r' ⟨h1, h2, h⟩ q => by
  obtain ⟨a, b⟩ := shP_of s r h1
  obtain ⟨a', b'⟩ := shP_of s r' h2
  exact ⟨_, _, a, a', b, b', q F H _ _ (.refl s) (R.bl _) h⟩
def onStr (x : P) (Q : Str → Prop) : Prop := match x with
  | .str z => Q z
  | _ => False
theorem onStr_of {F H : Hp} {v : V} {x : P} {Q : Str → Prop} (r : Tp K F H v x) (h : onStr x Q) : ∃ z, v = .str z ∧ x = .str z ∧ SOk z ∧ Q z := by
  cases x with
  | str z => obtain ⟨e, s⟩ := r.str; exact ⟨z, e, rfl, s, h⟩
  | _ => exact h.elim
theorem sok_app {a b : Str} (ha : SOk a) (hb : SOk b) (h : a.length + b.length ≤ sizeLine) : SOk (a ++ b) := by
  have e : (a ++ b).cps.toList = a.cps.toList ++ b.cps.toList := by
    show (a.cps ++ b.cps).toList = _
    simp
  refine ⟨?_, fun c hc => ?_⟩
  · have : (a ++ b).length = a.length + b.length := by
      show (a.cps ++ b.cps).size = a.cps.size + b.cps.size
      simp
    rw [this]; exact h
  · rw [e] at hc
    rcases List.mem_append.mp hc with h | h
    · exact ha.2 c h
    · exact hb.2 c h
def fAddS : PF2 := fun x y Q => onStr x fun a => onStr y fun b => a.length + b.length ≤ sizeLine ∧ Q (.str (a ++ b))
theorem os_addS : OpS K .V (fun x y H Q => ∃ i j, x = .str i ∧ y = .str j ∧ i.length + j.length ≤ sizeLine ∧ Q (.str (i ++ j)) H) fAddS := fun F H v w x y Qp Q s r r' h q => by
  obtain ⟨a, rfl, rfl, sa, h⟩ := onStr_of r h
  obtain ⟨b, rfl, rfl, sb, h⟩ := onStr_of r' h
  exact ⟨a, b, rfl, rfl, h.1, q F H _ _ (.refl s) (R.str (sok_app sa sb h.1)) h.2⟩
theorem sok_cut {z : Str} {lo hi : Option Int} (h : SOk z) : SOk (cutS z lo hi) := by
  have e : (cutS z lo hi).cps.toList = (z.cps.toList.drop (HT.sIx z.length 0 lo)).take (HT.sIx z.length z.length hi - HT.sIx z.length 0 lo) := by unfold cutS; rfl
  refine ⟨?_, fun c hc => ?_⟩
  · show (cutS z lo hi).cps.size ≤ sizeLine
    rw [← Array.length_toList, e]
    have h1 := h.1
    have : z.length = z.cps.toList.length := by rw [Array.length_toList]; rfl
    rw [List.length_take, List.length_drop]
    omega
  · rw [e] at hc
    exact h.2 c (List.mem_of_mem_drop (List.mem_of_mem_take hc))
def fIxL : PF2 := fun x y Q => onLst x fun xs => onInt y fun i => ∃ z, atI xs i = some z ∧ Q z
def fIxT : PF2 := fun x y Q => onTup x fun xs => onInt y fun i => ∃ z, atI xs i = some z ∧ Q z
def fIxS : PF2 := fun x y Q => onStr x fun z => onInt y fun i => ∃ c, atI z.cps.toList i = some c ∧ Q (.str ⟨#[c]⟩)
theorem RL.at {F : Hp} {vs : List V} {xs : List P} {i : Int} {x : P} (r : RL K F vs xs) (h : atI xs i = some x) : ∃ v, atI vs i = some v ∧ R K F v x := by
  unfold atI at h ⊢
  rw [r.len]
  cases e : ixN xs.length i with
  | none => rw [e] at h; cases h
  | some j =>
    rw [e] at h
    exact r.get' (i := j) h
theorem os_ixL : OpS K .V (rIxL K) fIxL := fun F H v w x y Qp Q s r r' h q => by
  obtain ⟨xs, a, vs, rfl, rfl, ha, rl, h⟩ := onLst_of s r h
  obtain ⟨i, rfl, rfl, z, e, h⟩ := onInt_of r' h
  obtain ⟨u, eu, ru⟩ := rl.at e
  exact ⟨a, vs, i, u, rfl, rfl, SqL.of ha, eu, q F H u z (.refl s) ru h⟩
theorem os_ixT : OpS K .V (rIxT K) fIxT := fun F H v w x y Qp Q s r r' h q => by
  obtain ⟨xs, a, vs, rfl, rfl, ha, rl, h⟩ := onTup_of s r h
  obtain ⟨i, rfl, rfl, z, e, h⟩ := onInt_of r' h
  obtain ⟨u, eu, ru⟩ := rl.at e
  exact ⟨a, vs, i, u, rfl, rfl, SqT.of (s _ _ ha), eu, q F H u z (.refl s) ru h⟩
theorem sok_sgn {z : Str} (h : SOk z) {i : Int} {c : Nat} (e : atI z.cps.toList i = some c) : SOk (⟨#[c]⟩ : Str) := by
  refine ⟨by show 1 ≤ sizeLine; decide, fun d hd => ?_⟩
  have : d = c := by simpa using hd
  subst this
  unfold atI at e
  cases q : ixN z.cps.toList.length i with
  | none => rw [q] at e; cases e
  | some j =>
    rw [q] at e
    exact h.2 d (List.mem_of_getElem? (i := j) e)
theorem os_ixS : OpS K .V rIxS fIxS := fun F H v w x y Qp Q s r r' h q => by
  obtain ⟨z, rfl, rfl, sz, h⟩ := onStr_of r h
  obtain ⟨i, rfl, rfl, c, e, h⟩ := onInt_of r' h
  exact ⟨z, i, c, rfl, rfl, sz.1, e, q F H _ _ (.refl s) (R.str (sok_sgn sz e)) h⟩
/-- the script -/
def fIxScr : PF2 := fun x y Q => match x with
  | .scr xs => onInt y fun i => ∃ n, atI xs i = some n ∧ Q (.int n)
  | _ => False
theorem atI_map {α β : Type} {f : α → β} {xs : List α} {i : Int} {x : α} (h : atI xs i = some x) : atI (xs.map f) i = some (f x) := by
  unfold atI at h ⊢
  rw [List.length_map]
  cases e : ixN xs.length i with
  | none => rw [e] at h; cases h
  | some j => rw [e] at h; show (xs.map f)[j]? = some (f x); rw [List.getElem?_map, show xs[j]? = some x from h]; rfl
theorem os_ixScr : OpS K .V (rIxL K) fIxScr := fun F H v w x y Qp Q s r r' h q => by
  unfold fIxScr at h
  split at h
  · obtain ⟨i, rfl, rfl, n, e, h⟩ := onInt_of r' h
    rcases r with r | ⟨_, _, _, _, c⟩
    · cases r with
      | scr hs => exact ⟨_, _, i, _, rfl, rfl, s.seq hs, atI_map e, q F H _ _ (.refl s) (R.int n) h⟩
    · exact c.elim
  · exact h.elim
def fCat : PF2 := fun x y Q => onLst x fun xs => onLst y fun ys => xs.length + ys.length ≤ sizeLine ∧ Q (.lst (xs ++ ys))
theorem os_cat : OpS K .O rCat fCat := fun F H v w x y Qp Q s r r' h q => by
  obtain ⟨xs, a, vs, rfl, rfl, ha, rl, h⟩ := onLst_of s r h
  obtain ⟨ys, b, ws, rfl, rfl, hb, rl', h⟩ := onLst_of s r' h
  refine ⟨a, b, vs, ws, rfl, rfl, ha, hb, by rw [rl.len, rl'.len]; exact h.1, fun p np => ?_⟩
  exact q F _ _ (.lst (xs ++ ys)) (mv_new s np) (.inl ⟨p, _, rfl, np, same_free s np, upd_same, .l (rl.app rl')⟩) h.2
theorem RL.rep {F : Hp} {vs : List V} {xs : List P} (r : RL K F vs xs) : ∀ n : Nat, RL K F (List.replicate n vs).flatten (List.replicate n xs).flatten
  | 0 => .nil
  | n + 1 => by rw [List.replicate_succ, List.replicate_succ, List.flatten_cons, List.flatten_cons]; exact r.app (RL.rep r n)
def fRep : PF2 := fun x y Q => onLst x fun xs => onInt y fun k => -(2 ^ 63) ≤ k ∧ k < 2 ^ 63 ∧ xs.length * k.toNat ≤ sizeLine ∧ Q (.lst (List.replicate k.toNat xs).flatten)
theorem os_rep : OpS K .O rRep fRep := fun F H v w x y Qp Q s r r' h q => by
  obtain ⟨xs, a, vs, rfl, rfl, ha, rl, h⟩ := onLst_of s r h
  obtain ⟨i, rfl, rfl, h⟩ := onInt_of r' h
  refine ⟨a, i, vs, rfl, rfl, ha, h.1, h.2.1, by rw [rl.len]; exact h.2.2.1, fun p np => ?_⟩
  exact q F _ _ (.lst _) (mv_new s np) (.inl ⟨p, _, rfl, np, same_free s np, upd_same, .l (rl.rep _)⟩) h.2.2.2
/-- slices -/
def WO := PEnv → (Option Int → Prop) → XP → Prop
def SimO (K : PySem.W.Frag) (W : WX) (t : TO) (w : WO) : Prop :=
  ∀ F0 H0 σ F H env Qp Xp Q, Good K F0 H0 σ F H env → w env Qp Xp → XOk K W σ F H Xp → (∀ F' H' o, Mv F H F' H' → Qp o → Q o H') → t σ H Q
def wONo : WO := fun _ Q _ => Q none
def wOSo (a : WE) : WO := fun env Q X => a env (fun x => onInt x fun i => Q (some i)) X
theorem so_none : SimO K W tNoPart wONo := fun F0 H0 σ F H env Qp Xp Q g hw hx q => q F H none g.mvr hw
theorem so_some {t : TE} {a : WE} (h : SE K W .C t a) : SimO K W (tPart t) (wOSo a) := fun F0 H0 σ F H env Qp Xp Q g hw hx q =>
  h F0 H0 σ F H env _ Xp _ g hw hx fun F1 H1 v x m r h1 => by
    obtain ⟨i, rfl, rfl, h1⟩ := onInt_of r h1
    exact ⟨i, rfl, q F1 H1 _ m h1⟩
abbrev PSl := P → Option Int → Option Int → (P → Prop) → Prop
def SlS (K : PySem.W.Frag) (k : Rk) (r : V → Option Int → Option Int → Hp → VK → Prop) (f : PSl) : Prop := ∀ F H v x lo hi (Qp : P → Prop) (Q : VK), Same F H → Tp K F H v x → f x lo hi Qp → (∀ F' H' u z, Mv F H F' H' → rel K k H F' H' u z → Qp z → Q u H') → r v lo hi H Q
def wSl (f : PSl) (a : WE) (l h : WO) : WE := fun env Q X => a env (fun x => l env (fun lo => h env (fun hi => f x lo hi Q) X) X) X
theorem se_sl {r : V → Option Int → Option Int → Hp → VK → Prop} {f : PSl} {te : TE} {tl th : TO} {a : WE} {l u : WO} (hs : SlS K k r f) (ha : SE K W .C te a) (hl : SimO K W tl l) (hu : SimO K W th u) : SE K W k (tSl r te tl th) (wSl f a l u) :=
  fun F0 H0 σ F H env Qp Xp Q g hw hx q => ha F0 H0 σ F H env _ Xp _ g hw hx fun F1 H1 v x m1 r1 h1 =>
    hl F0 H0 σ F1 H1 env _ Xp _ (g.mv m1) h1 (hx.mv m1) fun F2 H2 lo m2 h2 => hu F0 H0 σ F2 H2 env _ Xp _ ((g.mv m1).mv m2) h2 ((hx.mv m1).mv m2) fun F3 H3 hi m3 h3 =>
      hs F3 H3 v x lo hi Qp Q m3.fh (Tp.mv (m2.trans m3) r1) h3 fun F4 H4 z p m4 r4 h4 => q F4 H4 z p ((m1.trans (m2.trans m3)).trans m4) (rel_back (m1.s.trans (m2.s.trans m3.s)) r4) h4
def cutP (xs : List P) (lo hi : Option Int) : List P := (xs.drop (HT.sIx xs.length 0 lo)).take (HT.sIx xs.length xs.length hi - HT.sIx xs.length 0 lo)
theorem RL.cut {F : Hp} {vs : List V} {xs : List P} {lo hi : Option Int} (r : RL K F vs xs) : RL K F (cutV vs lo hi) (cutP xs lo hi) := by
  unfold cutV cutP
  rw [r.len]
  exact (r.drop _).take _
def fSlL : PSl := fun x lo hi Q => onLst x fun xs => Q (.lst (cutP xs lo hi))
theorem ls_list : SlS K .O (rSlL K) fSlL := fun F H v x lo hi Qp Q s r h q => by
  obtain ⟨xs, a, vs, rfl, rfl, ha, rl, h⟩ := onLst_of s r h
  exact ⟨a, vs, rfl, SqL.of ha, fun p np => q F _ _ (.lst _) (mv_new s np) (.inl ⟨p, _, rfl, np, same_free s np, upd_same, .l rl.cut⟩) h⟩
def fSlS : PSl := fun x lo hi Q => onStr x fun z => Q (.str (cutS z lo hi))
theorem ls_str : SlS K .V rSlS fSlS := fun F H v x lo hi Qp Q s r h q => by
  obtain ⟨z, rfl, rfl, sz, h⟩ := onStr_of r h
  exact ⟨z, rfl, sz.1, q F H _ _ (.refl s) (R.str (sok_cut sz)) h⟩
def flatP : P → Bool
  | .non => true | .bl _ => true | .int _ => true | .str _ => true
  | _ => false
def eqF : P → P → Bool
  | .non, .non => true
  | .bl a, .bl b => a == b
  | .bl a, .int b => (if a then 1 else 0) == b
  | .int a, .bl b => a == (if b then 1 else 0)
  | .int a, .int b => a == b
  | .str a, .str b => a == b
  | _, _ => false
theorem R.flat {F : Hp} {v : V} {x : P} (r : R K F v x) (h : flatP x = true) : flatV v = true := by
  cases r <;> first | rfl | (cases h; done)
theorem R.eqf {F : Hp} {v w : V} {x y : P} (r : R K F v x) (r' : R K F w y) (h : flatP x = true) (h' : flatP y = true) : eqV v w = eqF x y := by
  cases r <;> first | (cases h; done) | (cases r' <;> first | (cases h'; done) | rfl)
def inP (x : P) (xs : List P) : Bool := xs.any fun y => eqF y x
theorem in_of {F : Hp} {v : V} {x : P} (r : R K F v x) (h : flatP x = true) : ∀ {vs : List V} {xs : List P}, RL K F vs xs → xs.all flatP = true → vs.all flatV = true ∧ inV v vs = inP x xs
  | _, _, .nil, _ => ⟨rfl, rfl⟩
  | _, _, .cons q rl, a => by
    rw [List.all_cons, Bool.and_eq_true] at a
    obtain ⟨h1, h2⟩ := in_of r h rl a.2
    refine ⟨by rw [List.all_cons, q.flat a.1, h1]; rfl, ?_⟩
    unfold inV inP at h2 ⊢
    rw [List.any_cons, List.any_cons, h2, q.eqf r a.1 h]
def fIn (n : Bool) : PF2 := fun x y Q => match y with
  | .lst xs => flatP x = true ∧ xs.all flatP = true ∧ Q (.bl (if n then !inP x xs else inP x xs))
  | .tup xs => flatP x = true ∧ xs.all flatP = true ∧ Q (.bl (if n then !inP x xs else inP x xs))
  | _ => False
theorem Tp.flat {F H : Hp} {v : V} {x : P} (r : Tp K F H v x) (h : flatP x = true) : R K F v x := by
  rcases r with r | ⟨_, _, _, _, c⟩
  · exact r
  · cases x <;> first | exact c.elim | cases h
theorem os_in {n : Bool} : OpS K .V (rIn K n) (fIn n) := fun F H v w x y Qp Q s r r' h q => by
  unfold fIn at h
  split at h
  · obtain ⟨a, vs, rfl, ha, rl⟩ := Tp.lst s r'
    obtain ⟨h1, h2⟩ := in_of (r.flat h.1) h.1 rl h.2.1
    refine ⟨a, vs, rfl, .inl (SqL.of ha), (r.flat h.1).flat h.1, h1, ?_⟩
    rw [h2]
    exact q F H _ _ (.refl s) (R.bl _) h.2.2
  · obtain ⟨_, a, vs, e, rfl, ha, rl, _⟩ := onTup_of (Q := fun _ => True) s r' trivial
    cases e
    obtain ⟨h1, h2⟩ := in_of (r.flat h.1) h.1 rl h.2.1
    refine ⟨a, vs, rfl, .inr (SqT.of (s _ _ ha)), (r.flat h.1).flat h.1, h1, ?_⟩
    rw [h2]
    exact q F H _ _ (.refl s) (R.bl _) h.2.2
  · exact h.elim
end
end Pf

namespace Pf
open PySem PySem.Spec PyProof.Rows L2
structure FnN (P : Program) (w : World) (K : PySem.W.Frag) (mg : Str → Option Value) (base : Heap) (CX : CXT) (k : Nat) (f : Addr) (fd : FuncData) (ps : List Str) (sp : Nat → Sp) : Prop where
  ln : ∀ n vs H Q E, sp n vs H Q E → vs.length = ps.length
  go : ∀ (A : Around) (out : List Env) (s : Shared) (H : Hp) (ar : Args) (us : List Value) (vs : List V) (Q : VK) (E : XK), Room k A → Env0 P w K mg base A out s H → BindsTo s fd ar (ps.zip us) → Vals vs us → sp s.heap.objs.size vs H Q E →
    codeAny (model P w) A (.call (.ref f) ar) (CR CX out P w H s Q E) s
theorem fnN_of {CX : CXT} {P : Program} {w : World} {K : PySem.W.Frag} {mg : Str → Option Value} {base : Heap} {k : Nat} {x qual : Str} {st : Stmt} {f : Addr} {fd : FuncData} {N ps : List Str} {sp : Nat → Sp} (F : Fun K x qual st f fd) (S : FnScope N ps (defScope st))
    (ln : ∀ n vs H Q E, sp n vs H Q E → vs.length = ps.length)
    (hbody : ∀ (cdv : Value) (A : Around) (out : List Env) (s : Shared) (H : Hp) (vs : List V) (Q : VK) (E : XK), Room k (A.deeper (envOfC qual (defScope st) s.heap.objs.size f cdv)) → sp s.heap.objs.size vs H Q E →
      ∃ t, PSs (cxOf CX P w K mg base N qual (defScope st) f cdv A out s H E) (defBody st) t ∧ t { nx := fun _ H' => Q .non H', rt := Q } (start N vs) H) : FnN P w K mg base CX (k + 1) f fd ps sp := by
  obtain ⟨oc, od, kV, doc, pm, an, cdv, ct, osl, rfl, lk, hcd⟩ := F.ex
  refine ⟨ln, fun A out s H ar us vs Q E room e0 hb rl hsp => ?_⟩
  have hlen := ln _ _ _ _ _ hsp
  have KX := e0.mod.kin.keeps (h' := s.heap) fun b o e => (e0.bs b o e).1
  have kinds : ∀ y ∈ ps.zip us, (defScope st).names.lookup y.1 = some .local ∨ ((defScope st).names.lookup y.1 = some .cell ∧ ((cellsFrom (s.heap.objs.size + 1) (defScope st).names []).lookup y.1).isSome = true) := fun ⟨n, v⟩ hy =>
    (S.par n (List.of_mem_zip hy).1).elim (fun q => .inl q) fun q => .inr ⟨q, PySem.W.cellsFrom_some _ _ _ (.inl q)⟩
  refine codeAny_call_function room.depth (KX _ _ lk) rfl S.co S.gen rfl (PySem.W.codeRec_of KX hcd) (hb _ _ _ _ (wpAny_newFunctionEnv_cells S.kind kinds fun env he s1 y => ?_))
  subst he
  refine ⟨(e0.mod.nolimit.keeps (h' := s.heap) fun b o e => (e0.bs b o e).1).keeps y.toInCall.keep, codeAny_func ?_⟩
  obtain ⟨t, ht, hq⟩ := hbody cdv A out s H vs Q E (room.deeper _) hsp
  have I := inv_start (CX := CX) (P := P) (w := w) (E := E) S room.hd e0 hlen rl y
  refine wpAny_mono (ht.run [] s1 (start N vs) H _ I hq) (fun fl s' hs => ?_) (fun _ _ z => z)
  cases fl with
  | ret u => obtain ⟨v, σ', H', J, rv, q⟩ := hs; exact ⟨v, H', J.os, J.bare, J.base, J.hok, rv, q⟩
  | next => obtain ⟨σ', H', J, q⟩ := hs; exact ⟨.non, H', J.os, J.bare, J.base, J.hok, rfl, q⟩
  | brk => exact hs.elim fun _ z => z.elim fun _ z => z.2.elim
  | cont => exact hs.elim fun _ z => z.elim fun _ z => z.2.elim
theorem FnN.of {P : Program} {w : World} {K : PySem.W.Frag} {mg : Str → Option Value} {base : Heap} {CX : CXT} {k : Nat} {f : Addr} {fd : FuncData} {ps : List Str} {sp : Sp} (F : FnOk P w K mg base CX k f fd ps sp) : FnN P w K mg base CX k f fd ps (fun _ => sp) :=
  ⟨fun _ => F.len, F.run⟩
section
variable {X : Cx} {CX : CXT} {n : Nat} {f C : Addr} {fd : FuncData} {ps : List Str} {sp : Sp} {spn : Nat → Sp} {E : XK} {A1 : Around}
/-- the def runs at A1 (the frame's own place, or one call deeper) -/
theorem run_subN (F : FnN X.prog X.w X.K X.mg X.base CX n f fd ps spn) (hb : Binds X.K fd ps []) (sb : Sub X n A1) (hx : Passes CX X E) {pins : List (Addr × Obj)} {σ : L2.St} {H : Hp} {s : Shared} {Q : VK} {us : List Value} {vs : List V}
    (I : Inv X pins σ H s) (r : Vals vs us) (h : spn s.heap.objs.size vs H Q E) : wpAny (model X.prog X.w) A1 (call (.ref f) us)
      (fun u s' => ∃ v H', Inv X pins σ H' s' ∧ RelV v u ∧ Q v H' ∧ ∀ b o, s.heap.get? b = some o → H b = none → H' b = none) X.xe s := by
  have e0 : Env0 X.prog X.w X.K X.mg X.base A1 X.stack s H := by
    have e := I.env0
    exact ⟨(by rw [sb.fr]; exact e.frames), e.mod, e.bs, e.bsz, e.funs, e.frf, e.hok, e.bare⟩
  have hl : us.length = ps.length := by rw [← r.length]; exact F.ln _ _ _ _ _ h
  have hbb : BindsTo s fd ⟨us, []⟩ (ps.zip us) := by
    have b := hb s us I.kIn (by simpa using hl)
    simpa using b
  refine wpAny_call (codeAny_mono (F.go A1 X.stack s H ⟨us, []⟩ us vs Q E sb.room e0 hbb r h) fun t s' hq => ?_)
  cases t with
  | error e => exact hx pins σ H s e s' I hq
  | ok fl =>
    cases fl with
    | next => exact False.elim hq
    | brk => exact False.elim hq
    | cont => exact False.elim hq
    | ret u =>
      have hq0 : CE X.stack X.prog X.w H s Q u s' := hq
      obtain ⟨v, H', os, bare, un, hok, rv, q⟩ := hq0
      obtain ⟨hh, g, d, t, os'⟩ := s'
      obtain rfl : os' = s.os := os
      exact ⟨v, H', I.call (h' := hh) (g' := g) (d' := d) (t' := t) (ch := []) un hok bare (fun b z => absurd z (by simp)), rv, q, fun b o z nb => un.free b o z nb (by simp)⟩
theorem run_sub (F : FnOk X.prog X.w X.K X.mg X.base CX n f fd ps sp) (hb : Binds X.K fd ps []) (sb : Sub X n A1) (hx : Passes CX X E) {pins : List (Addr × Obj)} {σ : L2.St} {H : Hp} {s : Shared} {Q : VK} {us : List Value} {vs : List V}
    (I : Inv X pins σ H s) (r : Vals vs us) (h : sp vs H Q E) : wpAny (model X.prog X.w) A1 (call (.ref f) us)
      (fun u s' => ∃ v H', Inv X pins σ H' s' ∧ RelV v u ∧ Q v H' ∧ ∀ b o, s.heap.get? b = some o → H b = none → H' b = none) X.xe s :=
  run_subN (spn := fun _ => sp) (.of F) hb sb hx I r h
/-- len(o) of an own class -/
def rOwnLen (C : Addr) (sp : Sp) (E : XK) : List V → Hp → VK → Prop := fun xs H Q => ∃ a dx fs, xs = [.ref a] ∧ H a = some (.ins C dx fs) ∧ sp [.ref a] H (fun v H' => ∃ k : Int, v = .int k ∧ (0 ≤ k ∧ k < 2 ^ 63) ∧ Q (.int k) H') E
theorem call_lenOwn (F : FnOk X.prog X.w X.K X.mg X.base CX n f fd ps sp) (hs : PySem.W.findIn X.K (.ref C) "__len__" = some (some (.ref f))) (hf : PySem.W.isFn X.K (.ref f) = true) (hb : Binds X.K fd ps []) (hx : Passes CX X E) (hr : Room (n + 1) X.A) :
    CallR X (.builtin "len") (rOwnLen C sp E) := by
  intro pins s σ H xs us Q I rv h
  obtain ⟨a, dx, fs, rfl, ha, hsp⟩ := h
  obtain ⟨u, rfl, ru⟩ := rv.one
  cases ru
  obtain ⟨mA, J, _⟩ := ins_get I.hok ha
  obtain ⟨od, J, _⟩ := J.look
  obtain ⟨m, hF⟩ := I.fr
  refine PySem.W.len_K hF I.ok.mod.kin J hs hf ?_
  refine wpAny_mono (run_sub F hb ((⟨hr, rfl⟩ : Sub X (n + 1) X.A).in1) hx I (show Vals [V.ref a] [Value.ref a] from .cons rfl .nil) hsp) (fun z s' hz => ?_) fun _ _ y => y
  obtain ⟨v, H', I', rz, ⟨k, rfl, hk, q⟩, _⟩ := hz
  obtain ⟨t, rfl⟩ := rz
  exact ⟨hk, .int k, H', I'.tok _, ⟨_, rfl⟩, q⟩
/-- a == b, both of an own class; what the method hands back is a bool -/
def rOwnEq (C : Addr) (sp : Sp) (E : XK) : R2 := fun x y H Q => ∃ a b dx dy fs gs, x = .ref a ∧ y = .ref b ∧ H a = some (.ins C dx fs) ∧ H b = some (.ins C dy gs) ∧ sp [.ref a, .ref b] H (fun v H' => ∃ k, v = .bl k ∧ Q (.bl k) H') E
theorem op_eqOwn (F : FnOk X.prog X.w X.K X.mg X.base CX n f fd ps sp) (hs : PySem.W.findIn X.K (.ref C) "__eq__" = some (some (.ref f))) (hf : PySem.W.isFn X.K (.ref f) = true) (hb : Binds X.K fd ps []) (hx : Passes CX X E) (hr : Room n X.A) :
    OpR X (compareOp .Eq) (rOwnEq C sp E) := by
  intro pins s σ H x y v u Q I rx ry h
  obtain ⟨a, b, dx, dy, fs, gs, rfl, rfl, ha, hb', hsp⟩ := h
  cases rx
  cases ry
  obtain ⟨mA, J, _⟩ := ins_get I.hok ha
  obtain ⟨mB, J', _⟩ := ins_get I.hok hb'
  obtain ⟨od, J, _⟩ := J.look
  obtain ⟨od', J', _⟩ := J'.look
  obtain ⟨m, hF⟩ := I.fr
  show wpAny (model X.prog X.w) X.A (richCompare .Eq (.ref a) (.ref b)) (EP X pins σ Q) X.xe s
  refine PySem.W.cmp_K (op := .Eq) (tb := .ref C) hr.units0 hF I.ok.mod.kin J J'.type (by simp [PySem.W.notFirst]) hs hf ?_
  refine wpAny_mono (run_sub F hb (⟨hr, rfl⟩ : Sub X n X.A) hx I (show Vals [V.ref a, V.ref b] [Value.ref a, Value.ref b] from .cons rfl (.cons rfl .nil)) hsp) (fun z s' hz => ?_) fun _ _ y => y
  obtain ⟨v, H', I', rz, ⟨k, rfl, q⟩, _⟩ := hz
  obtain rfl : z = Value.bool k := rz
  exact ⟨.bl k, H', I', rfl, q⟩
/-- for x in o, o of an own class whose __iter__ hands back iter(a list) -/
def iOwn (K : PySem.W.Frag) (C : Addr) (spn : Nat → Sp) (E : XK) (te : TE) : TI := fun σ H R => te σ H fun x H1 => ∃ a dx fs, x = .ref a ∧ H1 a = some (.ins C dx fs) ∧ ∀ n,
  spn n [.ref a] H1 (fun v H2 => ∃ it l, v = .ref it ∧ n ≤ it ∧ H2 it = some (ItO l it 0) ∧ R (Itl K l) (ItX.dropH H2 it)) E
theorem pi_own {tg e : Expr} {te : TE} (he : PE X e te) (F : FnN X.prog X.w X.K X.mg X.base CX n f fd ps spn) (hs : PySem.W.findIn X.K (.ref C) "__iter__" = some (some (.ref f))) (hf : PySem.W.isFn X.K (.ref f) = true) (hb : Binds X.K fd ps []) (hx : Passes CX X E) (hr : Room n X.A) :
    PI X tg e (iOwn X.K C spn E te) := by
  refine ⟨fun pins s σ H R I h => ?_⟩
  refine thn (he.run pins s σ H _ I h) fun v s1 ⟨x, H1, I1, r1, q1⟩ => ?_
  obtain ⟨a, dx, fs, rfl, ha, hsp⟩ := q1
  cases r1
  obtain ⟨mA, J, _⟩ := ins_get I1.hok ha
  obtain ⟨od, J, _⟩ := J.look
  obtain ⟨m, hF⟩ := I1.fr
  refine PySem.W.owit_iter hF I1.ok.mod.kin J hs hf ?_
  refine wpAny_mono (run_subN F hb (⟨hr, rfl⟩ : Sub X n X.A) hx I1 (show Vals [V.ref a] [Value.ref a] from .cons rfl .nil) (hsp _)) (fun z s' hz => ?_) fun _ _ y => y
  obtain ⟨v, H2, I2, rz, ⟨it, l, rfl, hbig, hit, q⟩, fr⟩ := hz
  obtain rfl : z = Value.ref it := rz
  have eo := itO_get I2 hit
  have hT : s'.TypeIs (.ref it) "list_iterator" := ⟨_, eo, rfl⟩
  unfold PySem.W.OwitIt
  refine wpAny_specialOf (name := Str.ofString "__next__") hT slot_listiter_next.lookup ?_
  have st : s'.heap.IsListIter it l 0 := ⟨_, eo, rfl, rfl⟩
  have hi' := hit
  unfold ItO at hi'
  refine ⟨it, [it], _, _, ItX.dropH H2 it, rfl, ItX.inv_drop I2 hi', turn_list l it, st, fun b hb => ?_, q⟩
  have e : b = it := by simpa using hb
  rw [e]
  exact ItX.inv_fp I2 hit (Nat.le_trans I1.sz hbig)
end
end Pf

namespace PySem.W
open PySem PySem.Spec PySem.Calls PyProof.Rows
section
variable {prog : Program} {w : World} {A : Around} {E : Value → Shared → Prop} {s : Shared} {K : Frag} {x D : Addr} {ox od : Obj}
/-- getattr of __class__ of a caught error that has fields of its own -/
theorem pf_classD {Q : Option Value → Shared → Prop} (hga : findIn K (.ref D) "__getattribute__" = some (some (.builtin "BaseException.__getattribute__"))) (hgt : findIn K (.ref D) "__getattr__" = some none) (hsub : subIn K (.ref D) (.type "BaseException") = some true) (hdct : hasDictIn K D = true)
    (ha : findIn K (.ref D) "__class__" = some (some (.builtin "object.__class__"))) (hn : specialIn K (.builtin "object.__class__") "__get__" = some (some (.builtin "getset_descriptor.__get__"))) (htk : takesIn K (.builtin "object.__class__") = some true) (hm : mroIn K D (.type "object") = some true)
    (X : K.In s.heap) (I : InstAt s.heap x ox D (some od)) (h : Q (some (.ref D)) { s with toks := s.toks + 1 }) : wpAny (model prog w) A (getAttr? (.ref x) "__class__") Q E s := by
  have hf : findObj K D (some od) "__class__" = some (.bind (.builtin "getset_descriptor.__get__") (.builtin "object.__class__")) := findObj_data (by obtain ⟨cd, hc, _⟩ := any_some hdct; rw [hc]; rfl) ha hn htk
  obtain ⟨hp, g, d, t, os⟩ := s
  have La := I.type (M := model prog w); have Lb := looks_findIn (M := model prog w) X hga; have Lc := looks_findIn (M := model prog w) X hgt; have Ld := looks_find (M := model prog w) X I hf
  have sub : Looks (model prog w) hp (isInstance (.ref x) (.type "BaseException")) true := La.andThen (looks_subIn X hsub)
  have z2 : (Value.builtin "BaseException.__getattribute__" == Value.builtin "object.__getattribute__") = false := by decide +kernel
  have z1 : (onTheHeap (Value.ref D) && Value.builtin "BaseException.__getattribute__" == Value.builtin "object.__getattribute__") = false := by rw [z2]; rfl
  unfold getAttr? getAttrBy? getAttrBy
  refine wpAny_bind (wpAny_mkText (wpAny_bind (wpAny_attempt (wpAny_holding (wpAny_bind (La.at (wpAny_bind (Lb.at ?_))))))))
  show wpAny _ _ (ite ((onTheHeap (Value.ref D) && Value.builtin "BaseException.__getattribute__" == Value.builtin "object.__getattribute__") = true) _ _) _ _ _
  rw [z1, if_neg Bool.false_ne_true]
  unfold getAttrByItsOwn hookBefore
  refine wpAny_bind ?_
  rw [if_pos (show onTheHeap (Value.ref D) = true from rfl)]
  refine Lc.at (wpAny_bind (wpAny_attempt (wpAny_holding ?_)))
  unfold callGetattribute
  rw [show (false && onTheHeap (Value.builtin "BaseException.__getattribute__")) = false from rfl, if_neg Bool.false_ne_true]
  unfold boundAndCalled
  rw [PySem.F.excAttr_ValueError.ga.bind (.ref x)]
  refine wpAny_bind (wpAny_pure (wpAny_call (codeAny_call_builtin PySem.F.excAttr_ValueError.ga.plain PySem.F.entry_bexc_ga ?_)))
  refine @check_slot (model prog w) _ _ ⟨hp, g, d, t + 1, os⟩ "BaseException.__getattribute__" "BaseException" "__getattribute__" (.ref x) [.str "__class__" t] [] _ (by decide +kernel) (by decide +kernel) sub (PySem.F.args_bexc_ga (.ref x) (.str "__class__" t)) ?_
  unfold Builtin.«object.__getattribute__»
  refine wpAny_bind (wpAny_of_eq (a := ((Value.ref x : Value), [Value.str "__class__" t])) (by first | rfl | (simp only [slotArgs]; rfl)) (wpAny_bind (wpAny_pure (wpAny_bind (La.at (wpAny_bind (Ld.at ?_)))))))
  show wpAny _ _ (holding [Value.builtin "object.__class__"] (call (.builtin "getset_descriptor.__get__") [.builtin "object.__class__", .ref x, .ref D]) >>= ret) _ _ _
  refine wpAny_bind (wpAny_holding (wpAny_call (class_get (s := ⟨hp, g, d, t + 1, os⟩) (ox := ox) (od := some od) X I hm (wpAny_pure ?_))))
  show wpAny _ _ (handedOut (.ref D)) _ _ _
  rw [handedOut_of (v := .ref D) rfl]
  first | exact wpAny_pure (wpAny_pure h) | exact wpAny_pure h | exact wpAny_pure (wpAny_bind (wpAny_pure (wpAny_pure h)))
theorem pf_kitD (hga : findIn K (.ref D) "__getattribute__" = some (some (.builtin "BaseException.__getattribute__"))) (hgt : findIn K (.ref D) "__getattr__" = some none) (hsub : subIn K (.ref D) (.type "BaseException") = some true) (hdct : hasDictIn K D = true)
    (ha : findIn K (.ref D) "__class__" = some (some (.builtin "object.__class__"))) (hn : specialIn K (.builtin "object.__class__") "__get__" = some (some (.builtin "getset_descriptor.__get__"))) (htk : takesIn K (.builtin "object.__class__") = some true) (hm : mroIn K D (.type "object") = some true) :
    KitX K (.ref x) (.ref D) (fun h => InstAt h x ox D (some od)) := by
  obtain ⟨cdD, hcD, _⟩ := any_some hdct
  have hcd : ∃ c d cd sl, K.lookup D = some ⟨c, d, .cls cd, sl⟩ := by
    unfold clsIn at hcD
    split at hcD
    · rename_i c' d' cd' sl' ho; exact ⟨_, _, _, _, ho⟩
    · cases hcD
  obtain ⟨c, d, cd, sl, ho⟩ := hcd
  refine ⟨fun _ _ _ I => I.type, fun _ h X _ => ?_, fun h tp dd its n sl X htp => ?_, fun X I k => pf_classD hga hgt hsub hdct ha hn htk hm X I k⟩
  · intro A' Q' E' s' k q
    unfold isType loadHead
    exact wpAny_bind (wpAny_loadPart (k _ _ (X _ _ ho)) (wpAny_pure q))
  · refine Bool.eq_false_iff.mpr fun q => ?_
    have e : D = tp := Value.ref.inj (beq_iff_eq.mp q)
    subst e
    cases (X _ _ ho).symm.trans htp
end
end PySem.W
namespace Pf
open PySem PySem.Spec PyProof.Rows L2
/-- isinstance(e, c), e a caught error with fields -/
def rIsD (K : PySem.W.Frag) (a : Addr) (cls : Value) (d : Option Addr) : List V → Hp → VK → Prop := fun xs H Q => ∃ (D dd : Addr) (fs : List (Str × V)) (c : V) (cv : Value) (b : Bool), xs = [.ref a, c] ∧ cls = .ref D ∧ d = some dd ∧ H dd = some (.xd fs) ∧ ExcC K D ∧ ClsV c cv ∧ PySem.W.kitOne K (.ref D) cv = some b ∧ Q (.bl b) H
section
variable {X : Cx} {CX : CXT} {k : Nat} {f C : Addr} {fd : FuncData} {ps : List Str} {sp : Sp} {x : Str} {p pos : Pos} {e : Expr} {es : List Expr} {t : TA}
end
end Pf

namespace Pf
open PySem PySem.Spec PyProof.Rows L2
abbrev BkT : Type := Shared → Hp → Addr → List (Str × Addr) → List Addr → TT
abbrev BkE : Type := Shared → Hp → Addr → List (Str × Addr) → List Addr → TE
abbrev BkG : Type := Shared → Hp → Addr → List (Str × Addr) → List Addr → TG
def allE (te : BkE) : TE := fun σ H Q => ∀ (s : Shared) (Hb : Hp) (C : Addr) (cl : List (Str × Addr)) (fp : List Addr), te s Hb C cl fp σ H Q
def allT (te : BkT) : TT := fun σ H Q => ∀ (s : Shared) (Hb : Hp) (C : Addr) (cl : List (Str × Addr)) (fp : List Addr), te s Hb C cl fp σ H Q
def allG (te : BkG) : TG := fun v σ H Q => ∀ (s : Shared) (Hb : Hp) (C : Addr) (cl : List (Str × Addr)) (fp : List Addr), te s Hb C cl fp v σ H Q
section
variable {X : Cx} {elt tg iter : Expr} {ifs : List Expr} {scope : Scope} {own : List (Str × Nat)} {pos : Pos} {wi : TI}
theorem pe_lcX {g : BkG} {tt : BkT} {te : BkE} (hc : X.calm = true) (hN : X.N.Nodup) (hi : PI X tg iter wi) (ok : BlkOk X.N X.env.scope scope own)
    (hg : ∀ s H C cl fp, PG (X.blk s H scope (compEnvC scope cl C X.env) fp) tg (g s H C cl fp)) (ht : ∀ s H C cl fp, PTs (X.blk s H scope (compEnvC scope cl C X.env) fp) ifs (tt s H C cl fp)) (he : ∀ s H C cl fp, PE (X.blk s H scope (compEnvC scope cl C X.env) fp) elt (te s H C cl fp))
    (hs : ∀ x, foldedSetIterable iter X.env x = pure x := by intro _; rfl) : PE X (.ListComp elt [⟨tg, iter, ifs, 0⟩] scope pos) (tLc wi (allG g) (allT tt) (allE te) (own.map (·.2))) :=
  pe_lc hc hN hi ok (fun s H C cl fp => ⟨fun pins s1 σ H1 v u Q I r h => (hg s H C cl fp).run pins s1 σ H1 v u Q I r (h s H C cl fp)⟩)
    (fun s H C cl fp => ⟨fun pins s1 σ H1 Q I h => (ht s H C cl fp).run pins s1 σ H1 Q I (h s H C cl fp)⟩) (fun s H C cl fp => ⟨fun pins s1 σ H1 Q I h => (he s H C cl fp).run pins s1 σ H1 Q I (h s H C cl fp)⟩) hs
variable {i : Nat} {y : Str} {py spos : Pos}
theorem ps_setLcX {g : BkG} {tt : BkT} {te : BkE} (hc : X.calm = true) (hN : X.N.Nodup) (hy : X.N[i]? = some y) (hyl : X.env.scope.names.lookup y = some .local) (hsw : swapsWith (.ListComp elt [⟨tg, iter, ifs, 0⟩] scope pos) (some (.Name y py)) spos.line X.env = pure true) (hi : PI X tg iter wi) (ok : BlkOk X.N X.env.scope scope own)
    (hg : ∀ s H C cl fp, PG (X.blk s H scope (compEnvC scope cl C X.env) fp) tg (g s H C cl fp)) (ht : ∀ s H C cl fp, PTs (X.blk s H scope (compEnvC scope cl C X.env) fp) ifs (tt s H C cl fp)) (he : ∀ s H C cl fp, PE (X.blk s H scope (compEnvC scope cl C X.env) fp) elt (te s H C cl fp))
    (hs : ∀ x, foldedSetIterable iter X.env x = pure x := by intro _; rfl) : PS X (.Assign [.Name y py] (.ListComp elt [⟨tg, iter, ifs, 0⟩] scope pos) spos) (tAsg (tLc wi (allG g) (allT tt) (allE te) (own.map (·.2))) (gName i)) :=
  ps_setLc hc hN hy hyl hsw hi ok (fun s H C cl fp => ⟨fun pins s1 σ H1 v u Q I r h => (hg s H C cl fp).run pins s1 σ H1 v u Q I r (h s H C cl fp)⟩)
    (fun s H C cl fp => ⟨fun pins s1 σ H1 Q I h => (ht s H C cl fp).run pins s1 σ H1 Q I (h s H C cl fp)⟩) (fun s H C cl fp => ⟨fun pins s1 σ H1 Q I h => (he s H C cl fp).run pins s1 σ H1 Q I (h s H C cl fp)⟩) hs
end
end Pf


namespace Pf
open PySem PySem.Spec PyProof.Rows L2
section
variable {K : PySem.W.Frag} {W : WX} {k : Rk} {ro : Bool}
def fLen : PFn := fun xs Q => match xs with
  | [.lst xs] => Q (.int xs.length)
  | [.tup xs] => Q (.int xs.length)
  | [.scr xs] => Q (.int xs.length)
  | _ => False
theorem cs_len {m : Mo} : CallS K .V [m] (fun xs H Q => ∃ p ys, xs = [.ref p] ∧ (SqL K H p ys ∨ SqT K H p ys) ∧ Q (.int ys.length) H) fLen := fun F H vs xs Qp Q s r h q => by
  obtain ⟨v, x, rfl, rfl, t⟩ := AL.one r
  unfold fLen at h
  split at h
  · rename_i ys e
    cases e
    obtain ⟨a, ws, rfl, ha, rl⟩ := Tp.lst s t
    exact ⟨a, ws, rfl, .inl (SqL.of ha), by rw [rl.len]; exact q F H _ _ (.refl s) (R.int _) h⟩
  · rename_i ys e
    cases e
    obtain ⟨_, a, ws, e, rfl, ha, rl, _⟩ := onTup_of (Q := fun _ => True) s t trivial
    cases e
    exact ⟨a, ws, rfl, .inr (SqT.of (s _ _ ha)), by rw [rl.len]; exact q F H _ _ (.refl s) (R.int _) h⟩
  · rename_i ys e
    cases e
    rcases t with t | ⟨_, _, _, _, c⟩
    · cases t with
      | scr hs => exact ⟨_, _, rfl, .inl (s.seq hs), by rw [List.length_map]; exact q F H _ _ (.refl s) (R.int _) h⟩
    · exact c.elim
  · exact h.elim
def fLenS : PFn := fun xs Q => match xs with
  | [.str z] => Q (.int z.length)
  | _ => False
theorem cs_lenS {m : Mo} : CallS K .V [m] (fun xs H Q => ∃ z, xs = [.str z] ∧ z.length ≤ sizeLine ∧ Q (.int z.length) H) fLenS := fun F H vs xs Qp Q s r h q => by
  obtain ⟨v, x, rfl, rfl, t⟩ := AL.one r
  unfold fLenS at h
  split at h
  · rename_i z e
    cases e
    obtain ⟨rfl, sz⟩ := t.str
    exact ⟨z, rfl, sz.1, q F H _ _ (.refl s) (R.int _) h⟩
  · exact h.elim
def fInt1 : PFn := fun xs Q => match xs with
  | [.int i] => Q (.int i)
  | [.bl b] => Q (.int (if b then 1 else 0))
  | _ => False
theorem Tp.bl {F H : Hp} {v : V} {b : Bool} (h : Tp K F H v (.bl b)) : v = .bl b := by
  rcases h with r | ⟨_, _, _, _, c⟩
  · cases r; rfl
  · exact c.elim
theorem cs_int1 {m : Mo} : CallS K .V [m] (fun xs H Q => (∃ i, xs = [.int i] ∧ Q (.int i) H) ∨ ∃ k, xs = [.bl k] ∧ Q (.int (if k then 1 else 0)) H) fInt1 := fun F H vs xs Qp Q s r h q => by
  obtain ⟨v, x, rfl, rfl, t⟩ := AL.one r
  unfold fInt1 at h
  split at h
  · rename_i i e
    cases e
    obtain rfl := t.int
    exact .inl ⟨i, rfl, q F H _ _ (.refl s) (R.int _) h⟩
  · rename_i b e
    cases e
    obtain rfl := t.bl
    exact .inr ⟨b, rfl, q F H _ _ (.refl s) (R.int _) h⟩
  · exact h.elim
/-- isinstance(x, T), T a built-in class -/
def tyN : P → Option String
  | .non => some "NoneType" | .bl _ => some "bool" | .int _ => some "int" | .str _ => some "str" | .lst _ => some "list" | .tup _ => some "tuple" | .dct _ _ => some "dict"
  | _ => none
def isaB (a b : String) : Bool := a == b || (a == "bool" && b == "int")
def tyS : List String := ["bool", "int", "str", "list", "tuple", "dict"]
def fIsi : PFn := fun xs Q => match xs with
  | [x, .ty T] => ∃ t, tyN x = some t ∧ tyS.contains T = true ∧ Q (.bl (isaB t T))
  | _ => False
theorem kit_isa {t T : String} {x : P} (ht : tyN x = some t) (hT : tyS.contains T = true) : PySem.W.kitOne K (.type t) (.type T) = some (isaB t T) := by
  have hT' : T ∈ tyS := by simpa using hT
  have go : ∀ t ∈ ["NoneType", "bool", "int", "str", "list", "tuple", "dict"], ∀ T ∈ tyS, kitB t T = some (isaB t T) := by decide +kernel
  refine kit_ty (go t ?_ T hT')
  cases x <;> cases ht <;> simp
theorem Tp.ty {F H : Hp} (s : Same F H) {v : V} {x : P} {t : String} (h : Tp K F H v x) (ht : tyN x = some t) : TyX K H v (.type t) := by
  rcases h with r | ⟨a, o, rfl, ha, c⟩
  · cases r with
    | non => cases ht; exact .base .non
    | bl => cases ht; exact .base (.bl _)
    | int => cases ht; exact .base (.int _)
    | str => cases ht; exact .base (.str _)
    | tup h r => cases ht; exact .base (.tup (s _ _ h))
    | lst h r => cases ht; exact .base (.lst (s _ _ h))
    | dct h l r =>
      cases ht
      rcases h with h | ⟨o, h⟩
      · exact .base (.dK (s _ _ h))
      · exact .fDict (s _ _ h)
    | _ => cases ht
  · cases x <;> first | (exact c.elim) | (cases ht; done) | skip
    · cases ht; obtain ⟨vs, rfl, _⟩ := c; exact .base (.lst ha)
    · cases ht
      obtain ⟨vs, e, _⟩ := c
      rcases e with e | ⟨ob, e⟩
      · subst e; exact .base (.dK ha)
      · subst e; exact .fDict ha
theorem Tp.tyc {F H : Hp} {v : V} {T : String} (h : Tp K F H v (.ty T)) : v = .ty T := by
  rcases h with r | ⟨_, _, _, _, c⟩
  · cases r; rfl
  · exact c.elim
theorem cs_isi {m m' : Mo} : CallS K .V [m, m'] (rIsi K) fIsi := fun F H vs xs Qp Q s r h q => by
  obtain ⟨v, vs', x, xs', rfl, rfl, t, r'⟩ := AL.cons r
  obtain ⟨v', x', rfl, rfl, t'⟩ := AL.one r'
  unfold fIsi at h
  split at h
  · rename_i y T e
    cases e
    obtain ⟨u, hu, hT, h⟩ := h
    obtain rfl := t'.tyc
    exact ⟨v, _, _, _, _, rfl, .ty T, t.ty s hu, kit_isa hu hT, q F H _ _ (.refl s) (R.bl _) h⟩
  · exact h.elim
def fList : PFn := fun xs Q => match xs with
  | [.lst xs] => Q (.lst xs)
  | [.tup xs] => Q (.lst xs)
  | _ => False
theorem cs_list {m : Mo} : CallS K .O [m] (fun xs H Q => ∃ p ys, xs = [.ref p] ∧ (SqL K H p ys ∨ SqT K H p ys) ∧ ∀ l, H l = none → Q (.ref l) (upd H l (.lst ys))) fList := fun F H vs xs Qp Q s r h q => by
  obtain ⟨v, x, rfl, rfl, t⟩ := AL.one r
  unfold fList at h
  split at h
  · rename_i ys e
    cases e
    obtain ⟨a, ws, rfl, ha, rl⟩ := Tp.lst s t
    exact ⟨a, ws, rfl, .inl (SqL.of ha), fun p np => q F _ _ (.lst ys) (mv_new s np) (.inl ⟨p, _, rfl, np, same_free s np, upd_same, .l rl⟩) h⟩
  · rename_i ys e
    cases e
    obtain ⟨_, a, ws, e, rfl, ha, rl, _⟩ := onTup_of (Q := fun _ => True) s t trivial
    cases e
    exact ⟨a, ws, rfl, .inr (SqT.of (s _ _ ha)), fun p np => q F _ _ (.lst ys) (mv_new s np) (.inl ⟨p, _, rfl, np, same_free s np, upd_same, .l rl⟩) h⟩
  · exact h.elim
def fTupL : PFn := fun xs Q => match xs with
  | [.lst xs] => Q (.tup xs)
  | _ => False
theorem cs_tup {m : Mo} : CallS K .V [m] (fun xs H Q => ∃ p ys, xs = [.ref p] ∧ ((SqL K H p ys ∧ ∀ l, H l = none → Q (.ref l) (upd H l (.tup ys))) ∨ (SqT K H p ys ∧ Q (.ref p) H))) fTupL := fun F H vs xs Qp Q s r h q => by
  obtain ⟨v, x, rfl, rfl, t⟩ := AL.one r
  unfold fTupL at h
  split at h
  · rename_i ys e
    cases e
    obtain ⟨a, ws, rfl, ha, rl⟩ := Tp.lst s t
    refine ⟨a, ws, rfl, .inl ⟨SqL.of ha, fun p np => ?_⟩⟩
    have m := mv_frz (o := .tup ws) s np
    exact q _ _ _ _ m (R.tup upd_same (rl.mono m.e.1)) h
  · exact h.elim
theorem RL.ints {F : Hp} : ∀ {ns : List Int} {vs : List V}, RL K F vs (ns.map P.int) → vs = ns.map V.int
  | [], _, .nil => rfl
  | n :: ns, _, .cons (.int _) r => by rw [List.map_cons, RL.ints r]
theorem RL.of_ints {F : Hp} : ∀ {ns : List Int}, RL K F (ns.map V.int) (ns.map P.int)
  | [] => .nil
  | n :: ns => .cons (.int n) RL.of_ints
theorem RL.strs {F : Hp} : ∀ {ns : List Str} {vs : List V}, RL K F vs (ns.map P.str) → vs = ns.map V.str ∧ ∀ z ∈ ns, SOk z
  | [], _, .nil => ⟨rfl, by simp⟩
  | n :: ns, _, .cons (.str h) r => by
    obtain ⟨e, a⟩ := RL.strs r
    refine ⟨by rw [List.map_cons, e], fun z hz => ?_⟩
    rcases List.mem_cons.mp hz with rfl | hz
    · exact h
    · exact a z hz
theorem RL.of_strs {F : Hp} : ∀ {ns : List Str}, (∀ z ∈ ns, SOk z) → RL K F (ns.map V.str) (ns.map P.str)
  | [], _ => .nil
  | n :: ns, h => .cons (.str (h n List.mem_cons_self)) (RL.of_strs fun z hz => h z (List.mem_cons_of_mem _ hz))
def fSum : PFn := fun xs Q => ∃ ns : List Int, xs = [.lst (ns.map .int)] ∧ Q (.int ns.sum)
theorem cs_sum {m : Mo} : CallS K .V [m] (rSum K) fSum := fun F H vs xs Qp Q s r ⟨ns, e, h⟩ q => by
  obtain ⟨v, x, rfl, rfl, t⟩ := AL.one r
  cases e
  obtain ⟨a, ws, rfl, ha, rl⟩ := Tp.lst s t
  obtain rfl := rl.ints
  exact ⟨a, ns, rfl, SqL.of ha, q F H _ _ (.refl s) (R.int _) h⟩
def fMax : PFn := fun xs Q => ∃ ns : List Int, xs = [.lst (ns.map .int)] ∧ 0 < ns.length ∧ ∀ m, m ∈ ns → (∀ y, y ∈ ns → y ≤ m) → Q (.int m)
def fMin : PFn := fun xs Q => ∃ ns : List Int, xs = [.lst (ns.map .int)] ∧ 0 < ns.length ∧ ∀ m, m ∈ ns → (∀ y, y ∈ ns → m ≤ y) → Q (.int m)
theorem cs_max {m : Mo} : CallS K .V [m] (rMax K) fMax := fun F H vs xs Qp Q s r ⟨ns, e, h0, h⟩ q => by
  obtain ⟨v, x, rfl, rfl, t⟩ := AL.one r
  cases e
  obtain ⟨a, ws, rfl, ha, rl⟩ := Tp.lst s t
  obtain rfl := rl.ints
  exact ⟨a, ns, rfl, SqL.of ha, h0, fun m hm hy => q F H _ _ (.refl s) (R.int _) (h m hm hy)⟩
theorem cs_min {m : Mo} : CallS K .V [m] (rMin K) fMin := fun F H vs xs Qp Q s r ⟨ns, e, h0, h⟩ q => by
  obtain ⟨v, x, rfl, rfl, t⟩ := AL.one r
  cases e
  obtain ⟨a, ws, rfl, ha, rl⟩ := Tp.lst s t
  obtain rfl := rl.ints
  exact ⟨a, ns, rfl, SqL.of ha, h0, fun m hm hy => q F H _ _ (.refl s) (R.int _) (h m hm hy)⟩
def fMM (f : Int → Int → Int) : PFn := fun xs Q => match xs with
  | [.int i, .int j] => Q (.int (f i j))
  | _ => False
theorem cs_mm {m m' : Mo} {f : Int → Int → Int} : CallS K .V [m, m'] (fun xs H Q => ∃ i j, xs = [.int i, .int j] ∧ Q (.int (f i j)) H) (fMM f) := fun F H vs xs Qp Q s r h q => by
  obtain ⟨v, vs', x, xs', rfl, rfl, t, r'⟩ := AL.cons r
  obtain ⟨v', x', rfl, rfl, t'⟩ := AL.one r'
  unfold fMM at h
  split at h
  · rename_i i j e
    cases e
    obtain rfl := t.int
    obtain rfl := t'.int
    exact ⟨i, j, rfl, q F H _ _ (.refl s) (R.int _) h⟩
  · exact h.elim
def fSortI : PFn := fun xs Q => ∃ ns : List Int, xs = [.lst (ns.map .int)] ∧ ∀ ms : List Int, ms.Perm ns → ms.Pairwise (· ≤ ·) → Q (.lst (ms.map .int))
theorem cs_sortI {m : Mo} : CallS K .O [m] (rSortedI K) fSortI := fun F H vs xs Qp Q s r ⟨ns, e, h⟩ q => by
  obtain ⟨v, x, rfl, rfl, t⟩ := AL.one r
  cases e
  obtain ⟨a, ws, rfl, ha, rl⟩ := Tp.lst s t
  obtain rfl := rl.ints
  exact ⟨a, ns, rfl, SqL.of ha, fun ms p h1 h2 np => q F _ _ (.lst (ms.map .int)) (mv_new s np) (.inl ⟨p, _, rfl, np, same_free s np, upd_same, .l .of_ints⟩) (h ms h1 h2)⟩
def fSortS : PFn := fun xs Q => ∃ ns : List Str, xs = [.lst (ns.map .str)] ∧ ns.length < 64 ∧ ∀ ms : List Str, ms.Perm ns → sortedS ms = true → Q (.lst (ms.map .str))
theorem cs_sortS {m : Mo} : CallS K .O [m] (rSortedS K) fSortS := fun F H vs xs Qp Q s r ⟨ns, e, hn, h⟩ q => by
  obtain ⟨v, x, rfl, rfl, t⟩ := AL.one r
  cases e
  obtain ⟨a, ws, rfl, ha, rl⟩ := Tp.lst s t
  obtain ⟨rfl, sok⟩ := rl.strs
  exact ⟨a, ns, rfl, SqL.of ha, hn, fun ms p h1 h2 np => q F _ _ (.lst (ms.map .str)) (mv_new s np) (.inl ⟨p, _, rfl, np, same_free s np, upd_same, .l (.of_strs fun z hz => sok z (h1.mem_iff.mp hz))⟩) (h ms h1 h2)⟩
/-- list(range(a, b)) -/
def SimR (K : PySem.W.Frag) (W : WX) (t : L2.St → Hp → (Int → Int → Hp → Prop) → Prop) (w : PEnv → (Int → Int → Prop) → XP → Prop) : Prop :=
  ∀ F0 H0 σ F H env Qp Xp Q, Good K F0 H0 σ F H env → w env Qp Xp → XOk K W σ F H Xp → (∀ F' H' a b, Mv F H F' H' → Qp a b → Q a b H') → t σ H Q
def wRg1 (a : WE) : PEnv → (Int → Int → Prop) → XP → Prop := fun env Q X => a env (fun x => onInt x fun n => Q 0 n) X
theorem sr_1 {ta : TE} {a : WE} (h : SE K W .C ta a) : SimR K W (tRg1 ta) (wRg1 a) := fun F0 H0 σ F H env Qp Xp Q g hw hx q =>
  h F0 H0 σ F H env _ Xp _ g hw hx fun F1 H1 v x m r h1 => by
    obtain ⟨i, rfl, rfl, h1⟩ := onInt_of r h1
    exact ⟨i, rfl, q F1 H1 0 i m h1⟩
def wLRg (a : PEnv → (Int → Int → Prop) → XP → Prop) : WE := fun env Q X => a env (fun i j => RgOk i j ∧ Q (.lst (rng i (j - i).toNat))) X
theorem rl_rng {F : Hp} {i j : Int} : RL K F (rgV i j) (rng i (j - i).toNat) := by
  unfold rgV rng
  generalize List.range (j - i).toNat = l
  induction l with
  | nil => exact .nil
  | cons n l ih => exact .cons (.int _) ih
theorem se_lrg {t : L2.St → Hp → (Int → Int → Hp → Prop) → Prop} {a : PEnv → (Int → Int → Prop) → XP → Prop} (h : SimR K W t a) : SE K W .O (tLstRg t) (wLRg a) := fun F0 H0 σ F H env Qp Xp Q g hw hx q =>
  h F0 H0 σ F H env _ Xp _ g hw hx fun F1 H1 i j m h1 => ⟨h1.1, fun p np => q F1 _ _ (.lst (rng i (j - i).toNat)) (m.trans (mv_new m.fh np)) (.inl ⟨p, _, rfl, m.s.free np, same_free m.fh np, upd_same, .l rl_rng⟩) h1.2⟩
def tyPB (T : String) : P → Bool
  | .str _ => T == "str"
  | .lst _ => T == "list"
  | _ => false
theorem tyPB_of {F H : Hp} (s : Same F H) {T : String} {v : V} {x : P} (r : Tp K F H v x) (h : tyPB T x = true) : tyV K T v H := by
  cases x <;> first | (cases h; done) | skip
  · obtain ⟨rfl, _⟩ := r.str
    exact eq_of_beq h
  · obtain ⟨a, vs, rfl, ha, _⟩ := Tp.lst s r
    exact .inl ⟨eq_of_beq h, vs, SqL.of ha⟩
abbrev PMt := P → List P → (P → Prop) → Prop
def MtS (K : PySem.W.Frag) (k : Rk) (ms : List Mo) (r : V → List V → Hp → VK → Prop) (f : PMt) : Prop := ∀ F H v vs x xs (Qp : P → Prop) (Q : VK), Same F H → Tp K F H v x → AL K F H ms vs xs → f x xs Qp → (∀ F' H' u z, Mv F H F' H' → rel K k H F' H' u z → Qp z → Q u H') → r v vs H Q
def wBM (T : String) (f : PMt) (o : WE) (a : WA) : WE := fun env Q X => o env (fun x => tyPB T x = true ∧ a env (fun xs => f x xs Q) X) X
theorem se_bm {T : String} {ms : List Mo} {r : V → List V → Hp → VK → Prop} {f : PMt} {to : TE} {t : TA} {o : WE} {a : WA} (hm : MtS K k ms r f) (ho : SE K W .C to o) (ha : SimA K W ms t a) : SE K W k (tBM K T r to t) (wBM T f o a) :=
  fun F0 H0 σ F H env Qp Xp Q g hw hx q => ho F0 H0 σ F H env _ Xp _ g hw hx fun F1 H1 v x m1 r1 h1 =>
    ⟨tyPB_of m1.fh r1 h1.1, ha F0 H0 σ F1 H1 env _ Xp _ (g.mv m1) h1.2 (hx.mv m1) fun F2 H2 vs xs m2 r2 h2 =>
      hm F2 H2 v vs x xs Qp Q m2.fh (Tp.mv m2 r1) r2 h2 fun F3 H3 u z m3 r3 h3 => q F3 H3 u z ((m1.trans m2).trans m3) (rel_back (m1.s.trans m2.s) r3) h3⟩
def fStrip : PMt := fun x xs Q => match x, xs with
  | .str a, [.str b] => Q (.str (Txt.stripChars a b))
  | _, _ => False
end
end Pf

namespace Pf
open PySem PySem.Spec PyProof.Rows L2
section
variable {K : PySem.W.Frag} {W : WX} {k : Rk} {ro : Bool}
theorem se_all {te : BkE} {w : WE} (h : ∀ s Hb C cl fp, SE K W k (te s Hb C cl fp) w) : SE K W k (allE te) w := fun F0 H0 σ F H env Qp Xp Q g hw hx q s Hb C cl fp => h s Hb C cl fp F0 H0 σ F H env Qp Xp Q g hw hx q
theorem st_all {te : BkT} {w : WT} (h : ∀ s Hb C cl fp, ST K W (te s Hb C cl fp) w) : ST K W (allT te) w := fun F0 H0 σ F H env Qp Xp Q g hw hx q s Hb C cl fp => h s Hb C cl fp F0 H0 σ F H env Qp Xp Q g hw hx q
theorem sg_all {ts : List Nat} {te : BkG} {w : P → PEnv → (PEnv → Prop) → Prop} (h : ∀ s Hb C cl fp, SimG K ts (te s Hb C cl fp) w) : SimG K ts (allG te) w := fun F0 H0 σ F H env v x kp kk g r hw q s Hb C cl fp => h s Hb C cl fp F0 H0 σ F H env v x kp kk g r hw q
def wAug (i : Nat) (f : Int → Int → Int) (w : WE) : WS := fun D env => match env[i]? with
  | some (some (.v, .int a)) => w env (fun y => onInt y fun b => D.nx (env.set i (some (.v, .int (f a b))))) (D.ex env)
  | _ => False
theorem ss_aug {i : Nat} {f : Int → Int → Int} {t : TE} {w : WE} (h : SE K W .C t w) : SS K W ro (tAug i t (ipI f)) (wAug i f w) := fun F0 H0 σ F H env Dp D g hw d x => by
  unfold wAug at hw
  split at hw
  · rename_i a e
    obtain ⟨v, hs, s⟩ := g.slot i _ _ e
    cases s
    refine ⟨_, hs, ?_⟩
    refine h F0 H0 σ F H env _ _ _ g hw (x.x g) fun F1 H1 v y m r q => ?_
    obtain ⟨b, rfl, rfl, q⟩ := onInt_of r q
    exact ⟨a, b, rfl, rfl, d.1 _ F1 H1 _ ((g.mv m).setV (.int _)) q⟩
  · exact hw.elim
def startP (N : List Str) (ms : List Mo) (xs : List P) : PEnv := (List.zipWith (fun m x => some (m, x)) ms xs) ++ List.replicate (N.length - xs.length) none
theorem AL.lens {F H : Hp} : ∀ {ms : List Mo} {vs : List V} {xs : List P}, AL K F H ms vs xs → ms.length = xs.length ∧ vs.length = xs.length
  | [], vs, xs, h => by obtain ⟨rfl, rfl⟩ := AL.nil h; exact ⟨rfl, rfl⟩
  | m :: ms, vs, xs, h => by
    obtain ⟨v, vs', x, xs', rfl, rfl, _, r⟩ := AL.cons h
    obtain ⟨a, b⟩ := AL.lens r
    exact ⟨by simp [a], by simp [b]⟩
theorem tp_in {F H : Hp} (s : Same F H) {v : V} {x : P} (h : Tp K F H v x) : LsIn H v x := fun xs a e1 e2 => by
  subst e1 e2
  obtain ⟨b, vs, e, hb, _⟩ := Tp.lst s h
  cases e
  rw [hb]
  exact fun z => by cases z
theorem AL.slot {F H : Hp} (sm : Same F H) : ∀ {ms : List Mo} {vs : List V} {xs : List P} {i : Nat} {m : Mo} {x : P}, AL K F H ms vs xs → (List.zipWith (fun m x => some (m, x)) ms xs)[i]? = some (some (m, x)) → m ≠ .o ∧ ∃ v, vs[i]? = some v ∧ Slot K F H H m v x
  | [], vs, xs, i, m, x, h, e => by simp at e
  | .v :: ms, v :: vs, y :: xs, 0, m, x, h, e => by
    have e : some (Mo.v, y) = some (m, x) := Option.some.inj e
    cases e
    exact ⟨by simp, v, rfl, h.1⟩
  | .b :: ms, v :: vs, y :: xs, 0, m, x, h, e => by
    have e : some (Mo.b, y) = some (m, x) := Option.some.inj e
    cases e
    exact ⟨by simp, v, rfl, h.1, tp_in sm h.1⟩
  | .v :: ms, v :: vs, y :: xs, i + 1, m, x, h, e => AL.slot sm (ms := ms) (i := i) h.2 e
  | .b :: ms, v :: vs, y :: xs, i + 1, m, x, h, e => AL.slot sm (ms := ms) (i := i) h.2 e
  | .o :: ms, vs, xs, i, m, x, h, e => by unfold AL at h; exact h.elim
  | .v :: _, [], _, _, _, _, h, _ => h.elim
  | .b :: _, [], _, _, _, _, h, _ => h.elim
  | .v :: _, _ :: _, [], _, _, _, h, _ => h.elim
  | .b :: _, _ :: _, [], _, _, _, h, _ => h.elim
theorem good_start {F H : Hp} {N : List Str} {ms : List Mo} {vs : List V} {xs : List P} (s : Same F H) (h : AL K F H ms vs xs) : Good K F H (L2.start N vs) F H (startP N ms xs) := by
  obtain ⟨l1, l2⟩ := h.lens
  have key : ∀ (i : Nat) (m : Mo) (x : P), (startP N ms xs)[i]? = some (some (m, x)) → m ≠ .o ∧ ∃ v, (L2.start N vs)[i]? = some (some v) ∧ Slot K F H H m v x := fun i m x e => by
    unfold startP at e
    by_cases hi : i < xs.length
    · rw [List.getElem?_append_left (by simp [l1]; exact hi)] at e
      obtain ⟨a, v, ev, sl⟩ := h.slot s e
      refine ⟨a, v, ?_, sl⟩
      unfold L2.start
      rw [List.getElem?_append_left (by simp [l2]; exact hi), List.getElem?_map, ev]
      rfl
    · rw [List.getElem?_append_right (by simp [l1]; omega)] at e
      rw [List.getElem?_replicate] at e
      split at e <;> cases e
  refine ⟨s, Same.refl _, .refl, ?_, fun i m x e => (key i m x e).2, fun i x a e _ => absurd rfl (key i _ x e).1, fun i j x y a _ e _ _ _ => absurd rfl (key i _ x e).1⟩
  unfold startP L2.start
  simp [l1, l2]
/-- what is wanted behind a def's body -/
def endsP (ro : Bool) (Q : P → Prop) (X : XP) : PEnds := ⟨fun _ => Q .non, Q, fun _ => False, fun _ => False, fun _ => X⟩
section
variable {Pg : Program} {w : World} {mg : Str → Option Value} {base : Heap} {x qual : Str} {st : Stmt} {f : Addr} {fd : FuncData} {N ps : List Str} {kk : Nat} {ms : List Mo} {p : PSp} {b : WS}
theorem ends_ok {F H : Hp} {Q : VK} {Qp : P → Prop} {Xp : XP} (q : ∀ F' H' v x, Mv F H F' H' → Res K ro H F' H' v x → Qp x → Q v H') : DOk K ro F H (endsP ro Qp Xp) { nx := fun _ H' => Q .non H', rt := Q } := by
  refine ⟨fun σ F' H' env g h => ?_, fun F' H' v x m r h => q F' H' v x m r h, fun _ _ _ _ _ h => h.elim, fun _ _ _ _ _ h => h.elim⟩
  refine q F' H' .non .non g.m ?_ h
  cases ro with
  | true => exact .inr ⟨rfl, R.non⟩
  | false => exact R.non
theorem fn_sim (F : Fun K x qual st f fd) (S : FnScope N ps (defScope st)) (hm : ms.length = ps.length)
    (hbody : ∀ (cdv : Value) (A : Around) (outer : List Env) (s : Shared) (H : Hp) (E : XK), Room kk (A.deeper (envOfC qual (defScope st) s.heap.objs.size f cdv)) → ∃ t, PSs (cxOf CX0 Pg w K mg base N qual (defScope st) f cdv A outer s H E).nox (defBody st) t ∧ SS K noW ro t b)
    (hX : ∀ xs Q X, p xs Q X → p xs Q noX) (hp : ∀ xs Q, p xs Q noX → b (endsP ro Q noX) (startP N ms xs)) : FnOk Pg w K mg base CX0 (kk + 1) f fd ps (spOf K ms ro p) := by
  refine F.ok S (fun vs H Q E ⟨F1, xs, Qp, Xp, s, al, _⟩ => ?_) fun cdv A outer s H vs Q E hr ⟨F1, xs, Qp, Xp, sm, al, hq, q, _⟩ => ?_
  · obtain ⟨l1, l2⟩ := al.lens
    rw [l2, ← l1, hm]
  · obtain ⟨t, ht, sim⟩ := hbody cdv A outer s H E hr
    exact ⟨t, ht, sim F1 H _ F1 H _ _ _ (good_start sm al) (hp xs Qp (hX _ _ _ hq)) (ends_ok q) fun _ _ _ _ _ _ _ _ _ _ z => z⟩
/-- the law itself -/
def spLaw (K : PySem.W.Frag) : Sp := fun vs H Q _ => ∃ (a : Addr) (ns : List Int), vs = [.ref a] ∧ SqL K H a (ns.map V.int) ∧ ns.length ≤ 63 ∧ ∀ H', Q (.bl true) H'
def pLaw : PSp := fun xs Q _ => ∃ ns : List Int, xs = [.scr ns] ∧ ns.length ≤ 63 ∧ Q (.bl true)
theorem law_ok {CX : CXT} (F : FnOk Pg w K mg base CX kk f fd ps (spOf K [.v] false pLaw)) : FnOk Pg w K mg base CX kk f fd ps (spLaw K) :=
  F.imp fun vs H Q E ⟨a, ns, e, hs, hn, q⟩ => ⟨H, [.scr ns], fun x => x = .bl true, noX, Same.refl _, e ▸ ⟨.scr hs, trivial⟩, ⟨ns, rfl, hn, rfl⟩, fun F' H' v x m r h => by
    subst h
    cases r
    exact q H', fun _ _ _ _ _ _ _ _ z => z.elim⟩
end
end
end Pf

namespace Pf
open PySem PySem.Spec PyProof.Rows L2
theorem isa_eq {x : P} {T t : String} {r : Bool} {Q : P → Prop} (h : tyN x = some t) (hT : tyS.contains T = true) (e : isaB t T = r) : (fIsi [x, .ty T] Q) = (Q (.bl r)) :=
  propext ⟨fun ⟨_, e', _, q⟩ => by rw [h] at e'; cases e'; exact e ▸ q, fun q => ⟨t, h, hT, e ▸ q⟩⟩
theorem ap_seq {a b : WS} {D : PEnds} {env : PEnv} : (wSeq a b D env) = (a { D with nx := b D } env) := rfl
theorem ap_nx {D : PEnds} {env : PEnv} : (wNx D env) = (D.nx env) := rfl
theorem ap_av {i : Nat} {w : WE} {D : PEnds} {env : PEnv} : (wAV i w D env) = (w env (fun x => D.nx (env.set i (some (.v, x)))) (D.ex env)) := rfl
theorem ap_ao {i : Nat} {w : WE} {D : PEnds} {env : PEnv} : (wAO i w D env) = (w env (fun x => D.nx (env.set i (some (.o, x)))) (D.ex env)) := rfl
theorem ap_ret {w : WE} {D : PEnds} {env : PEnv} : (wRet w D env) = (w env D.rt (D.ex env)) := rfl
theorem ap_brk {D : PEnds} {env : PEnv} : (wBrk D env) = (D.bk env) := rfl
theorem ap_do {w : WE} {D : PEnds} {env : PEnv} : (wDo w D env) = (w env (fun _ => D.nx env) (D.ex env)) := rfl
theorem ap_ifs {c : WT} {a b : WS} {D : PEnds} {env : PEnv} : (wIfS c a b D env) = (c env (fun d => if d = true then a D env else b D env) (D.ex env)) := rfl
theorem ap_app {i : Nat} {w : WE} {D : PEnds} {env : PEnv} : (wApp i w D env) = (ownL env i fun xs => w env (fun x => xs.length < sizeLine ∧ D.nx (env.set i (some (.o, .lst (xs ++ [x]))))) (D.ex env)) := rfl
theorem ap_ext {i : Nat} {w : WE} {D : PEnds} {env : PEnv} : (wExt i w D env) = (ownL env i fun xs => w env (fun x => onLst x fun ys => xs.length + ys.length ≤ sizeLine ∧ D.nx (env.set i (some (.o, .lst (xs ++ ys))))) (D.ex env)) := rfl
theorem ap_set {i : Nat} {w wi : WE} {D : PEnds} {env : PEnv} : (wSet i w wi D env) = (ownL env i fun xs => w env (fun x => wi env (fun y => onInt y fun k => ∃ j, ixN xs.length k = some j ∧ D.nx (env.set i (some (.o, .lst (xs.set j x))))) (D.ex env)) (D.ex env)) := rfl
theorem ap_dput {i : Nat} {y w : WE} {D : PEnds} {env : PEnv} : (wDPut i y w D env) = (ownD env i fun ks xs => w env (fun x => y env (fun z => onKey z fun k => ks.length < sizeLine ∧ D.nx (env.set i (some (.o, .dct (putP ks xs k x).1 (putP ks xs k x).2)))) (D.ex env)) (D.ex env)) := rfl
theorem ap_v {i : Nat} {env : PEnv} {Q : P → Prop} {X : XP} : (wV i env Q X) = (match env[i]? with | some (some (.v, x)) => Q x | _ => False) := rfl
theorem ap_c {i : Nat} {env : PEnv} {Q : P → Prop} {X : XP} : (wC i env Q X) = (match env[i]? with | some (some (_, x)) => Q x | _ => False) := rfl
theorem ap_k {x : P} {env : PEnv} {Q : P → Prop} {X : XP} : (wK x env Q X) = (Q x) := rfl
theorem ap_op {f : PF2} {a b : WE} {env : PEnv} {Q : P → Prop} {X : XP} : (wOp f a b env Q X) = (a env (fun x => b env (fun y => f x y Q) X) X) := rfl
theorem ap_un {f : PF1} {a : WE} {env : PEnv} {Q : P → Prop} {X : XP} : (wUn f a env Q X) = (a env (fun x => f x Q) X) := rfl
theorem ap_t {a : WE} {env : PEnv} {Q : Bool → Prop} {X : XP} : (wT a env Q X) = (a env (fun x => onB x Q) X) := rfl
theorem ap_tr {a : WE} {env : PEnv} {Q : Bool → Prop} {X : XP} : (wTr a env Q X) = (a env (fun x => onT x Q) X) := rfl
theorem ap_andV {a b : WE} {env : PEnv} {Q : P → Prop} {X : XP} : (wAndV a b env Q X) = (a env (fun x => onB x fun c => if c = true then b env Q X else Q (.bl false)) X) := rfl
theorem ap_and {a b : WT} {env : PEnv} {Q : Bool → Prop} {X : XP} : (wAnd a b env Q X) = (a env (fun c => if c = true then b env Q X else Q false) X) := rfl
theorem ap_or {a b : WT} {env : PEnv} {Q : Bool → Prop} {X : XP} : (wOr a b env Q X) = (a env (fun c => if c = true then Q true else b env Q X) X) := rfl
theorem ap_not {a : WT} {env : PEnv} {Q : Bool → Prop} {X : XP} : (wNot a env Q X) = (a env (fun c => Q (!c)) X) := rfl
theorem ap_chain {f f' : PF2} {a b c : WE} {env : PEnv} {Q : P → Prop} {X : XP} : (wChain f f' a b c env Q X) = (a env (fun x => b env (fun y => f x y fun z => onB z fun k => if k = true then c env (fun u => f' y u Q) X else Q (.bl false)) X) X) := rfl
theorem ap_nil {env : PEnv} {Q : List P → Prop} {X : XP} : (wNil env Q X) = (Q []) := rfl
theorem ap_cons {a : WE} {r : WA} {env : PEnv} {Q : List P → Prop} {X : XP} : (wCons a r env Q X) = (a env (fun x => r env (fun xs => Q (x :: xs)) X) X) := rfl
theorem ap_tup {a : WA} {env : PEnv} {Q : P → Prop} {X : XP} : (wTup a env Q X) = (a env (fun xs => xs.length ≤ sizeLine ∧ Q (.tup xs)) X) := rfl
theorem ap_lst {a : WA} {env : PEnv} {Q : P → Prop} {X : XP} : (wLst a env Q X) = (a env (fun xs => xs.length ≤ sizeLine ∧ Q (.lst xs)) X) := rfl
theorem ap_cb {f : PFn} {a : WA} {env : PEnv} {Q : P → Prop} {X : XP} : (wCB f a env Q X) = (a env (fun xs => f xs Q) X) := rfl
theorem ap_call0 {p : PSp} {a : WA} {env : PEnv} {Q : P → Prop} {X : XP} : (wCall0 p a env Q X) = (a env (fun xs => p xs Q noX) X) := rfl
theorem ap_callX {p : PSp} {a : WA} {env : PEnv} {Q : P → Prop} {X : XP} : (wCallX p a env Q X) = (a env (fun xs => p xs Q X) X) := rfl
theorem ap_dget {d y : WE} {env : PEnv} {Q : P → Prop} {X : XP} : (wDGet d y env Q X) = (d env (fun x => y env (fun z => onDct x fun ks xs => onKey z fun k => ∃ u, valP ks xs k = some u ∧ Q u) X) X) := rfl
theorem ap_dnew {env : PEnv} {Q : P → Prop} {X : XP} : (wDNew env Q X) = (Q (.dct [] [])) := rfl
theorem ap_lrg {a : PEnv → (Int → Int → Prop) → XP → Prop} {env : PEnv} {Q : P → Prop} {X : XP} : (wLRg a env Q X) = (a env (fun i j => RgOk i j ∧ Q (.lst (rng i (j - i).toNat))) X) := rfl
theorem ap_rg1 {a : WE} {env : PEnv} {Q : Int → Int → Prop} {X : XP} : (wRg1 a env Q X) = (a env (fun x => onInt x fun n => Q 0 n) X) := rfl
theorem ap_ono {env : PEnv} {Q : Option Int → Prop} {X : XP} : (wONo env Q X) = (Q none) := rfl
theorem ap_oso {a : WE} {env : PEnv} {Q : Option Int → Prop} {X : XP} : (wOSo a env Q X) = (a env (fun x => onInt x fun i => Q (some i)) X) := rfl
theorem ap_sl {f : PSl} {a : WE} {l h : WO} {env : PEnv} {Q : P → Prop} {X : XP} : (wSl f a l h env Q X) = (a env (fun x => l env (fun lo => h env (fun hi => f x lo hi Q) X) X) X) := rfl
theorem ap_bm {T : String} {f : PMt} {o : WE} {a : WA} {env : PEnv} {Q : P → Prop} {X : XP} : (wBM T f o a env Q X) = (o env (fun x => tyPB T x = true ∧ a env (fun xs => f x xs Q) X) X) := rfl
theorem ap_fI {f : Int → Int → Int} {x y : P} {Q : P → Prop} : (fI f x y Q) = (onInt x fun i => onInt y fun j => Q (.int (f i j))) := rfl
theorem ap_fB {p : Int → Int → Bool} {x y : P} {Q : P → Prop} : (fB p x y Q) = (onInt x fun i => onInt y fun j => Q (.bl (p i j))) := rfl
theorem ap_fIc {C : Int → Int → Prop} {f : Int → Int → Int} {x y : P} {Q : P → Prop} : (fIc C f x y Q) = (onInt x fun i => onInt y fun j => C i j ∧ Q (.int (f i j))) := rfl
theorem ap_fAddS {x y : P} {Q : P → Prop} : (fAddS x y Q) = (onStr x fun a => onStr y fun b => a.length + b.length ≤ sizeLine ∧ Q (.str (a ++ b))) := rfl
theorem ap_fIxL {x y : P} {Q : P → Prop} : (fIxL x y Q) = (onLst x fun xs => onInt y fun i => ∃ z, atI xs i = some z ∧ Q z) := rfl
theorem ap_fIxT {x y : P} {Q : P → Prop} : (fIxT x y Q) = (onTup x fun xs => onInt y fun i => ∃ z, atI xs i = some z ∧ Q z) := rfl
theorem ap_fIxS {x y : P} {Q : P → Prop} : (fIxS x y Q) = (onStr x fun z => onInt y fun i => ∃ c, atI z.cps.toList i = some c ∧ Q (.str ⟨#[c]⟩)) := rfl
theorem ap_fIxScr {xs : List Int} {y : P} {Q : P → Prop} : (fIxScr (.scr xs) y Q) = (onInt y fun i => ∃ n, atI xs i = some n ∧ Q (.int n)) := rfl
theorem ap_fCat {x y : P} {Q : P → Prop} : (fCat x y Q) = (onLst x fun xs => onLst y fun ys => xs.length + ys.length ≤ sizeLine ∧ Q (.lst (xs ++ ys))) := rfl
theorem ap_fRep {x y : P} {Q : P → Prop} : (fRep x y Q) = (onLst x fun xs => onInt y fun k => -(2 ^ 63) ≤ k ∧ k < 2 ^ 63 ∧ xs.length * k.toNat ≤ sizeLine ∧ Q (.lst (List.replicate k.toNat xs).flatten)) := rfl
theorem ap_fEqD {x y : P} {Q : P → Prop} : (fEqD x y Q) = (shP x = true ∧ shP y = true ∧ Q (.bl (eqP x y))) := rfl
theorem ap_fIsN {x y : P} {Q : P → Prop} : (fIsN x y Q) = (isNon y = true ∧ Q (.bl (isNon x))) := rfl
theorem ap_fSlL {x : P} {lo hi : Option Int} {Q : P → Prop} : (fSlL x lo hi Q) = (onLst x fun xs => Q (.lst (cutP xs lo hi))) := rfl
theorem ap_fSlS {x : P} {lo hi : Option Int} {Q : P → Prop} : (fSlS x lo hi Q) = (onStr x fun z => Q (.str (cutS z lo hi))) := rfl
theorem ap_eq_i {a b : Int} {Q : P → Prop} : (fEq (.int a) (.int b) Q) = (Q (.bl (decide (a = b)))) := propext ⟨fun ⟨_, e, h⟩ => by cases e; exact h, fun h => ⟨_, rfl, h⟩⟩
theorem ap_eq_s {a b : Str} {Q : P → Prop} : (fEq (.str a) (.str b) Q) = (Q (.bl (decide (a = b)))) := propext ⟨fun ⟨_, e, h⟩ => by cases e; exact h, fun h => ⟨_, rfl, h⟩⟩
theorem ap_eq_b {a b : Bool} {Q : P → Prop} : (fEq (.bl a) (.bl b) Q) = (Q (.bl (decide (a = b)))) := propext ⟨fun ⟨_, e, h⟩ => by cases e; exact h, fun h => ⟨_, rfl, h⟩⟩
theorem ap_onInt {n : Int} {Q : Int → Prop} : (onInt (.int n) Q) = (Q n) := rfl
theorem ap_onB {n : Bool} {Q : Bool → Prop} : (onB (.bl n) Q) = (Q n) := rfl
theorem ap_onLst {xs : List P} {Q : List P → Prop} : (onLst (.lst xs) Q) = (Q xs) := rfl
theorem ap_onTup {xs : List P} {Q : List P → Prop} : (onTup (.tup xs) Q) = (Q xs) := rfl
theorem ap_onStr {n : Str} {Q : Str → Prop} : (onStr (.str n) Q) = (Q n) := rfl
theorem ap_onDct {ks : List Key} {xs : List P} {Q : List Key → List P → Prop} : (onDct (.dct ks xs) Q) = (Q ks xs) := rfl
theorem ap_onKeyI {n : Int} {Q : Key → Prop} : (onKey (.int n) Q) = (Q (Sum.inl n)) := rfl
theorem ap_onKeyS {n : Str} {Q : Key → Prop} : (onKey (.str n) Q) = (Q (Sum.inr n)) := rfl
theorem ap_fInL {n : Bool} {x : P} {xs : List P} {Q : P → Prop} : (fIn n x (.lst xs) Q) = (flatP x = true ∧ xs.all flatP = true ∧ Q (.bl (if n then !inP x xs else inP x xs))) := rfl
theorem ap_fInT {n : Bool} {x : P} {xs : List P} {Q : P → Prop} : (fIn n x (.tup xs) Q) = (flatP x = true ∧ xs.all flatP = true ∧ Q (.bl (if n then !inP x xs else inP x xs))) := rfl
theorem ap_lenL {xs : List P} {Q : P → Prop} : (fLen [.lst xs] Q) = (Q (.int xs.length)) := rfl
theorem ap_lenT {xs : List P} {Q : P → Prop} : (fLen [.tup xs] Q) = (Q (.int xs.length)) := rfl
theorem ap_lenC {xs : List Int} {Q : P → Prop} : (fLen [.scr xs] Q) = (Q (.int xs.length)) := rfl
theorem ap_lenS {z : Str} {Q : P → Prop} : (fLenS [.str z] Q) = (Q (.int z.length)) := rfl
theorem ap_intI {n : Int} {Q : P → Prop} : (fInt1 [.int n] Q) = (Q (.int n)) := rfl
theorem ap_intB {n : Bool} {Q : P → Prop} : (fInt1 [.bl n] Q) = (Q (.int (if n then 1 else 0))) := rfl
theorem ap_listL {xs : List P} {Q : P → Prop} : (fList [.lst xs] Q) = (Q (.lst xs)) := rfl
theorem ap_listT {xs : List P} {Q : P → Prop} : (fList [.tup xs] Q) = (Q (.lst xs)) := rfl
theorem ap_tupL {xs : List P} {Q : P → Prop} : (fTupL [.lst xs] Q) = (Q (.tup xs)) := rfl
theorem ap_mm {f : Int → Int → Int} {i j : Int} {Q : P → Prop} : (fMM f [.int i, .int j] Q) = (Q (.int (f i j))) := rfl
theorem ap_strip {a b : Str} {Q : P → Prop} : (fStrip (.str a) [.str b] Q) = (Q (.str (Txt.stripChars a b))) := rfl
theorem ap_wgN {i : Nat} {x : P} {env : PEnv} {k : PEnv → Prop} : (wgN i x env k) = (k (env.set i (some (.v, x)))) := rfl
theorem ap_wgT {g : List P → PEnv → (PEnv → Prop) → Prop} {xs : List P} {env : PEnv} {k : PEnv → Prop} : (wgT g (.tup xs) env k) = (g xs env k) := rfl
theorem ap_wgLen {n : Nat} {g : List P → PEnv → (PEnv → Prop) → Prop} {xs : List P} {env : PEnv} {k : PEnv → Prop} : (wgLen n g xs env k) = (xs.length = n ∧ g xs env k) := rfl
theorem ap_wgNil {env : PEnv} {k : PEnv → Prop} : (wgNil [] env k) = (k env) := rfl
theorem ap_wgCons {g : P → PEnv → (PEnv → Prop) → Prop} {gs : List P → PEnv → (PEnv → Prop) → Prop} {x : P} {xs : List P} {env : PEnv} {k : PEnv → Prop} : (wgCons g gs (x :: xs) env k) = (g x env fun e => gs xs e k) := rfl
theorem ap_wIL {a : WE} {env : PEnv} {Q : List P → Prop} {X : XP} : (wIL a env Q X) = (a env (fun x => onLst x Q) X) := rfl
theorem ap_wILv {i : Nat} {env : PEnv} {Q : List P → Prop} {X : XP} : (wILv i env Q X) = (match env[i]? with | some (some (.v, .lst xs)) => Q xs | some (some (.b, .lst xs)) => Q xs | _ => False) := rfl
theorem ap_wIR1 {a : WA} {env : PEnv} {Q : List P → Prop} {X : XP} : (wIR1 a env Q X) = (a env (fun xs => match xs with | [.int j] => -(2 ^ 62) ≤ j ∧ j < 2 ^ 62 ∧ Q (rng 0 j.toNat) | _ => False) X) := rfl
theorem ap_wIR2 {a : WA} {env : PEnv} {Q : List P → Prop} {X : XP} : (wIR2 a env Q X) = (a env (fun xs => match xs with | [.int i, .int j] => (-(2 ^ 62) ≤ i ∧ i < 2 ^ 62 ∧ -(2 ^ 62) ≤ j ∧ j < 2 ^ 62) ∧ Q (rng i (j - i).toNat) | _ => False) X) := rfl
theorem ap_wIE {a : WA} {env : PEnv} {Q : List P → Prop} {X : XP} : (wIE a env Q X) = (a env (fun xs => match xs with | [.lst xs] => Q (enumP xs) | _ => False) X) := rfl
theorem ap_isa_NoneType_bool {Q : P → Prop} : (fIsi [.non, .ty "bool"] Q) = (Q (.bl false)) := isa_eq rfl (by decide) (by decide)
theorem ap_isa_NoneType_int {Q : P → Prop} : (fIsi [.non, .ty "int"] Q) = (Q (.bl false)) := isa_eq rfl (by decide) (by decide)
theorem ap_isa_NoneType_str {Q : P → Prop} : (fIsi [.non, .ty "str"] Q) = (Q (.bl false)) := isa_eq rfl (by decide) (by decide)
theorem ap_isa_NoneType_list {Q : P → Prop} : (fIsi [.non, .ty "list"] Q) = (Q (.bl false)) := isa_eq rfl (by decide) (by decide)
theorem ap_isa_NoneType_tuple {Q : P → Prop} : (fIsi [.non, .ty "tuple"] Q) = (Q (.bl false)) := isa_eq rfl (by decide) (by decide)
theorem ap_isa_NoneType_dict {Q : P → Prop} : (fIsi [.non, .ty "dict"] Q) = (Q (.bl false)) := isa_eq rfl (by decide) (by decide)
theorem ap_isa_bool_bool {b : Bool} {Q : P → Prop} : (fIsi [(.bl b), .ty "bool"] Q) = (Q (.bl true)) := isa_eq rfl (by decide) (by decide)
theorem ap_isa_bool_int {b : Bool} {Q : P → Prop} : (fIsi [(.bl b), .ty "int"] Q) = (Q (.bl true)) := isa_eq rfl (by decide) (by decide)
theorem ap_isa_bool_str {b : Bool} {Q : P → Prop} : (fIsi [(.bl b), .ty "str"] Q) = (Q (.bl false)) := isa_eq rfl (by decide) (by decide)
theorem ap_isa_bool_list {b : Bool} {Q : P → Prop} : (fIsi [(.bl b), .ty "list"] Q) = (Q (.bl false)) := isa_eq rfl (by decide) (by decide)
theorem ap_isa_bool_tuple {b : Bool} {Q : P → Prop} : (fIsi [(.bl b), .ty "tuple"] Q) = (Q (.bl false)) := isa_eq rfl (by decide) (by decide)
theorem ap_isa_bool_dict {b : Bool} {Q : P → Prop} : (fIsi [(.bl b), .ty "dict"] Q) = (Q (.bl false)) := isa_eq rfl (by decide) (by decide)
theorem ap_isa_int_bool {n : Int} {Q : P → Prop} : (fIsi [(.int n), .ty "bool"] Q) = (Q (.bl false)) := isa_eq rfl (by decide) (by decide)
theorem ap_isa_int_int {n : Int} {Q : P → Prop} : (fIsi [(.int n), .ty "int"] Q) = (Q (.bl true)) := isa_eq rfl (by decide) (by decide)
theorem ap_isa_int_str {n : Int} {Q : P → Prop} : (fIsi [(.int n), .ty "str"] Q) = (Q (.bl false)) := isa_eq rfl (by decide) (by decide)
theorem ap_isa_int_list {n : Int} {Q : P → Prop} : (fIsi [(.int n), .ty "list"] Q) = (Q (.bl false)) := isa_eq rfl (by decide) (by decide)
theorem ap_isa_int_tuple {n : Int} {Q : P → Prop} : (fIsi [(.int n), .ty "tuple"] Q) = (Q (.bl false)) := isa_eq rfl (by decide) (by decide)
theorem ap_isa_int_dict {n : Int} {Q : P → Prop} : (fIsi [(.int n), .ty "dict"] Q) = (Q (.bl false)) := isa_eq rfl (by decide) (by decide)
theorem ap_isa_str_bool {z : Str} {Q : P → Prop} : (fIsi [(.str z), .ty "bool"] Q) = (Q (.bl false)) := isa_eq rfl (by decide) (by decide)
theorem ap_isa_str_int {z : Str} {Q : P → Prop} : (fIsi [(.str z), .ty "int"] Q) = (Q (.bl false)) := isa_eq rfl (by decide) (by decide)
theorem ap_isa_str_str {z : Str} {Q : P → Prop} : (fIsi [(.str z), .ty "str"] Q) = (Q (.bl true)) := isa_eq rfl (by decide) (by decide)
theorem ap_isa_str_list {z : Str} {Q : P → Prop} : (fIsi [(.str z), .ty "list"] Q) = (Q (.bl false)) := isa_eq rfl (by decide) (by decide)
theorem ap_isa_str_tuple {z : Str} {Q : P → Prop} : (fIsi [(.str z), .ty "tuple"] Q) = (Q (.bl false)) := isa_eq rfl (by decide) (by decide)
theorem ap_isa_str_dict {z : Str} {Q : P → Prop} : (fIsi [(.str z), .ty "dict"] Q) = (Q (.bl false)) := isa_eq rfl (by decide) (by decide)
theorem ap_isa_list_bool {xs : List P} {Q : P → Prop} : (fIsi [(.lst xs), .ty "bool"] Q) = (Q (.bl false)) := isa_eq rfl (by decide) (by decide)
theorem ap_isa_list_int {xs : List P} {Q : P → Prop} : (fIsi [(.lst xs), .ty "int"] Q) = (Q (.bl false)) := isa_eq rfl (by decide) (by decide)
theorem ap_isa_list_str {xs : List P} {Q : P → Prop} : (fIsi [(.lst xs), .ty "str"] Q) = (Q (.bl false)) := isa_eq rfl (by decide) (by decide)
theorem ap_isa_list_list {xs : List P} {Q : P → Prop} : (fIsi [(.lst xs), .ty "list"] Q) = (Q (.bl true)) := isa_eq rfl (by decide) (by decide)
theorem ap_isa_list_tuple {xs : List P} {Q : P → Prop} : (fIsi [(.lst xs), .ty "tuple"] Q) = (Q (.bl false)) := isa_eq rfl (by decide) (by decide)
theorem ap_isa_list_dict {xs : List P} {Q : P → Prop} : (fIsi [(.lst xs), .ty "dict"] Q) = (Q (.bl false)) := isa_eq rfl (by decide) (by decide)
theorem ap_isa_tuple_bool {xs : List P} {Q : P → Prop} : (fIsi [(.tup xs), .ty "bool"] Q) = (Q (.bl false)) := isa_eq rfl (by decide) (by decide)
theorem ap_isa_tuple_int {xs : List P} {Q : P → Prop} : (fIsi [(.tup xs), .ty "int"] Q) = (Q (.bl false)) := isa_eq rfl (by decide) (by decide)
theorem ap_isa_tuple_str {xs : List P} {Q : P → Prop} : (fIsi [(.tup xs), .ty "str"] Q) = (Q (.bl false)) := isa_eq rfl (by decide) (by decide)
theorem ap_isa_tuple_list {xs : List P} {Q : P → Prop} : (fIsi [(.tup xs), .ty "list"] Q) = (Q (.bl false)) := isa_eq rfl (by decide) (by decide)
theorem ap_isa_tuple_tuple {xs : List P} {Q : P → Prop} : (fIsi [(.tup xs), .ty "tuple"] Q) = (Q (.bl true)) := isa_eq rfl (by decide) (by decide)
theorem ap_isa_tuple_dict {xs : List P} {Q : P → Prop} : (fIsi [(.tup xs), .ty "dict"] Q) = (Q (.bl false)) := isa_eq rfl (by decide) (by decide)
theorem ap_isa_dict_bool {ks : List Key} {xs : List P} {Q : P → Prop} : (fIsi [(.dct ks xs), .ty "bool"] Q) = (Q (.bl false)) := isa_eq rfl (by decide) (by decide)
theorem ap_isa_dict_int {ks : List Key} {xs : List P} {Q : P → Prop} : (fIsi [(.dct ks xs), .ty "int"] Q) = (Q (.bl false)) := isa_eq rfl (by decide) (by decide)
theorem ap_isa_dict_str {ks : List Key} {xs : List P} {Q : P → Prop} : (fIsi [(.dct ks xs), .ty "str"] Q) = (Q (.bl false)) := isa_eq rfl (by decide) (by decide)
theorem ap_isa_dict_list {ks : List Key} {xs : List P} {Q : P → Prop} : (fIsi [(.dct ks xs), .ty "list"] Q) = (Q (.bl false)) := isa_eq rfl (by decide) (by decide)
theorem ap_isa_dict_tuple {ks : List Key} {xs : List P} {Q : P → Prop} : (fIsi [(.dct ks xs), .ty "tuple"] Q) = (Q (.bl false)) := isa_eq rfl (by decide) (by decide)
theorem ap_isa_dict_dict {ks : List Key} {xs : List P} {Q : P → Prop} : (fIsi [(.dct ks xs), .ty "dict"] Q) = (Q (.bl true)) := isa_eq rfl (by decide) (by decide)
theorem ap_isNon_NoneType : isNon .non = true := rfl
theorem ap_tyN_NoneType : (tyN .non).isSome = true := rfl
theorem ap_isNon_bool {b : Bool} : isNon (.bl b) = false := rfl
theorem ap_tyN_bool {b : Bool} : (tyN (.bl b)).isSome = true := rfl
theorem ap_isNon_int {n : Int} : isNon (.int n) = false := rfl
theorem ap_tyN_int {n : Int} : (tyN (.int n)).isSome = true := rfl
theorem ap_isNon_str {z : Str} : isNon (.str z) = false := rfl
theorem ap_tyN_str {z : Str} : (tyN (.str z)).isSome = true := rfl
theorem ap_isNon_list {xs : List P} : isNon (.lst xs) = false := rfl
theorem ap_tyN_list {xs : List P} : (tyN (.lst xs)).isSome = true := rfl
theorem ap_isNon_tuple {xs : List P} : isNon (.tup xs) = false := rfl
theorem ap_tyN_tuple {xs : List P} : (tyN (.tup xs)).isSome = true := rfl
theorem ap_isNon_dict {ks : List Key} {xs : List P} : isNon (.dct ks xs) = false := rfl
theorem ap_tyN_dict {ks : List Key} {xs : List P} : (tyN (.dct ks xs)).isSome = true := rfl
def ForB (xs : List P) (g : P → PEnv → (PEnv → Prop) → Prop) (b : WS) (D : PEnds) (env : PEnv) : Prop := ∃ Inv : Nat → PEnv → Prop, Inv 0 env ∧
  (∀ i x e, xs[i]? = some x → Inv i e → g x e fun e2 => b { D with nx := Inv (i + 1), ct := Inv (i + 1), bk := D.nx } e2) ∧ ∀ e, Inv xs.length e → D.nx e
def LcB (xs : List P) (g : P → PEnv → (PEnv → Prop) → Prop) (tt : WT) (te : WE) (vs : List Nat) (env : PEnv) (Q : P → Prop) : Prop := ∃ Inv : Nat → List P → Prop, Inv 0 [] ∧
  (∀ i x acc, xs[i]? = some x → Inv i acc → g x (wipeP env vs) fun e => tt e (fun b => if b = true then te e (fun y => acc.length < sizeLine ∧ Inv (i + 1) (acc ++ [y])) noX' else Inv (i + 1) acc) noX') ∧
  ∀ acc, Inv xs.length acc → Q (.lst acc)
theorem ap_for {wi : WI} {g : P → PEnv → (PEnv → Prop) → Prop} {b : WS} {D : PEnds} {env : PEnv} : (wFor wi g b D env) = (wi env (fun xs => ForB xs g b D env) (D.ex env)) := rfl
theorem ap_lc {wi : WI} {g : P → PEnv → (PEnv → Prop) → Prop} {tt : WT} {te : WE} {vs : List Nat} {env : PEnv} {Q : P → Prop} {X : XP} : (wLc wi g tt te vs env Q X) = (wi env (fun xs => LcB xs g tt te vs env Q) X) := rfl
theorem ap_tystr {z : Str} : (tyPB "str" (.str z)) = (true) := rfl
theorem ap_tylist {xs : List P} : (tyPB "list" (.lst xs)) = (true) := rfl
end Pf

namespace Pf
open PySem PySem.Spec PyProof.Rows L2
theorem for_l {g : P → PEnv → (PEnv → Prop) → Prop} {b : WS} {D : PEnds} {env : PEnv} {xs : List P} (Inv : Nat → PEnv → Prop) (h0 : Inv 0 env)
    (hs : ∀ (i : Nat) x e, xs[i]? = some x → Inv i e → g x e fun e2 => b { D with nx := Inv (i + 1), ct := Inv (i + 1), bk := D.nx } e2) (hd : ∀ e, Inv xs.length e → D.nx e) : ForB xs g b D env := ⟨Inv, h0, hs, hd⟩
theorem for_r {g : P → PEnv → (PEnv → Prop) → Prop} {b : WS} {D : PEnds} {env : PEnv} {lo : Int} {n : Nat} (Inv : Nat → PEnv → Prop) (h0 : Inv 0 env)
    (hs : ∀ i e, i < n → Inv i e → g (.int (lo + (i : Int))) e fun e2 => b { D with nx := Inv (i + 1), ct := Inv (i + 1), bk := D.nx } e2) (hd : ∀ e, Inv n e → D.nx e) : ForB (rng lo n) g b D env :=
  ⟨Inv, h0, fun i x e hx hI => by
    have hi : i < n := by have := (List.getElem?_eq_some_iff.mp hx).1; rwa [rng_len] at this
    rw [rng_at hi] at hx
    cases hx
    exact hs i e hi hI, fun e h => hd e (by rwa [rng_len] at h)⟩
/-- [f i for i in ..]: each item by its place -/
theorem lc_all {g : P → PEnv → (PEnv → Prop) → Prop} {te : WE} {vs : List Nat} {env : PEnv} {Q : P → Prop} {xs ys : List P} (hn : ys.length = xs.length) (hl : xs.length ≤ sizeLine)
    (hs : ∀ (i : Nat) x y (Q : P → Prop), xs[i]? = some x → ys[i]? = some y → Q y → g x (wipeP env vs) fun e => te e Q noX') (hd : Q (.lst ys)) : LcB xs g (fun _ Q _ => Q true) te vs env Q := by
  refine ⟨fun i acc => acc = ys.take i, by simp, fun i x acc hx ha => ?_, fun acc ha => ?_⟩
  · have hi : i < ys.length := by rw [hn]; exact (List.getElem?_eq_some_iff.mp hx).1
    have h := hs i x ys[i] (fun y => acc.length < sizeLine ∧ acc ++ [y] = ys.take (i + 1)) hx (List.getElem?_eq_getElem hi) ⟨by rw [ha, List.length_take]; omega, by rw [ha, List.take_add_one, List.getElem?_eq_getElem hi]; rfl⟩
    simpa using h
  · rw [ha, ← hn, List.take_length]
    exact hd
/-- the items are not told one by one: each has Pb -/
theorem lc_any {g : P → PEnv → (PEnv → Prop) → Prop} {te : WE} {vs : List Nat} {env : PEnv} {Q : P → Prop} {xs : List P} (Pb : Nat → P → Prop) (hl : xs.length ≤ sizeLine)
    (hs : ∀ (i : Nat) x (Q : P → Prop), xs[i]? = some x → (∀ y, Pb i y → Q y) → g x (wipeP env vs) fun e => te e Q noX') (hd : ∀ ys : List P, ys.length = xs.length → (∀ (i : Nat) y, ys[i]? = some y → Pb i y) → Q (.lst ys)) : LcB xs g (fun _ Q _ => Q true) te vs env Q := by
  refine ⟨fun i acc => acc.length = i ∧ ∀ (j : Nat) y, acc[j]? = some y → Pb j y, ⟨rfl, fun j y h => by simp at h⟩, fun i x acc hx ha => ?_, fun acc ha => hd acc ha.1 ha.2⟩
  have hi : i < xs.length := (List.getElem?_eq_some_iff.mp hx).1
  have h := hs i x (fun y => acc.length < sizeLine ∧ ((acc ++ [y]).length = i + 1 ∧ ∀ (j : Nat) z, (acc ++ [y])[j]? = some z → Pb j z)) hx fun y hy => ⟨by omega, by simp [ha.1], fun j z hz => by
    by_cases hj : j < acc.length
    · rw [List.getElem?_append_left hj] at hz; exact ha.2 j z hz
    · rw [List.getElem?_append_right (by omega)] at hz
      by_cases h0 : j - acc.length = 0
      · rw [h0] at hz
        have e : y = z := Option.some.inj hz
        have ej : j = i := by omega
        rw [← e, ej]; exact hy
      · have : j - acc.length = (j - acc.length - 1) + 1 := by omega
        rw [this] at hz; cases hz⟩
  simpa using h
theorem at_nn {α : Type} {xs : List α} {k : Int} {x : α} (h0 : 0 ≤ k) (h : xs[k.toNat]? = some x) : atI xs k = some x := by
  have hl := (List.getElem?_eq_some_iff.mp h).1
  unfold atI ixN
  rw [if_pos h0, if_pos (by omega)]
  exact h
theorem at_neg {α : Type} {xs : List α} {k : Int} {x : α} (h0 : k < 0) (h1 : -(xs.length : Int) ≤ k) (h : xs[(k + xs.length).toNat]? = some x) : atI xs k = some x := by
  unfold atI ixN
  rw [if_neg (by omega), if_pos h1]
  exact h
theorem at_ii {ns : List Int} {k : Int} (h0 : 0 ≤ k) (h1 : k < (ns.length : Int)) : ∃ n, ns[k.toNat]? = some n ∧ n ∈ ns ∧ atI (ns.map P.int) k = some (.int n) := by
  have hk : k.toNat < ns.length := by omega
  exact ⟨ns[k.toNat], List.getElem?_eq_getElem hk, List.getElem_mem hk, at_nn h0 (by rw [List.getElem?_map, List.getElem?_eq_getElem hk]; rfl)⟩
theorem sz {n : Nat} (h : n ≤ 1000000) : n ≤ sizeLine := Nat.le_trans h (by decide)
theorem sle {n : Nat} (h : n ≤ 1000000) : (n ≤ sizeLine) = True := eq_true (sz h)
theorem at0 {α : Type} {a : α} {xs : List α} : atI (a :: xs) 0 = some a := at_nn (by decide) rfl
theorem at1 {α : Type} {a b : α} {xs : List α} : atI (a :: b :: xs) 1 = some b := at_nn (by decide) rfl
theorem at2 {α : Type} {a b c : α} {xs : List α} : atI (a :: b :: c :: xs) 2 = some c := at_nn (by decide) rfl
theorem at3 {α : Type} {a b c d : α} {xs : List α} : atI (a :: b :: c :: d :: xs) 3 = some d := at_nn (by decide) rfl
theorem at4 {α : Type} {a b c d e : α} {xs : List α} : atI (a :: b :: c :: d :: e :: xs) 4 = some e := at_nn (by decide) rfl
theorem at5 {α : Type} {a b c d e f : α} {xs : List α} : atI (a :: b :: c :: d :: e :: f :: xs) 5 = some f := at_nn (by decide) rfl
theorem atL {α : Type} {a : α} {xs : List α} : atI (xs ++ [a]) (-1) = some a := at_neg (by decide) (by rw [List.length_append, List.length_singleton]; omega) (by rw [List.length_append, List.length_singleton, List.getElem?_append_right (by omega), show (-1 + ((xs.length + 1 : Nat) : Int)).toNat - xs.length = 0 by omega]; rfl)
theorem szt {n : Nat} (h : n ≤ 1000000) : n < sizeLine := Nat.lt_of_le_of_lt h (by decide)
theorem mul_s {i j : Int} (h1 : -(2 ^ 63) < i ∧ i < 2 ^ 63) (h2 : -(2 ^ 63) < j ∧ j < 2 ^ 63) : CMulW i j := wide_mul (a := 64) (b := 64) (by omega) (by omega) (by omega) (by omega) (by omega)
theorem div_s {i j : Int} (h1 : 0 < j) (h2 : j < 2 ^ 63) : CDivW i j := wide_div (b := 64) h1 (by omega) (by omega) (by omega)
end Pf

namespace Pf
open PySem PySem.Spec PyProof.Rows L2
section
variable {K : PySem.W.Frag} {W : WX} {k : Rk} {ro : Bool}
def lookN : List Str → List P → Str → Option P
  | n :: ns, x :: xs, f => if f = n then some x else lookN ns xs f
  | _, _, _ => none
def putN : List Str → Str → List Str
  | [], f => [f]
  | n :: ns, f => if n = f then n :: ns else n :: putN ns f
def putX : List Str → List P → Str → P → List P
  | n :: ns, x :: xs, f, y => if n = f then y :: xs else x :: putX ns xs f y
  | _, _, _, y => [y]
theorem look_of {F : Hp} {f : Str} {x : P} : ∀ {fs : List (Str × V)} {ns : List Str} {xs : List P}, fs.map Prod.fst = ns → RL K F (fs.map Prod.snd) xs → lookN ns xs f = some x → ∃ v, fs.lookup f = some v ∧ R K F v x
  | [], _, _, rfl, r, h => by cases h
  | (n, v) :: fs, _, _, rfl, .cons (x := y) (xs := xs) q r, h => by
    have h : (if f = n then some y else lookN (fs.map Prod.fst) xs f) = some x := h
    by_cases e : f = n
    · rw [if_pos e] at h
      cases h
      exact ⟨v, by rw [List.lookup_cons, beq_iff_eq.mpr e], q⟩
    · rw [if_neg e] at h
      obtain ⟨w, ew, rw'⟩ := look_of (fs := fs) rfl r h
      exact ⟨w, by rw [List.lookup_cons, beq_eq_false_iff_ne.mpr e]; exact ew, rw'⟩
theorem put_fst {f : Str} {v : V} : ∀ {fs : List (Str × V)}, (putF f v fs).map Prod.fst = putN (fs.map Prod.fst) f
  | [] => rfl
  | (n, x) :: fs => by
    unfold putF putN
    by_cases e : n = f
    · simp [e]
    · simp [e, put_fst (fs := fs)]
theorem put_snd {F : Hp} {f : Str} {v : V} {y : P} (h : R K F v y) : ∀ {fs : List (Str × V)} {xs : List P}, RL K F (fs.map Prod.snd) xs → RL K F ((putF f v fs).map Prod.snd) (putX (fs.map Prod.fst) xs f y)
  | [], _, .nil => .cons h .nil
  | (n, x) :: fs, _, .cons q r => by
    unfold putF putX
    by_cases e : n = f
    · simp only [List.map_cons, if_pos e]; exact .cons h r
    · simp only [List.map_cons, if_neg e]; exact .cons q (put_snd h r)
def onIns (C : Addr) (x : P) (Q : List Str → List P → Prop) : Prop := match x with
  | .ins C' ns xs => C' = C ∧ Q ns xs
  | .slf _ C' ns xs => C' = C ∧ Q ns xs
  | _ => False
theorem onIns_of {F H : Hp} {C : Addr} {v : V} {x : P} {Q : List Str → List P → Prop} (s : Same F H) (r : Tp K F H v x) (h : onIns C x Q) : ∃ a dx fs ns xs, v = .ref a ∧ H a = some (.ins C dx fs) ∧ fs.map Prod.fst = ns ∧ RL K F (fs.map Prod.snd) xs ∧ Q ns xs := by
  cases x with
  | ins C' ns xs =>
    obtain ⟨a, dx, fs, e, ha, l, r⟩ := Tp.ins s r
    obtain ⟨rfl, h⟩ := h
    exact ⟨a, dx, fs, ns, xs, e, ha, l, r, h⟩
  | slf a' C' ns xs =>
    obtain ⟨a, dx, fs, e, ha, l, r⟩ := Tp.slf s r
    obtain ⟨rfl, h⟩ := h
    exact ⟨a, dx, fs, ns, xs, e, ha, l, r, h⟩
  | _ => exact h.elim
def wFldR (C : Addr) (f : Str) (o : WE) : WE := fun env Q X => o env (fun x => onIns C x fun ns xs => ∃ y, lookN ns xs f = some y ∧ Q y) X
theorem se_fld {C : Addr} {f : Str} {t : TE} {o : WE} (c : Cls K C) (n : NoAttr K C f) (h : SE K W .C t o) : SE K W .V (tFld K t f) (wFldR C f o) := fun F0 H0 σ F H env Qp Xp Q g hw hx q =>
  h F0 H0 σ F H env _ Xp _ g hw hx fun F1 H1 v x m r h1 => by
    obtain ⟨a, dx, fs, ns, xs, rfl, ha, l, rl, y, hy, h1⟩ := onIns_of m.fh r h1
    obtain ⟨w, ew, rw'⟩ := look_of l rl hy
    exact ⟨a, C, dx, fs, w, rfl, ha, c, n, ew, q F1 H1 w y m rw' h1⟩
/-- self.f = e, self being made -/
def wFldS (C : Addr) (i : Nat) (f : Str) (w : WE) : WS := fun D env => w env (fun y => match env[i]? with
  | some (some (.o, .slf a C' ns xs)) => C' = C ∧ ns.length < 1000 ∧ D.nx (env.set i (some (.o, .slf a C (putN ns f) (putX ns xs f y))))
  | _ => False) (D.ex env)
theorem ss_fld {C : Addr} {i : Nat} {f : Str} {t : TE} {w : WE} (c : Cls K C) (n : NoAttr K C f) (h : SE K W .V t w) : SS K W ro (sFld K (tVar i) t f) (wFldS C i f w) := fun F0 H0 σ F H env Dp D g hw d x => by
  refine h F0 H0 σ F H env _ _ _ g hw (x.x g) fun F1 H1 v y m ry q => ?_
  have g1 := g.mv m
  split at q
  · rename_i a' C' ns xs e
    obtain ⟨rfl, q1, q2⟩ := q
    obtain ⟨w', hs, sl⟩ := g1.slot i _ _ e
    rcases sl with ⟨a, o, rfl, ha, rfl, dx, fs, rfl, l, r⟩ | sl
    · have cell : Cell K F1 a (.ins C' dx (putF f v fs)) (.slf a C' (putN ns f) (putX ns xs f y)) := by
        refine ⟨rfl, dx, _, rfl, ?_, ?_⟩
        · rw [put_fst, l]
        · rw [← l]; exact put_snd ry r
      exact ⟨.ref a, hs, a, _, dx, fs, rfl, ha, c, n, by rw [← l, List.length_map] at q1; exact q1, d.1 σ F1 _ _ (g1.put e hs cell) q2⟩
    · cases sl.1
  · exact q.elim
/-- e.f, a property; e.m(..), a method -/
def wProp (C : Addr) (p : PSp) (o : WE) : WE := fun env Q X => o env (fun x => onIns C x fun _ _ => p [x] Q noX) X
theorem se_prop {C : Addr} {p : PSp} {E : XK} {t : TE} {o : WE} (h : SE K W .C t o) : SE K W (rkOf ro) (tProp C (spOf K [.b] ro p) [] E t) (wProp C p o) := fun F0 H0 σ F H env Qp Xp Q g hw hx q =>
  h F0 H0 σ F H env _ Xp _ g hw hx fun F1 H1 v x m r h1 => by
    obtain ⟨a, dx, fs, ns, xs, rfl, ha, l, rl, h1⟩ := onIns_of m.fh r h1
    exact ⟨a, dx, fs, rfl, ha, F1, [_], Qp, noX, m.fh, ⟨r, trivial⟩, h1, fun F2 H2 v x m2 r2 h2 => q F2 H2 v x (m.trans m2) (rel_back m.s r2.rel) h2, fun _ _ _ _ _ _ _ _ z => z.elim⟩
def wMeth (C : Addr) (n : Str) (p : PSp) (o : WE) (a : WA) : WE := fun env Q X => o env (fun x => onIns C x fun ns _ => n ∉ ns ∧ a env (fun ys => p (x :: ys) Q noX) X) X
theorem look_none {f : Str} : ∀ {fs : List (Str × V)}, f ∉ fs.map Prod.fst → fs.lookup f = none
  | [], _ => rfl
  | (n, v) :: fs, h => by
    simp only [List.map_cons, List.mem_cons, not_or] at h
    rw [List.lookup_cons, beq_eq_false_iff_ne.mpr h.1]
    exact look_none h.2
theorem se_meth {C : Addr} {n : Str} {ms : List Mo} {p : PSp} {E : XK} {t : TE} {ta : TA} {o : WE} {a : WA} (h : SE K W .C t o) (ha : SimA K W ms ta a) : SE K W (rkOf ro) (tMeth C n (spOf K (.b :: ms) ro p) [] E t ta) (wMeth C n p o a) := fun F0 H0 σ F H env Qp Xp Q g hw hx q =>
  h F0 H0 σ F H env _ Xp _ g hw hx fun F1 H1 v x m r h1 => by
    obtain ⟨b, dx, fs, ns, xs, rfl, hb, l, rl, hn, h1⟩ := onIns_of m.fh r h1
    refine ⟨b, dx, fs, rfl, hb, look_none (by rw [l]; exact hn), ?_⟩
    refine ha F0 H0 σ F1 H1 env _ Xp _ (g.mv m) h1 (hx.mv m) fun F2 H2 vs ys m2 r2 h2 => ?_
    rw [List.append_nil]
    exact ⟨F2, _ :: ys, Qp, noX, m2.fh, ⟨Tp.mv m2 r, r2⟩, h2, fun F3 H3 v x m3 r3 h3 => q F3 H3 v x ((m.trans m2).trans m3) (rel_back (m.s.trans m2.s) r3.rel) h3, fun _ _ _ _ _ _ _ _ z => z.elim⟩
def spMk (K : PySem.W.Frag) (C : Addr) (ms : List Mo) (p : PSp) : Sp := fun vs H Q E => ∃ x dx args H1, vs = .ref x :: args ∧ H1 x = none ∧ H1 dx = none ∧ dx ≠ x ∧ H = upd (upd H1 dx (.own x)) x (.ins C dx []) ∧ ∃ F xs Qp Xp, Same F H1 ∧ AL K F H1 ms args xs ∧ p xs Qp Xp ∧
  (∀ F' H' y, Mv F H1 F' H' → R K F' (.ref x) y → Qp y → Q .non H') ∧ (∀ F' H' C' d ns ys, Mv F H1 F' H' → XF K F' d ns ys → Xp C' ns ys → E (.ref C') d H')
theorem se_make0 {C : Addr} {ms : List Mo} {p : PSp} {E : XK} {t : TA} {a : WA} (h : SimA K W ms t a) : SE K W .V (tMake C (spMk K C ms p) [] E t) (wCall0 p a) := fun F0 H0 σ F H env Qp Xp Q g hw hx q =>
  h F0 H0 σ F H env _ Xp _ g hw hx fun F1 H1 vs xs m r h1 x dx nx nd ne => by
    rw [List.append_nil]
    exact ⟨x, dx, vs, H1, rfl, nx, nd, ne, rfl, F1, xs, Qp, noX, m.fh, r, h1, fun F2 H2 y m2 r2 h2 => ⟨rfl, q F2 H2 _ y (m.trans m2) r2 h2⟩, fun _ _ _ _ _ _ _ _ z => z.elim⟩
def initP (N : List Str) (x C : Addr) (ms : List Mo) (xs : List P) : PEnv := startP N (Mo.o :: ms) (P.slf x C [] [] :: xs)
theorem good_init {F H1 : Hp} {N : List Str} {C x dx : Addr} {ms : List Mo} {vs : List V} {xs : List P} (s : Same F H1) (h : AL K F H1 ms vs xs) (nx : H1 x = none) (nd : H1 dx = none) (ne : dx ≠ x) :
    Good K F H1 (L2.start N (.ref x :: vs)) F (upd (upd H1 dx (.own x)) x (.ins C dx [])) (initP N x C ms xs) := by
  have g := good_start (N := N) (ms := Mo.v :: ms) (vs := V.non :: vs) (xs := P.non :: xs) s ⟨R.non, h⟩
  have m : Mv F H1 F (upd (upd H1 dx (.own x)) x (.ins C dx [])) := by
    refine ⟨.refl, fun b u e => ?_, fun b u e => ?_⟩
    · rw [upd_ne (ne_of_none e nx), upd_ne (ne_of_none e nd)]; exact e
    · rw [upd_ne (ne_of_none (s _ _ e) nx), upd_ne (ne_of_none (s _ _ e) nd)]; exact s _ _ e
  exact g.setO (i := 0) m (.inl ⟨x, _, rfl, nx, same_free s nx, upd_same, rfl, dx, [], rfl, rfl, .nil⟩ : Ow K H1 F _ (.ref x) (.slf x C [] []))
/-- the object that slot 0 holds -/
def selfO (x : Addr) (env : PEnv) (Q : P → Prop) : Prop := match env[(0 : Nat)]? with
  | some (some (.o, .slf a C ns xs)) => a = x ∧ Q (.ins C ns xs)
  | _ => False
def endsI (x : Addr) (Q : P → Prop) (X : XP) : PEnds := ⟨fun env => selfO x env Q, fun _ => False, fun _ => False, fun _ => False, fun _ => X⟩
theorem fn_simI {Pg : Program} {w : World} {mg : Str → Option Value} {base : Heap} {x qual : Str} {st : Stmt} {f C : Addr} {fd : FuncData} {N ps : List Str} {kk : Nat} {ms : List Mo} {p : PSp} {b : WS} (F : Fun K x qual st f fd) (S : FnScope N ps (defScope st)) (hm : ms.length + 1 = ps.length)
    (hbody : ∀ (cdv : Value) (A : Around) (outer : List Env) (s : Shared) (H : Hp) (E : XK), Room kk (A.deeper (envOfC qual (defScope st) s.heap.objs.size f cdv)) → ∃ t, PSs (cxOf (L2.CX Pg w) Pg w K mg base N qual (defScope st) f cdv A outer s H E) (defBody st) t ∧ SS K (fun cls d _ H => E cls d H) false t b)
    (hp : ∀ a xs Q X, p xs Q X → b (endsI a Q X) (initP N a C ms xs)) : FnOk Pg w K mg base (L2.CX Pg w) (kk + 1) f fd ps (spMk K C ms p) := by
  refine F.okX S (fun vs H Q E ⟨y, dx, args, H1, e, _, _, _, _, F1, xs, Qp, Xp, s, al, _⟩ => ?_) fun cdv A outer s H vs Q E hr ⟨y, dx, args, H1, e, nx, nd, ne, eH, F1, xs, Qp, Xp, sm, al, hq, q, qx⟩ => ?_
  · obtain ⟨l1, l2⟩ := al.lens
    rw [e, List.length_cons, l2, ← l1, hm]
  · obtain ⟨t, ht, sim⟩ := hbody cdv A outer s H E hr
    subst e eH
    refine ⟨t, ht, sim F1 H1 _ F1 _ _ _ _ (good_init sm al nx nd ne) (hp y xs Qp Xp hq) ⟨fun σ F' H' env g h => ?_, fun _ _ _ _ _ _ z => z.elim, fun _ _ _ _ _ h => h.elim, fun _ _ _ _ _ h => h.elim⟩ fun σ F' H' env C d ns ys g f h => qx F' H' C d ns ys g.m f h⟩
    have hz : selfO y env Qp := h
    clear h
    unfold selfO at hz
    split at hz
    · rename_i a C' ns zs e0
      obtain ⟨rfl, hz⟩ := hz
      obtain ⟨F2, g2⟩ := g.frz e0
      have hl : 0 < env.length := (List.getElem?_eq_some_iff.mp e0).1
      obtain ⟨v, hs, sl⟩ := g.slot 0 _ _ e0
      rcases sl with ⟨b', o, rfl, hb, rfl, dx', fs, rfl, l, r⟩ | sl
      · obtain ⟨v2, hs2, s2⟩ := g2.slot 0 .v (.slf b' C' ns zs) (by rw [List.getElem?_set_self hl])
        have hr : R K F2 v2 (.slf b' C' ns zs) := s2
        cases hr with
        | slf hf e1 e2 rr => exact q F2 H' _ g2.m (.ins hf e1 e2 rr) hz
      · cases sl.1
    · exact hz.elim
end
end Pf

namespace Pf
open PySem PySem.Spec PyProof.Rows L2
/-- the promise of an error's __init__ that stores its argument -/
def spExc (C : Addr) (f : Str) : Sp := fun vs H Q _ => ∃ (a : Addr) (v : V), vs = [.ref a, v] ∧ H a = some (exo a C none) ∧ ∀ dx, H dx = none → dx ≠ a → Q .non (upd (upd H dx (exd dx [(f, v)])) a (exo a C (some dx)))
theorem mko_end {H1 : Hp} {C : Addr} {f : Str} {v : V} {Q : XK} (k : ∀ d, H1 d = none → Q (.ref C) (some d) (upd H1 d (.xd [(f, v)]))) : ∀ a, H1 a = none → spExc C f [.ref a, v] (upd H1 a (exo a C none))
    (fun v H2 => v = .non ∧ ∃ (d : Addr) (fs : List (Str × V)), H2 a = some (exo a C (some d)) ∧ H2 d = some (exd d fs) ∧ H1 d = none ∧ Q (.ref C) (some d) (upd (del H2 a) d (.xd fs))) (fun _ _ _ => False) := by
  intro a na
  refine ⟨a, v, rfl, upd_same, fun dx nd ne => ⟨rfl, dx, [(f, v)], upd_same, by rw [upd_ne ne, upd_same], by rw [upd_ne ne] at nd; exact nd, ?_⟩⟩
  have nd1 : H1 dx = none := by rw [upd_ne ne] at nd; exact nd
  have e : upd (del (upd (upd (upd H1 a (exo a C none)) dx (exd dx [(f, v)])) a (exo a C (some dx))) a) dx (.xd [(f, v)]) = upd H1 dx (.xd [(f, v)]) := by
    funext b
    by_cases hb : b = dx
    · rw [hb, upd_same, upd_same]
    · rw [upd_ne hb, upd_ne hb]
      by_cases ha : b = a
      · rw [ha, del_same, na]
      · rw [del_ne ha, upd_ne ha, upd_ne hb, upd_ne ha]
  rw [e]
  exact k dx nd1
theorem exc_read {K : PySem.W.Frag} {C : Addr} {f y : Str} {vs : List V} {H : Hp} {Q : VK} {E : XK} (X : OexC K C) (n : PySem.W.findIn K (.ref C) f = some none) (h : spExc C f vs H Q E) :
    tOst K f (tVar 0) (tVar 1) { nx := fun _ H' => Q .non H', rt := Q } (L2.start ["self", y] vs) H := by
  obtain ⟨a, v, rfl, ha, q⟩ := h
  exact ⟨v, rfl, .ref a, rfl, a, C, rfl, X, n, .inl ⟨ha, fun dx nd ne => q dx nd ne⟩⟩
section
variable {K : PySem.W.Frag} {W : WX} {k : Rk} {ro : Bool}
def wRaise (C : Addr) (ns : List Str) (a : WA) : WS := fun D env => a env (fun xs => D.ex env C ns xs) (D.ex env)
theorem ss_raise1 {C : Addr} {f : Str} {ta : TA} {a : WA} (h : SimA K W [.v] ta a) : SS K W ro (fun _ σ H => tMkO C (spExc C f) [] ta σ H fun cls d H' => W cls d σ H') (wRaise C [f] a) := fun F0 H0 σ F H env Dp D g hw d x =>
  h F0 H0 σ F H env _ _ _ g hw (x.x g) fun F1 H1 vs xs m r q => by
    obtain ⟨v, vs', y, xs', rfl, rfl, ry, r'⟩ := AL.v1 r
    obtain ⟨rfl, rfl⟩ := AL.nil r'
    refine ⟨by simp, ?_⟩
    rw [List.append_nil]
    refine mko_end (Q := fun cls d H' => W cls d σ H') fun dx nd => ?_
    have m2 := mv_frz (o := .xd [(f, v)]) m.fh nd
    exact x σ _ _ env C (some dx) [f] [y] ((g.mv m).mv m2) (.inr ⟨dx, _, rfl, upd_same, rfl, .cons (R.mv m2 ry) .nil⟩) q
def wTry (C : Addr) (i : Nat) (b : WS) (s : Addr → Option Addr → WS) : WS := fun D env =>
  b { D with ex := fun e C' ns xs => C' = C ∧ ∀ (a : Addr) (d : Option Addr), (ns ≠ [] → d.isSome = true) → s a d ⟨fun e' => D.nx (e'.set i none), D.rt, fun e' => D.bk (e'.set i none), fun e' => D.ct (e'.set i none), fun _ => noX⟩ (e.set i (some (.v, .exc a d C' ns xs))) } env
theorem ss_try {C CC : Addr} {i : Nat} {Wout : WX} {tb : WX → List (Addr × Obj) → (Value → Shared → Prop) → TS} {ts : Addr → Obj → Value → Option Addr → List (Addr × Obj) → TS} {b : WS} {s : Addr → Option Addr → WS} (hx : PySem.W.exmOne K (.ref C) (.ref CC) = some true)
    (hb : ∀ W' pn xe, SS K W' ro (tb W' pn xe) b) (hs : ∀ a oe d pn, SS K noW ro (ts a oe (.ref C) d pn) (s a d)) :
    SS K Wout ro (fun D σ H => ∀ pn xe, tb (wAs K (.ref CC) i (fun a cls d D σ H => ∀ oe pn, ts a oe cls d pn D σ H) Wout D) pn xe D σ H) (wTry C i b s) := fun F0 H0 σ F H env Dp D g hw d x pn xe => by
  refine hb _ pn xe F0 H0 σ F H env _ D g hw d fun σ' F' H' env' C' dd ns xs g' f h => ?_
  obtain ⟨rfl, h⟩ := h
  refine ⟨true, hx, fun _ a na oe pn => ?_, fun z => Bool.noConfusion z⟩
  have hd : ns ≠ [] → dd.isSome = true := fun hn => by
    rcases f with ⟨_, e, _⟩ | ⟨a', fs, e, _⟩
    · exact absurd e hn
    · rw [e]; rfl
  exact hs a oe dd pn F0 H0 _ F' H' _ _ _ (g'.setV (i := i) (f.r a C')) (h a dd hd) ⟨fun σ2 F2 H2 e2 g2 h2 => d.1 _ F2 H2 _ (g2.drop i none) h2, d.2.1, fun σ2 F2 H2 e2 g2 h2 => d.2.2.1 _ F2 H2 _ (g2.drop i none) h2, fun σ2 F2 H2 e2 g2 h2 => d.2.2.2 _ F2 H2 _ (g2.drop i none) h2⟩ fun _ _ _ _ _ _ _ _ _ _ z => z
/-- a field of the caught error -/
def wXf (a : Addr) (d : Option Addr) (C : Addr) (f : Str) (o : WE) : WE := fun env Q X => o env (fun x => ∃ ns xs y, x = .exc a d C ns xs ∧ lookN ns xs f = some y ∧ Q y) X
theorem se_xf {a C : Addr} {d : Option Addr} {f : Str} {t : TE} {o : WE} (h : SE K W .C t o) : SE K W .V (tXf a (.ref C) d C f t) (wXf a d C f o) := fun F0 H0 σ F H env Qp Xp Q g hw hx q =>
  h F0 H0 σ F H env _ Xp _ g hw hx fun F1 H1 v x m r ⟨ns, xs, y, e, hy, h1⟩ => by
    subst e
    rcases r with r | ⟨_, _, _, _, c⟩
    · cases r with
      | exc0 => cases hy
      | exc1 hf e1 e2 rl =>
        obtain ⟨w, ew, rw'⟩ := look_of e1 (e2 ▸ rl) hy
        exact ⟨rfl, rfl, _, _, w, rfl, m.fh _ _ hf, ew, q F1 H1 w y m rw' h1⟩
    · exact c.elim
def fIsD (a : Addr) (d : Option Addr) (C : Addr) (c : P) (b : Bool) : PFn := fun xs Q => ∃ ns ys, xs = [.exc a d C ns ys, c] ∧ ns ≠ [] ∧ Q (.bl b)
theorem cs_isD {a C C2 : Addr} {d : Option Addr} {b : Bool} {m m' : Mo} (E : ExcC K C) (hk : PySem.W.kitOne K (.ref C) (.ref C2) = some b) : CallS K .V [m, m'] (rIsD K a (.ref C) d) (fIsD a d C (.adr C2) b) := fun F H vs xs Qp Q s r ⟨ns, ys, e, hn, h⟩ q => by
  obtain ⟨v, vs', x, xs', rfl, rfl, t, r'⟩ := AL.cons r
  obtain ⟨v', x', rfl, rfl, t'⟩ := AL.one r'
  cases e
  have ev : v' = .ref C2 := by
    rcases t' with t' | ⟨_, _, _, _, c⟩
    · cases t'; rfl
    · exact c.elim
  subst ev
  rcases t with t | ⟨_, _, _, _, c⟩
  · cases t with
    | exc0 => exact absurd rfl hn
    | exc1 hf e1 e2 rl => exact ⟨C, _, _, _, _, b, rfl, rfl, rfl, s _ _ hf, E, .own _, hk, q F H _ _ (.refl s) (R.bl _) h⟩
  · exact c.elim
theorem cs_isDT {a C : Addr} {T : String} {d : Option Addr} {b : Bool} {m m' : Mo} (E : ExcC K C) (hk : PySem.W.kitOne K (.ref C) (.type T) = some b) : CallS K .V [m, m'] (rIsD K a (.ref C) d) (fIsD a d C (.ty T) b) := fun F H vs xs Qp Q s r ⟨ns, ys, e, hn, h⟩ q => by
  obtain ⟨v, vs', x, xs', rfl, rfl, t, r'⟩ := AL.cons r
  obtain ⟨v', x', rfl, rfl, t'⟩ := AL.one r'
  cases e
  obtain rfl := t'.tyc
  rcases t with t | ⟨_, _, _, _, c⟩
  · cases t with
    | exc0 => exact absurd rfl hn
    | exc1 hf e1 e2 rl => exact ⟨C, _, _, _, _, b, rfl, rfl, rfl, s _ _ hf, E, .ty _, hk, q F H _ _ (.refl s) (R.bl _) h⟩
  · exact c.elim
end
structure FnW (Pg : Program) (w : World) (K : PySem.W.Frag) (mg : Str → Option Value) (base : Heap) (kk : Nat) (f : Addr) (fd : FuncData) (ps : List Str) (sp : Sp) : Prop where
  len : ∀ vs H Q E, sp vs H Q E → vs.length = ps.length
  run : ∀ (A : Around) (out : List Env) (s : Shared) (H : Hp) (ar : Args) (us : List Value) (vs : List V) (Q : VK) (E : XK) (p : Addr × Obj), L2H.RoomH kk A → L2H.PinOk out H s p → Env0 Pg w K mg base A out s H →
    BindsTo s fd ar (ps.zip us) → Vals vs us → sp vs H Q E → codeAny (model Pg w) A (.call (.ref f) ar) (CR CX0 out Pg w H s Q E) s
section
variable {K : PySem.W.Frag} {Pg : Program} {w : World} {mg : Str → Option Value} {base : Heap} {x qual : Str} {st : Stmt} {f : Addr} {fd : FuncData} {N ps : List Str} {kk : Nat} {sp : Sp}
end
section
variable {X : Cx} {kk : Nat} {f : Addr} {fd : FuncData} {ps : List Str} {sp : Sp} {y : Str} {p pos : Pos} {e : Expr} {es : List Expr} {t : TA} {a : Addr} {oe : Obj} {pn : List (Addr × Obj)}
end
end Pf

namespace Pf
open PySem PySem.Spec PyProof.Rows L2
section
variable {K : PySem.W.Frag} {W : WX} {k : Rk} {ro : Bool}
theorem AL.b1 {F H : Hp} {v : V} {x : P} (h : Tp K F H v x) : AL K F H [.b] [v] [x] := ⟨h, trivial⟩
def fLenO (C : Addr) (p : PSp) : PFn := fun xs Q => ∃ x, xs = [x] ∧ onIns C x fun _ _ => p [x] (fun y => onInt y fun k => 0 ≤ k ∧ k < 2 ^ 63 ∧ Q (.int k)) noX
theorem cs_lenO {C : Addr} {p : PSp} {E : XK} {m : Mo} : CallS K .V [m] (rOwnLen C (spOf K [.b] false p) E) (fLenO C p) := fun F H vs xs Qp Q s r ⟨x, e, h⟩ q => by
  obtain ⟨v, x', rfl, rfl, t⟩ := AL.one r
  cases e
  obtain ⟨a, dx, fs, ns, ys, rfl, ha, l, rl, h⟩ := onIns_of s t h
  refine ⟨a, dx, fs, rfl, ha, F, [_], _, noX, s, AL.b1 t, h, fun F' H' v y m r h => ?_, fun _ _ _ _ _ _ _ _ z => z.elim⟩
  have r : R K F' v y := r
  obtain ⟨b, rfl, rfl, h0, h1, h⟩ := onInt_of (.inl r : Tp K F' H' v y) h
  exact ⟨b, rfl, ⟨h0, h1⟩, q F' H' _ _ m r h⟩
def fEqO (C : Addr) (p : PSp) : PF2 := fun x y Q => onIns C x fun _ _ => onIns C y fun _ _ => p [x, y] (fun z => onB z fun b => Q (.bl b)) noX
theorem os_eqO {C : Addr} {p : PSp} {E : XK} : OpS K .V (rOwnEq C (spOf K [.b, .b] false p) E) (fEqO C p) := fun F H v w x y Qp Q s r r' h q => by
  obtain ⟨a, dx, fs, ns, ys, rfl, ha, l, rl, h⟩ := onIns_of s r h
  obtain ⟨b, dy, gs, ms, zs, rfl, hb, l', rl', h⟩ := onIns_of s r' h
  refine ⟨a, b, dx, dy, fs, gs, rfl, rfl, ha, hb, F, [_, _], _, noX, s, ⟨r, r', trivial⟩, h, fun F' H' v z m r h => ?_, fun _ _ _ _ _ _ _ _ z => z.elim⟩
  have r : R K F' v z := r
  obtain ⟨c, rfl, rfl, h⟩ := onB_of (.inl r : Tp K F' H' v z) h
  exact ⟨c, rfl, q F' H' _ _ m r h⟩
/-- what isinstance(x, C) wants of the class -/
structure InsC (K : PySem.W.Frag) (C : Addr) : Prop where
  cl : Cls K C
  ha : PySem.W.findIn K (.ref C) "__class__" = some (some (.builtin "object.__class__"))
  hn : PySem.W.specialIn K (.builtin "object.__class__") "__get__" = some (some (.builtin "getset_descriptor.__get__"))
  ht : PySem.W.takesIn K (.builtin "object.__class__") = some true
  hm : PySem.W.mroIn K C (.type "object") = some true
  kit : PySem.W.kitOne K (.ref C) (.ref C) = some true
def fIsO (C : Addr) : PFn := fun xs Q => ∃ x, xs = [x, .adr C] ∧ onIns C x fun _ _ => Q (.bl true)
theorem Tp.adr {F H : Hp} {v : V} {C : Addr} (h : Tp K F H v (.adr C)) : v = .ref C := by
  rcases h with r | ⟨_, _, _, _, c⟩
  · cases r; rfl
  · exact c.elim
theorem cs_isO {C : Addr} {m m' : Mo} (I : InsC K C) : CallS K .V [m, m'] (rIsi K) (fIsO C) := fun F H vs xs Qp Q s r ⟨x, e, h⟩ q => by
  obtain ⟨v, vs', x1, xs', rfl, rfl, t, r'⟩ := AL.cons r
  obtain ⟨v', x', rfl, rfl, t'⟩ := AL.one r'
  cases e
  obtain rfl := t'.adr
  obtain ⟨a, dx, fs, ns, ys, rfl, ha, l, rl, h⟩ := onIns_of s t h
  exact ⟨_, _, _, _, _, rfl, .own _, .base (.ins ha I.cl I.ha I.hn I.ht I.hm), I.kit, q F H _ _ (.refl s) (R.bl _) h⟩
/-- what an own __iter__ promises: iter(self.f) -/
def spIter (K : PySem.W.Frag) (C : Addr) (f : Str) : Nat → Sp := fun n vs H Q _ => ∃ a dx fs l zs, vs = [.ref a] ∧ H a = some (.ins C dx fs) ∧ fs.lookup f = some (.ref l) ∧ SqL K H l zs ∧ ∀ it, H it = none → n ≤ it → Q (.ref it) (upd H it (ItO l it 0))
theorem iter_read {C : Addr} {f : Str} {n : Nat} {vs : List V} {H : Hp} {Q : VK} {E : XK} (c : Cls K C) (na : NoAttr K C f) (h : spIter K C f n vs H Q E) :
    (tRet (tCB (ItX.rIterN K n) (tCons (tFld K (tVar 0) f) tNil))) { nx := fun _ H' => Q .non H', rt := Q } (L2.start ["self"] vs) H := by
  obtain ⟨a, dx, fs, l, zs, rfl, ha, hl, hs, q⟩ := h
  exact ⟨.ref a, rfl, a, C, dx, fs, .ref l, rfl, ha, c, na, hl, l, zs, rfl, hs, fun it ni hn => q it ni hn⟩
def wIOwn (C : Addr) (f : Str) (o : WE) : WI := fun env Q X => o env (fun x => onIns C x fun ns xs => ∃ rs, lookN ns xs f = some (.lst rs) ∧ Q rs) X
theorem si_own {C : Addr} {f : Str} {E : XK} {te : TE} {o : WE} (h : SE K W .C te o) : SimI K W (iOwn K C (spIter K C f) E te) (wIOwn C f o) := fun F0 H0 σ F H env Qp Xp Rr g hw hx q =>
  h F0 H0 σ F H env _ Xp _ g hw hx fun F1 H1 v x m r h1 => by
    obtain ⟨a, dx, fs, ns, ys, rfl, ha, l, rl, rs, hy, h1⟩ := onIns_of m.fh r h1
    obtain ⟨w, ew, rw'⟩ := look_of l rl hy
    cases rw' with
    | lst hf rr =>
      refine ⟨a, dx, fs, rfl, ha, fun n => ⟨a, dx, fs, _, _, rfl, ha, ew, SqL.of (m.fh _ _ hf), fun it ni hn => ⟨it, _, rfl, hn, upd_same, ?_⟩⟩⟩
      rw [ItX.dropH_upd ni]
      exact q F1 H1 _ _ m (wkd_at walk_list (fun F2 H2 o => ⟨SqL.of (o.2.1 _ _ (o.1 _ _ hf)), rr.mono o.1, o.2.1⟩) rr.len) h1
def wDGet2 (d y x : WE) : WE := fun env Q X => d env (fun a => onDct a fun ks xs => y env (fun z => x env (fun u => onKey z fun k => Q ((valP ks xs k).getD u)) X) X) X
theorem se_dget2 {td ty tx : TE} {d y x : WE} (hd : SE K W .C td d) (hy : SE K W .C ty y) (hx' : SE K W .V tx x) : SE K W .V (tDGet2 td ty tx) (wDGet2 d y x) := fun F0 H0 σ F H env Qp Xp Q g hw hx q =>
  hd F0 H0 σ F H env _ Xp _ g hw hx fun F1 H1 v a m1 r1 h1 => by
    obtain ⟨ks, xs, p, vs, rfl, rfl, hp, l, r, h1⟩ := onDct_of m1.fh r1 h1
    refine ⟨p, rfl, .inl ⟨_, hp⟩, ?_⟩
    refine hy F0 H0 σ F1 H1 env _ Xp _ (g.mv m1) h1 (hx.mv m1) fun F2 H2 w z m2 r2 h2 => ?_
    refine hx' F0 H0 σ F2 H2 env _ Xp _ ((g.mv m1).mv m2) h2 ((hx.mv m1).mv m2) fun F3 H3 u b m3 r3 h3 => ?_
    obtain ⟨k, rfl, h3⟩ := onKey_of (Tp.mv m3 r2) h3
    have m23 := m2.trans m3
    have rr := r.mono m23.e.1
    refine ⟨valV (ks.zip vs) k, .inl ⟨_, k, Rd.same m23.s hp, rfl, rfl⟩, ?_⟩
    cases e : valP ks xs k with
    | none =>
      rw [(valP_zip l rr).1 e]
      rw [e] at h3
      exact q F3 H3 u b (m1.trans m23) r3 h3
    | some c =>
      obtain ⟨cv, ec, rc⟩ := (valP_zip l rr).2 c e
      rw [ec]
      rw [e] at h3
      exact q F3 H3 cv c (m1.trans m23) rc h3
theorem zip_fst {ks : List Key} {vs : List V} (l : ks.length = vs.length) : (ks.zip vs).map (·.1) = ks := by
  rw [List.map_fst_zip]; omega
/-- the keys of a dict are texts that are data -/
def fSortD : PFn := fun xs Q => ∃ (ks : List Str) (ys : List P), xs = [.dct (ks.map Sum.inr) ys] ∧ ks.length < 64 ∧ (∀ k ∈ ks, SOk k) ∧ ∀ ms : List Str, ms.Perm ks → sortedS ms = true → Q (.lst (ms.map .str))
theorem cs_sortD {m : Mo} : CallS K .O [m] (fun xs H Q => ∃ (a : Addr) (kvs : List (Key × V)) (ks : List Str), xs = [.ref a] ∧ Rd H a (.dK kvs) ∧ kvs.map (·.1) = ks.map Sum.inr ∧ ks.length < 64 ∧
    ∀ ys p, ys.Perm ks → sortedS ys = true → H p = none → Q (.ref p) (upd H p (.lst (ys.map V.str)))) fSortD := fun F H vs xs Qp Q s r ⟨ks, ys, e, hn, hk, h⟩ q => by
  obtain ⟨v, x, rfl, rfl, t⟩ := AL.one r
  cases e
  obtain ⟨a, ws, rfl, ha, l, rl⟩ := Tp.dct s t
  exact ⟨a, _, ks, rfl, ha, zip_fst l, hn, fun ms p h1 h2 np => q F _ _ (.lst (ms.map .str)) (mv_new s np) (.inl ⟨p, _, rfl, np, same_free s np, upd_same, .l (.of_strs fun z hz => hk z (h1.mem_iff.mp hz))⟩) (h ms h1 h2)⟩
/-- strip(signs) -/
theorem sok_sub {z : Str} {lo hi : Nat} (h : SOk z) : SOk (Builtin.Str.strSub z lo hi) := by
  have e : (Builtin.Str.strSub z lo hi).cps.toList = (z.cps.toList.drop lo).take (hi - lo) := by
    unfold Builtin.Str.strSub
    simp [List.extract]
  have hl : z.cps.toList.length ≤ sizeLine := by rw [Array.length_toList]; exact h.1
  refine ⟨?_, fun c hc => ?_⟩
  · show (Builtin.Str.strSub z lo hi).cps.size ≤ sizeLine
    rw [← Array.length_toList, e, List.length_take, List.length_drop]
    omega
  · rw [e] at hc
    exact h.2 c (List.mem_of_mem_drop (List.mem_of_mem_take hc))
theorem sok_strip {a b : Str} (h : SOk a) : SOk (Txt.stripChars a b) := by
  unfold Txt.stripChars Txt.stripBy
  split
  · exact h
  · unfold stripped
    exact sok_sub h
theorem ms_strip {m : Mo} : MtS K .V [m] (fun x xs H Q => ∃ a b, x = .str a ∧ xs = [.str b] ∧ a.length ≤ sizeLine ∧ Q (.str (Txt.stripChars a b)) H) fStrip := fun F H v vs x xs Qp Q s r r' h q => by
  obtain ⟨w, y, rfl, rfl, t⟩ := AL.one r'
  unfold fStrip at h
  split at h
  · rename_i a b e
    cases e
    obtain ⟨rfl, sa⟩ := r.str
    obtain ⟨rfl, sb⟩ := t.str
    exact ⟨a, b, rfl, rfl, sa.1, q F H _ _ (.refl s) (R.str (sok_strip sa)) h⟩
  · exact h.elim
end
end Pf

namespace Pf
open PySem PySem.Spec PyProof.Rows L2
section
variable {K : PySem.W.Frag} {W : WX} {k : Rk} {ro : Bool}
theorem RL.emp {F : Hp} {vs : List V} {xs : List P} (r : RL K F vs xs) : vs.isEmpty = xs.isEmpty := by cases r <;> rfl
theorem st_truth {ta : TE} {wa : WE} (ha : SE K W .C ta wa) : ST K W (fun σ H Q => ta σ H fun x H' => ∃ k, TruV K x H' k ∧ Q k H') (wTr wa) := fun F0 H0 σ F H env Qp Xp Q g hw hx q =>
  ha F0 H0 σ F H env _ Xp _ g hw hx fun F1 H1 v x m r h1 => by
    cases x with
    | bl b =>
      obtain ⟨b', rfl, e, h1⟩ := onB_of r (show onB (.bl b) Qp from h1)
      cases e
      exact ⟨b, rfl, q F1 H1 b m h1⟩
    | non =>
      have e : v = .non := by
        rcases r with r | ⟨_, _, _, _, c⟩
        · cases r; rfl
        · exact c.elim
      subst e
      exact ⟨false, rfl, q F1 H1 _ m h1⟩
    | int i =>
      have e : v = .int i := by
        rcases r with r | ⟨_, _, _, _, c⟩
        · cases r; rfl
        · exact c.elim
      subst e
      exact ⟨_, rfl, q F1 H1 _ m h1⟩
    | str z =>
      obtain ⟨rfl, sz⟩ := r.str
      exact ⟨_, ⟨sz.1, rfl⟩, q F1 H1 _ m h1⟩
    | lst xs =>
      obtain ⟨a, vs, rfl, ha, rl⟩ := Tp.lst m.fh r
      exact ⟨_, .inl ⟨vs, SqL.of ha, by rw [rl.emp]⟩, q F1 H1 _ m h1⟩
    | tup xs =>
      obtain ⟨ys, a, vs, e, rfl, ha, rl, h1⟩ := onTup_of m.fh r (show onTup (.tup xs) (fun ys => Qp (!ys.isEmpty)) from h1)
      exact ⟨_, .inr (.inl ⟨vs, SqT.of (m.fh _ _ ha), by rw [rl.emp]⟩), q F1 H1 _ m h1⟩
    | _ => exact (show False from h1).elim
end
theorem kit_self {K : PySem.W.Frag} {C : Addr} : PySem.W.kitOne K (.ref C) (.ref C) = some true := by
  unfold PySem.W.kitOne
  rw [if_pos (beq_iff_eq.mpr rfl)]
theorem kit_ref {K : PySem.W.Frag} {C D : Addr} {b : Bool} (hs : PySem.W.subIn K (.ref C) (.ref C) = some true) (h : PySem.W.subIn K (.ref C) (.ref D) = some b) (hd : PySem.W.hasDictIn K D = true) (ht : PySem.W.typeIn K (.ref D) = some (.type "type")) :
    PySem.W.kitOne K (.ref C) (.ref D) = some b := by
  obtain ⟨cd, hc, _⟩ := PySem.W.any_some hd
  have e2 : ((PySem.W.clsIn K D).isSome && PySem.W.typeIn K (.ref D) == some (.type "type")) = true := by rw [hc, ht] <;> rfl
  unfold PySem.W.kitOne
  by_cases e : (Value.ref C == Value.ref D) = true
  · obtain rfl : C = D := Value.ref.inj (beq_iff_eq.mp e)
    rw [hs] at h
    rw [if_pos e, h]
  · rw [if_neg e]
    show (if ((PySem.W.clsIn K D).isSome && PySem.W.typeIn K (.ref D) == some (.type "type")) = true then PySem.W.subIn K (.ref C) (.ref D) else none) = some b
    rw [if_pos e2]
    exact h
theorem kit_type {K : PySem.W.Frag} {C : Addr} {T : String} {b : Bool} (hk : PySem.W.kitMeta T = true) (h : PySem.W.subIn K (.ref C) (.type T) = some b) : PySem.W.kitOne K (.ref C) (.type T) = some b := by
  unfold PySem.W.kitOne
  rw [if_neg (by intro e; cases beq_iff_eq.mp e)]
  show (if PySem.W.kitMeta T = true then PySem.W.subIn K (.ref C) (.type T) else none) = some b
  rw [if_pos hk]
  exact h
theorem ap_fldR {C : Addr} {f : Str} {o : WE} {env : PEnv} {Q : P → Prop} {X : XP} : (wFldR C f o env Q X) = (o env (fun x => onIns C x fun ns xs => ∃ y, lookN ns xs f = some y ∧ Q y) X) := rfl
theorem ap_fldS {C : Addr} {i : Nat} {f : Str} {w : WE} {D : PEnds} {env : PEnv} : (wFldS C i f w D env) = (w env (fun y => match env[i]? with
  | some (some (.o, .slf a C' ns xs)) => C' = C ∧ ns.length < 1000 ∧ D.nx (env.set i (some (.o, .slf a C (putN ns f) (putX ns xs f y))))
  | _ => False) (D.ex env)) := rfl
theorem ap_prop {C : Addr} {p : PSp} {o : WE} {env : PEnv} {Q : P → Prop} {X : XP} : (wProp C p o env Q X) = (o env (fun x => onIns C x fun _ _ => p [x] Q noX) X) := rfl
theorem ap_meth {C : Addr} {n : Str} {p : PSp} {o : WE} {a : WA} {env : PEnv} {Q : P → Prop} {X : XP} : (wMeth C n p o a env Q X) = (o env (fun x => onIns C x fun ns _ => n ∉ ns ∧ a env (fun ys => p (x :: ys) Q noX) X) X) := rfl
theorem ap_insI {C : Addr} {ns : List Str} {xs : List P} {Q : List Str → List P → Prop} : (onIns C (.ins C ns xs) Q) = (Q ns xs) := propext ⟨fun h => h.2, fun h => ⟨rfl, h⟩⟩
theorem ap_insS {a C : Addr} {ns : List Str} {xs : List P} {Q : List Str → List P → Prop} : (onIns C (.slf a C ns xs) Q) = (Q ns xs) := propext ⟨fun h => h.2, fun h => ⟨rfl, h⟩⟩
theorem ap_selfO {a C : Addr} {ns : List Str} {xs : List P} {e : PEnv} {Q : P → Prop} : (selfO a (some (.o, .slf a C ns xs) :: e) Q) = (Q (.ins C ns xs)) := propext ⟨fun h => h.2, fun h => ⟨rfl, h⟩⟩
theorem ap_raise {C : Addr} {ns : List Str} {a : WA} {D : PEnds} {env : PEnv} : (wRaise C ns a D env) = (a env (fun xs => D.ex env C ns xs) (D.ex env)) := rfl
theorem ap_try {C : Addr} {i : Nat} {b : WS} {s : Addr → Option Addr → WS} {D : PEnds} {env : PEnv} : (wTry C i b s D env) =
  (b { D with ex := fun e C' ns xs => C' = C ∧ ∀ (a : Addr) (d : Option Addr), (ns ≠ [] → d.isSome = true) → s a d ⟨fun e' => D.nx (e'.set i none), D.rt, fun e' => D.bk (e'.set i none), fun e' => D.ct (e'.set i none), fun _ => noX⟩ (e.set i (some (.v, .exc a d C' ns xs))) } env) := rfl
theorem ap_xf {a C : Addr} {d : Option Addr} {f : Str} {o : WE} {env : PEnv} {Q : P → Prop} {X : XP} : (wXf a d C f o env Q X) = (o env (fun x => ∃ ns xs y, x = .exc a d C ns xs ∧ lookN ns xs f = some y ∧ Q y) X) := rfl
theorem ap_isD {a C : Addr} {d : Option Addr} {c : P} {b : Bool} {n : Str} {ns : List Str} {ys : List P} {Q : P → Prop} : (fIsD a d C c b [.exc a d C (n :: ns) ys, c] Q) = (Q (.bl b)) :=
  propext ⟨fun ⟨_, _, _, _, q⟩ => q, fun q => ⟨_, _, rfl, by simp, q⟩⟩
theorem ap_lenO {C : Addr} {p : PSp} {x : P} {Q : P → Prop} : (fLenO C p [x] Q) = (onIns C x fun _ _ => p [x] (fun y => onInt y fun k => 0 ≤ k ∧ k < 2 ^ 63 ∧ Q (.int k)) noX) :=
  propext ⟨fun ⟨y, e, h⟩ => by cases e; exact h, fun h => ⟨_, rfl, h⟩⟩
theorem ap_eqO {C : Addr} {p : PSp} {x y : P} {Q : P → Prop} : (fEqO C p x y Q) = (onIns C x fun _ _ => onIns C y fun _ _ => p [x, y] (fun z => onB z fun b => Q (.bl b)) noX) := rfl
theorem ap_isO {C : Addr} {x : P} {Q : P → Prop} : (fIsO C [x, .adr C] Q) = (onIns C x fun _ _ => Q (.bl true)) := propext ⟨fun ⟨y, e, h⟩ => by cases e; exact h, fun h => ⟨_, rfl, h⟩⟩
theorem ap_iown {C : Addr} {f : Str} {o : WE} {env : PEnv} {Q : List P → Prop} {X : XP} : (wIOwn C f o env Q X) = (o env (fun x => onIns C x fun ns xs => ∃ rs, lookN ns xs f = some (.lst rs) ∧ Q rs) X) := rfl
theorem ap_dget2 {d y x : WE} {env : PEnv} {Q : P → Prop} {X : XP} : (wDGet2 d y x env Q X) = (d env (fun a => onDct a fun ks xs => y env (fun z => x env (fun u => onKey z fun k => Q ((valP ks xs k).getD u)) X) X) X) := rfl
theorem ap_some {α : Type} {a : α} {Q : α → Prop} : (∃ y, some a = some y ∧ Q y) = Q a := propext ⟨fun ⟨_, e, q⟩ => by cases e; exact q, fun q => ⟨a, rfl, q⟩⟩
theorem ap_xfE {a C : Addr} {d : Option Addr} {ns0 : List Str} {xs0 : List P} {f : Str} {Q : P → Prop} : (∃ ns xs y, P.exc a d C ns0 xs0 = P.exc a d C ns xs ∧ lookN ns xs f = some y ∧ Q y) = (∃ y, lookN ns0 xs0 f = some y ∧ Q y) :=
  propext ⟨fun ⟨_, _, y, e, h⟩ => by cases e; exact ⟨y, h⟩, fun ⟨y, h⟩ => ⟨_, _, y, rfl, h⟩⟩
theorem ap_lkh {n : Str} {ns : List Str} {x : P} {xs : List P} : lookN (n :: ns) (x :: xs) n = some x := by simp [lookN]
theorem ap_onT_b {b : Bool} {Q : Bool → Prop} : (onT (.bl b) Q) = (Q b) := rfl
theorem ap_onT_n {Q : Bool → Prop} : (onT .non Q) = (Q false) := rfl
theorem ap_onT_i {i : Int} {Q : Bool → Prop} : (onT (.int i) Q) = (Q (i != 0)) := rfl
theorem ap_onT_s {z : Str} {Q : Bool → Prop} : (onT (.str z) Q) = (Q ((z.length : Int) != 0)) := rfl
theorem ap_onT_l {xs : List P} {Q : Bool → Prop} : (onT (.lst xs) Q) = (Q (!xs.isEmpty)) := rfl
theorem ap_onT_t {xs : List P} {Q : Bool → Prop} : (onT (.tup xs) Q) = (Q (!xs.isEmpty)) := rfl
end Pf

namespace Pf
open PySem PySem.Spec PyProof.Rows L2
theorem Fun.kbn {K : PySem.W.Frag} {x qual : Str} {st : Stmt} {f : Addr} {fd : FuncData} {ps : List Str} (F : Fun K x qual st f fd) (n : Nat) (k : Str)
    (h : ∀ (kV doc pm : Value) (an : Option Addr) (cdv ct : Value) (us : List Value) (w : Value), us.length = n → bindArgs (PySem.W.fnOf x qual (defArgs st) (defBody st) (defScope st) .none kV doc pm an cdv ct) ⟨us, [(k, w)]⟩ = pure (ps.zip (us ++ [w]))) :
    KBn K fd ps n [k] (fun us ws => us ++ ws) (fun vs zs => vs ++ zs) := by
  obtain ⟨oc, od, kV, doc, pm, an, cdv, ct, osl, rfl, lk, hcd⟩ := F.ex
  refine ⟨fun s us ws X l1 l2 => ?_, fun r1 r2 => r1.append r2⟩
  match ws, l2 with
  | [w], _ => exact .of_eq (h kV doc pm an cdv ct us w l1)
theorem kdef_mk {K : PySem.W.Frag} {x qual k : Str} {st : Stmt} {D : Addr} {doc pm cdv ct u : Value} {an : Option Addr} {ps : List Str} {v : V} (hn : PySem.W.nsIn K D k = some (some u)) (hr : RelV v u) (n : Nat) (hl : ps.length = n + 1)
    (h : ∀ (us ks : List Value), us.length = n → ks.length = 1 → KwChain D (List.zip [k] ks) (bindArgs (PySem.W.fnOf x qual (defArgs st) (defBody st) (defScope st) .none (.ref D) doc pm an cdv ct) ⟨us, []⟩) (ps.zip (us ++ ks))) :
    ∃ ds, Vals [v] ds ∧ Binds K (PySem.W.fnOf x qual (defArgs st) (defBody st) (defScope st) .none (.ref D) doc pm an cdv ct) ps ds := by
  refine ⟨[u], .cons hr .nil, fun s us X hlen => ?_⟩
  have l2 : us.length = n := by
    rw [List.length_append, hl] at hlen
    simpa using hlen
  refine BindsTo.of_looks fun M => KwChain.looks X (fun q hq => ?_) (h us [u] l2 rfl)
  have hq : q ∈ [(k, u)] := hq
  rw [List.mem_singleton.mp hq]
  exact hn
section
variable {X : Cx} {CX : CXT} {kk n : Nat} {f : Addr} {fd : FuncData} {ps ks : List Str} {sp : Sp} {x : Str} {p pos : Pos} {e : Expr} {es : List Expr} {kws : List Keyword} {t tk : TA} {g : List Value → List Value → List Value} {gV : List V → List V → List V}
/-- what is raised: wished for at the caller's slots -/
def tCallNS (n m : Nat) (sp : Sp) (gV : List V → List V → List V) (E : L2.St → XK) (t tk : TA) : TE := fun σ H Q => t σ H fun vs H1 => tk σ H1 fun zs H2 => vs.length = n ∧ zs.length = m ∧ sp (gV vs zs) H2 Q (E σ)
theorem run_fnNS {E : L2.St → XK} {pins : List (Addr × Obj)} {σ : L2.St} {H : Hp} {s : Shared} {Q : VK} {us ws : List Value} {vs zs : List V} (F : FnOk X.prog X.w X.K X.mg X.base CX kk f fd ps sp) (hr : Room kk X.A) (hb : KBn X.K fd ps n ks g gV) (hx : PassesAt CX X σ (E σ))
    (I : Inv X pins σ H s) (r : Vals vs us) (rz : Vals zs ws) (l1 : vs.length = n) (l2 : zs.length = ks.length) (h : sp (gV vs zs) H Q (E σ)) : wpAny (model X.prog X.w) X.A (call (.ref f) us (ks.zip ws)) (EP X pins σ Q) X.xe s := by
  have r2 := hb.rel r rz
  refine wpAny_call (codeAny_mono (F.run X.A X.stack s H ⟨us, ks.zip ws⟩ (g us ws) (gV vs zs) Q (E σ) hr I.env0 (hb.to s us ws I.kIn (r.length.symm.trans l1) (rz.length.symm.trans l2)) r2 h) fun r s' hq => ?_)
  cases r with
  | error e => exact hx pins H s e s' I hq
  | ok fl =>
    cases fl with
    | ret u => exact I.after hq
    | next => exact False.elim hq
    | brk => exact False.elim hq
    | cont => exact False.elim hq
theorem pe_callNS {E : L2.St → XK} (F : FnOk X.prog X.w X.K X.mg X.base CX kk f fd ps sp) (hr : Room kk X.A) (hg : Gl X x) (hm : X.mg x = some (.ref f)) (hk : PySem.W.keepIn X.K (.ref f) = true) (hb : KBn X.K fd ps n ks g gV) (hx : ∀ σ, PassesAt CX X σ (E σ))
    (ha : PA X (e :: es) t) (hkw : PK X kws tk) (hall : (backToKw pos (keywordEach kws X.env)).all (·.1.isSome) = true := by rfl) (hks : (backToKw pos (keywordEach kws X.env)).filterMap (·.1) = ks := by rfl)
    (hdb : (x == ("__debug__" : Str)) = false := by decide) (he : starEach (e :: es) X.env = (false, eval e X.env) :: starEach es X.env := by rfl)
    (hpl : ((backTo pos (starEach (e :: es) X.env)).any (·.1) || (backToKw pos (keywordEach kws X.env)).any (·.1.isNone)) = false := by rfl) :
    PE X (.Call (.Name x p) (e :: es) kws pos) (tCallNS n ks.length sp gV E t tk) := by
  refine ⟨fun pins s σ H Q I h => ?_⟩
  refine wpAny_Call_Name_kw (ld_glob I hg hm ?_ hdb)
  refine PySem.W.callWith_KW (h₀ := X.base) I.ok.mod.kin hk hall (thn (ha.run pos pins s σ H _ I h) fun us s1 ⟨vs, H1, I1, r, q⟩ => ?_) hpl he
  refine thn (hkw.run pos pins s1 σ H1 _ I1 q) fun ws s2 ⟨zs, H2, I2, rz, l1, l2, q2⟩ => ⟨I2.kIn, ?_⟩
  rw [hks]
  exact run_fnNS F hr hb (hx σ) I2 r rz l1 l2 q2
theorem pe_callDS {E : L2.St → XK} {dvs : List V} (F : FnOk X.prog X.w X.K X.mg X.base CX kk f fd ps sp) (hr : Room kk X.A) (hg : Gl X x) (hm : X.mg x = some (.ref f)) (hk : PySem.W.keepIn X.K (.ref f) = true) (hb : ∃ ds, Vals dvs ds ∧ Binds X.K fd ps ds) (hx : ∀ σ, PassesAt CX X σ (E σ))
    (ha : PA X (e :: es) t) (hdb : (x == ("__debug__" : Str)) = false := by decide) (he : starEach (e :: es) X.env = (false, eval e X.env) :: starEach es X.env := by rfl) (hpl : (backTo pos (starEach es X.env)).any (·.1) = false := by rfl) :
    PE X (.Call (.Name x p) (e :: es) [] pos) (tCallSD sp dvs E t) := by
  obtain ⟨ds, h1, h2⟩ := hb
  exact pe_callSD F hr hg hm hk h2 h1 hx ha hdb he hpl
end
section
variable {K : PySem.W.Frag} {W : WX} {k : Rk} {ro : Bool}
theorem AL.app {F H : Hp} : ∀ {ms ms' : List Mo} {vs vs' : List V} {xs xs' : List P}, AL K F H ms vs xs → AL K F H ms' vs' xs' → AL K F H (ms ++ ms') (vs ++ vs') (xs ++ xs')
  | [], _, [], _, [], _, _, h => h
  | .v :: _, _, _ :: _, _, _ :: _, _, ⟨h1, h2⟩, h => ⟨h1, AL.app h2 h⟩
  | .b :: _, _, _ :: _, _, _ :: _, _, ⟨h1, h2⟩, h => ⟨h1, AL.app h2 h⟩
def wCallN0 (p : PSp) (a b : WA) : WE := fun env Q X => a env (fun xs => b env (fun ys => p (xs ++ ys) Q noX) X) X
def wCallNX (p : PSp) (a b : WA) : WE := fun env Q X => a env (fun xs => b env (fun ys => p (xs ++ ys) Q X) X) X
theorem se_callN0 {ms mk : List Mo} {p : PSp} {E : XK} {n m : Nat} {t tk : TA} {w wk : WA} (h : SimA K W ms t w) (hk : SimA K W mk tk wk) (hn : ms.length = n) (hm : mk.length = m) : SE K W (rkOf ro) (tCallN n m (spOf K (ms ++ mk) ro p) (fun vs zs => vs ++ zs) E t tk) (wCallN0 p w wk) :=
  fun F0 H0 σ F H env Qp Xp Q g hw hx q => h F0 H0 σ F H env _ Xp _ g hw hx fun F1 H1 vs xs m1 r1 h1 =>
    hk F0 H0 σ F1 H1 env _ Xp _ (g.mv m1) h1 (hx.mv m1) fun F2 H2 zs ys m2 r2 h2 =>
      ⟨by have := r1.lens; omega, by have := r2.lens; omega, F2, xs ++ ys, Qp, noX, m2.fh, (r1.mv m2).app r2, h2, fun F3 H3 v x m3 r3 h3 => q F3 H3 v x ((m1.trans m2).trans m3) (rel_back (m1.s.trans m2.s) r3.rel) h3, fun _ _ _ _ _ _ _ _ z => z.elim⟩
theorem se_callNS {ms mk : List Mo} {p : PSp} {n m : Nat} {t tk : TA} {w wk : WA} (h : SimA K W ms t w) (hk : SimA K W mk tk wk) (hn : ms.length = n) (hm : mk.length = m) : SE K W (rkOf ro) (tCallNS n m (spOf K (ms ++ mk) ro p) (fun vs zs => vs ++ zs) (fun σ => L2.WE W σ) t tk) (wCallNX p w wk) :=
  fun F0 H0 σ F H env Qp Xp Q g hw hx q => h F0 H0 σ F H env _ Xp _ g hw hx fun F1 H1 vs xs m1 r1 h1 =>
    hk F0 H0 σ F1 H1 env _ Xp _ (g.mv m1) h1 (hx.mv m1) fun F2 H2 zs ys m2 r2 h2 =>
      ⟨by have := r1.lens; omega, by have := r2.lens; omega, F2, xs ++ ys, Qp, Xp, m2.fh, (r1.mv m2).app r2, h2, fun F3 H3 v x m3 r3 h3 => q F3 H3 v x ((m1.trans m2).trans m3) (rel_back (m1.s.trans m2.s) r3.rel) h3, fun F' H' C d ns ys m f z => hx F' H' C d ns ys ((m1.trans m2).trans m) f z⟩
def wCallDX (p : PSp) (d : P) (a : WA) : WE := fun env Q X => a env (fun xs => p (xs ++ [d]) Q X) X
theorem se_callDS {ms : List Mo} {p : PSp} {i : Int} {t : TA} {w : WA} (h : SimA K W ms t w) : SE K W (rkOf ro) (tCallSD (spOf K (ms ++ [.v]) ro p) [.int i] (fun σ => L2.WE W σ) t) (wCallDX p (.int i) w) :=
  fun F0 H0 σ F H env Qp Xp Q g hw hx q => h F0 H0 σ F H env _ Xp _ g hw hx fun F1 H1 vs xs m1 r1 h1 =>
    ⟨F1, xs ++ [.int i], Qp, Xp, m1.fh, r1.app ⟨R.int i, trivial⟩, h1, fun F2 H2 v x m2 r2 h2 => q F2 H2 v x (m1.trans m2) (rel_back m1.s r2.rel) h2, fun F' H' C d ns ys m f z => hx F' H' C d ns ys (m1.trans m) f z⟩
theorem ap_aug {i : Nat} {f : Int → Int → Int} {w : WE} {D : PEnds} {env : PEnv} : (wAug i f w D env) = (match env[i]? with
  | some (some (.v, .int a)) => w env (fun y => onInt y fun b => D.nx (env.set i (some (.v, .int (f a b))))) (D.ex env)
  | _ => False) := rfl
theorem ap_callN0 {p : PSp} {a b : WA} {env : PEnv} {Q : P → Prop} {X : XP} : (wCallN0 p a b env Q X) = (a env (fun xs => b env (fun ys => p (xs ++ ys) Q noX) X) X) := rfl
theorem ap_callNX {p : PSp} {a b : WA} {env : PEnv} {Q : P → Prop} {X : XP} : (wCallNX p a b env Q X) = (a env (fun xs => b env (fun ys => p (xs ++ ys) Q X) X) X) := rfl
theorem ap_callDX {p : PSp} {d : P} {a : WA} {env : PEnv} {Q : P → Prop} {X : XP} : (wCallDX p d a env Q X) = (a env (fun xs => p (xs ++ [d]) Q X) X) := rfl
end
end Pf

namespace Pf
open PySem PySem.Spec PyProof.Rows L2
abbrev il (ns : List Int) : P := .lst (ns.map P.int)
abbrev tl (ns : List Int) : P := .tup (ns.map P.int)
abbrev sl (zs : List Str) : P := .lst (zs.map P.str)
abbrev rowP (r : Int × Str) : P := .tup [.int r.1, .str r.2]
abbrev rl (rs : List (Int × Str)) : P := .lst (rs.map rowP)
/-- a deed -/
abbrev ddP (d : Int × List Int) : P := .tup [.int d.1, tl d.2]
abbrev iiP (d : Int × Int) : P := .tup [.int d.1, .int d.2]
/-- one value read back -/
class VE {α : Type} (enc : α → P) (x : P) (a : outParam α) : Prop where
  eq : x = enc a
class ML (xs : List P) (α : outParam Type) (enc : outParam (α → P)) (l : outParam (List α)) : Prop where
  eq : xs = l.map enc
class EL {α : Type} (enc : α → P) (xs : List P) (l : outParam (List α)) : Prop where
  eq : xs = l.map enc
instance (priority := low) ve_self {α : Type} {enc : α → P} {a : α} : VE enc (enc a) a := ⟨rfl⟩
instance ve_i {n : Int} : VE P.int (.int n) n := ⟨rfl⟩
instance ve_s {n : Str} : VE P.str (.str n) n := ⟨rfl⟩
instance ve_b {n : Bool} : VE P.bl (.bl n) n := ⟨rfl⟩
instance ve_r {n : Int} {z : Str} : VE rowP (.tup [.int n, .str z]) (n, z) := ⟨rfl⟩
instance ve_ii {n m : Int} : VE iiP (.tup [.int n, .int m]) (n, m) := ⟨rfl⟩
instance ve_il {xs : List P} {l : List Int} [h : EL P.int xs l] : VE il (.lst xs) l := ⟨by rw [h.eq]⟩
instance ve_tl {xs : List P} {l : List Int} [h : EL P.int xs l] : VE tl (.tup xs) l := ⟨by rw [h.eq]⟩
instance ve_sl {xs : List P} {l : List Str} [h : EL P.str xs l] : VE sl (.lst xs) l := ⟨by rw [h.eq]⟩
instance ve_rl {xs : List P} {l : List (Int × Str)} [h : EL rowP xs l] : VE rl (.lst xs) l := ⟨by rw [h.eq]⟩
instance ve_d {n : Int} {xs : List P} {l : List Int} [h : EL P.int xs l] : VE ddP (.tup [.int n, .tup xs]) (n, l) := ⟨by rw [h.eq]⟩
instance (priority := low) ml_map {α : Type} {enc : α → P} {l : List α} : ML (List.map enc l) α enc l := ⟨rfl⟩
instance ml_i {l : List Int} : ML (List.map P.int l) Int P.int l := ⟨rfl⟩
instance ml_s {l : List Str} : ML (List.map P.str l) Str P.str l := ⟨rfl⟩
instance ml_b {l : List Bool} : ML (List.map P.bl l) Bool P.bl l := ⟨rfl⟩
instance ml_r {l : List (Int × Str)} : ML (List.map rowP l) (Int × Str) rowP l := ⟨rfl⟩
instance (priority := mid) ml_if {α : Type} {l : List α} {h : α → Int} : ML (List.map (fun a => P.int (h a)) l) Int P.int (l.map h) := ⟨by rw [List.map_map]; rfl⟩
instance (priority := mid) ml_sf {α : Type} {l : List α} {h : α → Str} : ML (List.map (fun a => P.str (h a)) l) Str P.str (l.map h) := ⟨by rw [List.map_map]; rfl⟩
instance (priority := mid) ml_bf {α : Type} {l : List α} {h : α → Bool} : ML (List.map (fun a => P.bl (h a)) l) Bool P.bl (l.map h) := ⟨by rw [List.map_map]; rfl⟩
instance (priority := mid) ml_rf {α : Type} {l : List α} {h : α → Int} {k : α → Str} : ML (List.map (fun a => P.tup [.int (h a), .str (k a)]) l) (Int × Str) rowP (l.map fun a => (h a, k a)) := ⟨by rw [List.map_map]; rfl⟩
instance (priority := mid) ml_iif {α : Type} {l : List α} {h k : α → Int} : ML (List.map (fun a => P.tup [.int (h a), .int (k a)]) l) (Int × Int) iiP (l.map fun a => (h a, k a)) := ⟨by rw [List.map_map]; rfl⟩
instance ml_i1 {n : Int} : ML [P.int n] Int P.int [n] := ⟨rfl⟩
instance ml_s1 {n : Str} : ML [P.str n] Str P.str [n] := ⟨rfl⟩
instance ml_b1 {n : Bool} : ML [P.bl n] Bool P.bl [n] := ⟨rfl⟩
instance ml_r1 {n : Int} {z : Str} : ML [P.tup [.int n, .str z]] (Int × Str) rowP [(n, z)] := ⟨rfl⟩
instance ml_r1' {r : Int × Str} : ML [rowP r] (Int × Str) rowP [r] := ⟨rfl⟩
instance ml_ii1 {n m : Int} : ML [P.tup [.int n, .int m]] (Int × Int) iiP [(n, m)] := ⟨rfl⟩
instance ml_d1 {n : Int} {xs : List P} {l : List Int} [h : EL P.int xs l] : ML [P.tup [.int n, .tup xs]] (Int × List Int) ddP [(n, l)] := ⟨by rw [h.eq]; rfl⟩
instance ml_il1 {xs : List P} {l : List Int} [h : ML xs Int P.int l] : ML [P.lst xs] (List Int) il [l] := ⟨by rw [h.eq]; rfl⟩
instance ml_ic {n : Int} {xs : List P} {l : List Int} [h : ML xs Int P.int l] : ML (P.int n :: xs) Int P.int (n :: l) := ⟨by rw [h.eq]; rfl⟩
instance ml_sc {n : Str} {xs : List P} {l : List Str} [h : ML xs Str P.str l] : ML (P.str n :: xs) Str P.str (n :: l) := ⟨by rw [h.eq]; rfl⟩
instance ml_bc {n : Bool} {xs : List P} {l : List Bool} [h : ML xs Bool P.bl l] : ML (P.bl n :: xs) Bool P.bl (n :: l) := ⟨by rw [h.eq]; rfl⟩
instance (priority := mid) ml_cons {x : P} {xs : List P} {α : Type} {enc : α → P} {a : α} {l : List α} [h : ML xs α enc l] [v : VE enc x a] : ML (x :: xs) α enc (a :: l) := ⟨by rw [h.eq, v.eq]; rfl⟩
instance (priority := mid) ml_snoc {xs : List P} {x : P} {α : Type} {enc : α → P} {l : List α} {a : α} [h : ML xs α enc l] [v : VE enc x a] : ML (xs ++ [x]) α enc (l ++ [a]) := ⟨by rw [h.eq, v.eq, List.map_append]; rfl⟩
instance (priority := low) ml_app {xs ys : List P} {α : Type} {enc : α → P} {l m : List α} [h : ML xs α enc l] [h' : EL enc ys m] : ML (xs ++ ys) α enc (l ++ m) := ⟨by rw [h.eq, h'.eq, List.map_append]⟩
instance el_nil {α : Type} {enc : α → P} : EL enc [] [] := ⟨rfl⟩
instance (priority := low) el_ml {xs : List P} {α : Type} {enc : α → P} {l : List α} [h : ML xs α enc l] : EL enc xs l := ⟨h.eq⟩
instance ml_set {xs : List P} {x : P} {j : Nat} {α : Type} {enc : α → P} {l : List α} {a : α} [h : ML xs α enc l] [v : VE enc x a] : ML (xs.set j x) α enc (l.set j a) := ⟨by rw [h.eq, v.eq, List.map_set]⟩
instance ml_rep {xs : List P} {n : Nat} {α : Type} {enc : α → P} {l : List α} [h : ML xs α enc l] : ML (List.replicate n xs).flatten α enc (List.replicate n l).flatten := ⟨by rw [h.eq, List.map_flatten, List.map_replicate]⟩
/-- lo, lo + 1, .. as ints -/
def rgI (lo : Int) (n : Nat) : List Int := (List.range n).map fun (i : Nat) => lo + (i : Int)
theorem rng_eq {lo : Int} {n : Nat} : rng lo n = (rgI lo n).map P.int := by unfold rng rgI; rw [List.map_map]; rfl
instance ml_rng {lo : Int} {n : Nat} : ML (rng lo n) Int P.int (rgI lo n) := ⟨rng_eq⟩
instance ml_enum {xs : List P} {α : Type} {enc : α → P} {l : List α} [h : ML xs α enc l] : ML (enumP xs) (α × Nat) (fun p => .tup [.int (p.2 : Int), enc p.1]) l.zipIdx := ⟨by
  rw [h.eq]
  refine List.ext_getElem? fun i => ?_
  rw [List.getElem?_map, List.getElem?_zipIdx]
  cases e : l[i]? with
  | none =>
    rw [List.getElem?_eq_none]; rfl
    rw [enumP_len, List.length_map]; exact List.getElem?_eq_none_iff.mp e
  | some a => rw [enumP_at (x := enc a) (by rw [List.getElem?_map, e]; rfl)]; simp⟩
/-- a slice -/
def cutL {α : Type} (xs : List α) (lo hi : Option Int) : List α := (xs.drop (HT.sIx xs.length 0 lo)).take (HT.sIx xs.length xs.length hi - HT.sIx xs.length 0 lo)
instance ml_cut {xs : List P} {lo hi : Option Int} {α : Type} {enc : α → P} {l : List α} [h : ML xs α enc l] : ML (cutP xs lo hi) α enc (cutL l lo hi) := ⟨by
  rw [h.eq]; unfold cutP cutL; rw [List.length_map, List.map_take, List.map_drop]⟩
theorem cutL_hi {α : Type} {xs : List α} {j : Int} (h : 0 ≤ j) : cutL xs none (some j) = xs.take j.toNat := by
  have e : j = ((j.toNat : Nat) : Int) := by omega
  unfold cutL
  rw [e, HT.sIx_nat, HT.sIx_none, Int.toNat_natCast, List.drop_zero, Nat.sub_zero]
  rcases Nat.le_total j.toNat xs.length with h1 | h1
  · rw [Nat.min_eq_left h1]
  · rw [Nat.min_eq_right h1, List.take_of_length_le (Nat.le_refl _), List.take_of_length_le h1]
/-- places -/
def ixOk (n : Nat) (i : Int) : Prop := -(n : Int) ≤ i ∧ i < n
def ixj (n : Nat) (i : Int) : Nat := if 0 ≤ i then i.toNat else (i + n).toNat
def gx {α : Type} [Inhabited α] (l : List α) (i : Int) : α := (l[ixj l.length i]?).getD default
theorem ixN_some {n j : Nat} {i : Int} : ixN n i = some j ↔ ixOk n i ∧ j = ixj n i := by
  unfold ixN ixOk ixj
  constructor
  · intro h
    split at h <;> split at h <;> first | (cases h; done) | (rename_i h1 h2; cases h; refine ⟨⟨by omega, by omega⟩, ?_⟩; first | rw [if_pos h1] | rw [if_neg h1])
  · rintro ⟨h, rfl⟩
    split
    · exact if_pos h.2
    · exact if_pos h.1
theorem ap_ixN {n : Nat} {i : Int} {Q : Nat → Prop} : (∃ j, ixN n i = some j ∧ Q j) = (ixOk n i ∧ Q (ixj n i)) := by
  refine propext ⟨fun ⟨j, h, q⟩ => ?_, fun ⟨h, q⟩ => ⟨_, ixN_some.mpr ⟨h, rfl⟩, q⟩⟩
  obtain ⟨h1, rfl⟩ := ixN_some.mp h
  exact ⟨h1, q⟩
theorem ixj_lt {n : Nat} {i : Int} (h : ixOk n i) : ixj n i < n := by
  unfold ixOk at h; unfold ixj; split <;> omega
theorem gx_mem {α : Type} [Inhabited α] {l : List α} {i : Int} (h : ixOk l.length i) : gx l i ∈ l := by
  unfold gx
  rw [List.getElem?_eq_getElem (ixj_lt h)]
  exact List.getElem_mem _
theorem ap_at {α : Type} [Inhabited α] {enc : α → P} {l : List α} {i : Int} {Q : P → Prop} : (∃ z, atI (l.map enc) i = some z ∧ Q z) = (ixOk l.length i ∧ Q (enc (gx l i))) := by
  unfold atI
  rw [List.length_map]
  refine propext ⟨fun ⟨z, h, q⟩ => ?_, fun ⟨h, q⟩ => ⟨_, ?_, q⟩⟩
  · cases e : ixN l.length i with
    | none => rw [e] at h; cases h
    | some j =>
      rw [e] at h
      obtain ⟨h1, rfl⟩ := ixN_some.mp e
      have h2 := ixj_lt h1
      have h : (l.map enc)[ixj l.length i]? = some z := h
      rw [List.getElem?_map, List.getElem?_eq_getElem h2] at h
      refine ⟨h1, ?_⟩
      unfold gx
      rw [List.getElem?_eq_getElem h2]
      cases h
      exact q
  · rw [ixN_some.mpr ⟨h, rfl⟩]
    show (l.map enc)[ixj l.length i]? = _
    unfold gx
    rw [List.getElem?_map, List.getElem?_eq_getElem (ixj_lt h)]
    rfl
theorem gx_nn {α : Type} [Inhabited α] {l : List α} {i : Int} (h : 0 ≤ i) : gx l i = (l[i.toNat]?).getD default := by unfold gx ixj; rw [if_pos h]
theorem gx_get {α : Type} [Inhabited α] {l : List α} {i : Nat} (h : i < l.length) : gx l (i : Int) = l[i] := by
  rw [gx_nn (by omega), Int.toNat_natCast, List.getElem?_eq_getElem h]; rfl
theorem gx_last {α : Type} [Inhabited α] {l : List α} {a : α} : gx (l ++ [a]) (-1) = a := by
  unfold gx ixj
  rw [if_neg (by decide), List.length_append, List.length_singleton, show ((-1 : Int) + ((l.length + 1 : Nat) : Int)).toNat = l.length by omega, List.getElem?_append_right (Nat.le_refl _), Nat.sub_self]
  rfl
theorem gx_map {α β : Type} [Inhabited α] [Inhabited β] {f : α → β} {l : List α} {i : Int} (h : ixOk l.length i) : gx (l.map f) i = f (gx l i) := by
  unfold gx
  rw [List.length_map, List.getElem?_map, List.getElem?_eq_getElem (ixj_lt h)]
  rfl
theorem gx_rg {lo i : Int} {n : Nat} (h0 : 0 ≤ i) (h1 : i < n) : gx (rgI lo n) i = lo + i := by
  rw [gx_nn h0]
  unfold rgI
  rw [List.getElem?_map, List.getElem?_eq_getElem (by rw [List.length_range]; omega)]
  simp
  omega
def callP (p : PSp) (xs : List P) (Q : P → Prop) (X : XP) : Prop := p xs Q X
class PAp (p : PSp) (xs : List P) (R : outParam ((P → Prop) → XP → Prop)) : Prop where
  eq : ∀ Q X, p xs Q X = R Q X
theorem ap_p {p : PSp} {xs : List P} {R : (P → Prop) → XP → Prop} [h : PAp p xs R] {Q : P → Prop} {X : XP} : callP p xs Q X = R Q X := h.eq Q X
theorem aq_call0 {p : PSp} {a : WA} {env : PEnv} {Q : P → Prop} {X : XP} : (wCall0 p a env Q X) = (a env (fun xs => callP p xs Q noX) X) := rfl
theorem aq_callX {p : PSp} {a : WA} {env : PEnv} {Q : P → Prop} {X : XP} : (wCallX p a env Q X) = (a env (fun xs => callP p xs Q X) X) := rfl
theorem aq_callN0 {p : PSp} {a b : WA} {env : PEnv} {Q : P → Prop} {X : XP} : (wCallN0 p a b env Q X) = (a env (fun xs => b env (fun ys => callP p (xs ++ ys) Q noX) X) X) := rfl
theorem aq_callNX {p : PSp} {a b : WA} {env : PEnv} {Q : P → Prop} {X : XP} : (wCallNX p a b env Q X) = (a env (fun xs => b env (fun ys => callP p (xs ++ ys) Q X) X) X) := rfl
theorem aq_callDX {p : PSp} {d : P} {a : WA} {env : PEnv} {Q : P → Prop} {X : XP} : (wCallDX p d a env Q X) = (a env (fun xs => callP p (xs ++ [d]) Q X) X) := rfl
theorem aq_prop {C : Addr} {p : PSp} {o : WE} {env : PEnv} {Q : P → Prop} {X : XP} : (wProp C p o env Q X) = (o env (fun x => onIns C x fun _ _ => callP p [x] Q noX) X) := rfl
theorem aq_meth {C : Addr} {n : Str} {p : PSp} {o : WE} {a : WA} {env : PEnv} {Q : P → Prop} {X : XP} : (wMeth C n p o a env Q X) = (o env (fun x => onIns C x fun ns _ => n ∉ ns ∧ a env (fun ys => callP p (x :: ys) Q noX) X) X) := rfl
theorem aq_lenO {C : Addr} {p : PSp} {x : P} {Q : P → Prop} : (fLenO C p [x] Q) = (onIns C x fun _ _ => callP p [x] (fun y => onInt y fun k => 0 ≤ k ∧ k < 2 ^ 63 ∧ Q (.int k)) noX) := ap_lenO
theorem aq_eqO {C : Addr} {p : PSp} {x y : P} {Q : P → Prop} : (fEqO C p x y Q) = (onIns C x fun _ _ => onIns C y fun _ _ => callP p [x, y] (fun z => onB z fun b => Q (.bl b)) noX) := rfl
section
variable {xs ys : List P} {α β : Type} {enc : α → P} {enc2 : β → P} {l : List α} {Q : P → Prop}
theorem aq_fIxScr {l : List Int} {i : Int} : (fIxScr (.scr l) (.int i) Q) = (ixOk l.length i ∧ Q (.int (gx l i))) := by
  rw [ap_fIxScr]
  have h := ap_at (enc := P.int) (l := l) (i := i) (Q := Q)
  rw [← h]
  refine propext ⟨fun ⟨n, e, q⟩ => ⟨_, atI_map e, q⟩, fun ⟨z, e, q⟩ => ?_⟩
  obtain ⟨h1, h2⟩ : ixOk l.length i ∧ Q (.int (gx l i)) := by rw [← h]; exact ⟨z, e, q⟩
  refine ⟨gx l i, ?_, h2⟩
  unfold atI gx
  rw [ixN_some.mpr ⟨h1, rfl⟩]
  show l[ixj l.length i]? = _
  rw [List.getElem?_eq_getElem (ixj_lt h1)]
  rfl
/-- the greatest, the least -/
def maxI : List Int → Int
  | [] => 0
  | a :: l => l.foldl max a
def minI : List Int → Int
  | [] => 0
  | a :: l => l.foldl min a
theorem foldl_max : ∀ (l : List Int) (a : Int), (l.foldl max a = a ∨ l.foldl max a ∈ l) ∧ a ≤ l.foldl max a ∧ ∀ x ∈ l, x ≤ l.foldl max a
  | [], a => ⟨.inl rfl, Int.le_refl _, by simp⟩
  | b :: l, a => by
    obtain ⟨h1, h2, h3⟩ := foldl_max l (max a b)
    rw [List.foldl_cons]
    refine ⟨?_, by omega, fun x hx => ?_⟩
    · rcases h1 with h1 | h1
      · rw [h1]
        rcases Int.le_total a b with h | h
        · right; rw [Int.max_eq_right h]; exact List.mem_cons_self
        · left; exact Int.max_eq_left h
      · right; exact List.mem_cons_of_mem _ h1
    · rcases List.mem_cons.mp hx with rfl | hx
      · omega
      · exact h3 x hx
theorem foldl_min : ∀ (l : List Int) (a : Int), (l.foldl min a = a ∨ l.foldl min a ∈ l) ∧ l.foldl min a ≤ a ∧ ∀ x ∈ l, l.foldl min a ≤ x
  | [], a => ⟨.inl rfl, Int.le_refl _, by simp⟩
  | b :: l, a => by
    obtain ⟨h1, h2, h3⟩ := foldl_min l (min a b)
    rw [List.foldl_cons]
    refine ⟨?_, by omega, fun x hx => ?_⟩
    · rcases h1 with h1 | h1
      · rw [h1]
        rcases Int.le_total a b with h | h
        · left; exact Int.min_eq_left h
        · right; rw [Int.min_eq_right h]; exact List.mem_cons_self
      · right; exact List.mem_cons_of_mem _ h1
    · rcases List.mem_cons.mp hx with rfl | hx
      · omega
      · exact h3 x hx
theorem maxI_mem {l : List Int} (h : 0 < l.length) : maxI l ∈ l := by
  cases l with
  | nil => exact absurd h (Nat.lt_irrefl _)
  | cons a l =>
    rcases (foldl_max l a).1 with h | h
    · exact List.mem_cons.mpr (.inl h)
    · exact List.mem_cons_of_mem _ h
theorem le_maxI {l : List Int} {x : Int} (h : x ∈ l) : x ≤ maxI l := by
  cases l with
  | nil => cases h
  | cons a l =>
    rcases List.mem_cons.mp h with rfl | h
    · exact (foldl_max l _).2.1
    · exact (foldl_max l a).2.2 x h
theorem minI_mem {l : List Int} (h : 0 < l.length) : minI l ∈ l := by
  cases l with
  | nil => exact absurd h (Nat.lt_irrefl _)
  | cons a l =>
    rcases (foldl_min l a).1 with h | h
    · exact List.mem_cons.mpr (.inl h)
    · exact List.mem_cons_of_mem _ h
theorem minI_le {l : List Int} {x : Int} (h : x ∈ l) : minI l ≤ x := by
  cases l with
  | nil => cases h
  | cons a l =>
    rcases List.mem_cons.mp h with rfl | h
    · exact (foldl_min l _).2.1
    · exact (foldl_min l a).2.2 x h
theorem maxI_eq {l : List Int} {m : Int} (h1 : m ∈ l) (h2 : ∀ x ∈ l, x ≤ m) : maxI l = m :=
  Int.le_antisymm (h2 _ (maxI_mem (List.length_pos_of_mem h1))) (le_maxI h1)
theorem minI_eq {l : List Int} {m : Int} (h1 : m ∈ l) (h2 : ∀ x ∈ l, m ≤ x) : minI l = m :=
  Int.le_antisymm (minI_le h1) (h2 _ (minI_mem (List.length_pos_of_mem h1)))
theorem int_inj {a b : List Int} : (List.map P.int a = List.map P.int b) = (a = b) :=
  propext (List.map_inj_right fun x y e => P.int.inj e)
theorem str_inj {a b : List Str} : (List.map P.str a = List.map P.str b) = (a = b) :=
  propext (List.map_inj_right fun x y e => P.str.inj e)
theorem bl_inj {a b : List Bool} : (List.map P.bl a = List.map P.bl b) = (a = b) :=
  propext (List.map_inj_right fun x y e => P.bl.inj e)
theorem row_inj1 {x y : Int × Str} (e : rowP x = rowP y) : x = y := by
  obtain ⟨a, b⟩ := x
  obtain ⟨c, d⟩ := y
  simpa [rowP] using e
theorem row_inj {a b : List (Int × Str)} : (List.map rowP a = List.map rowP b) = (a = b) :=
  propext (List.map_inj_right fun x y e => row_inj1 e)
theorem ii_inj1 {x y : Int × Int} (e : iiP x = iiP y) : x = y := by
  obtain ⟨a, b⟩ := x
  obtain ⟨c, d⟩ := y
  simpa [iiP] using e
theorem ii_inj {a b : List (Int × Int)} : (List.map iiP a = List.map iiP b) = (a = b) :=
  propext (List.map_inj_right fun x y e => ii_inj1 e)
theorem dd_inj1 {x y : Int × List Int} (e : ddP x = ddP y) : x = y := by
  obtain ⟨a, b⟩ := x
  obtain ⟨c, d⟩ := y
  simp only [ddP, P.tup.injEq, List.cons.injEq, P.int.injEq, int_inj, and_true] at e
  rw [e.1, e.2]
theorem dd_inj {a b : List (Int × List Int)} : (List.map ddP a = List.map ddP b) = (a = b) :=
  propext (List.map_inj_right fun x y e => dd_inj1 e)
theorem il_inj {a b : List (List Int)} : (List.map il a = List.map il b) = (a = b) :=
  propext (List.map_inj_right fun x y e => by simpa [int_inj] using e)
theorem tl_inj {a b : List (List Int)} : (List.map tl a = List.map tl b) = (a = b) :=
  propext (List.map_inj_right fun x y e => by simpa [int_inj] using e)
theorem aq_fMax {l : List Int} [h : ML xs Int P.int l] : (fMax [.lst xs] Q) = (0 < l.length ∧ Q (.int (maxI l))) := by
  unfold fMax
  rw [h.eq]
  simp only [List.cons.injEq, P.lst.injEq, int_inj, and_true, exists_eq_left']
  exact propext ⟨fun h => ⟨h.1, h.2 _ (maxI_mem h.1) fun y hy => le_maxI hy⟩, fun h => ⟨h.1, fun m h1 h2 => by rw [← maxI_eq h1 h2]; exact h.2⟩⟩
theorem aq_fMin {l : List Int} [h : ML xs Int P.int l] : (fMin [.lst xs] Q) = (0 < l.length ∧ Q (.int (minI l))) := by
  unfold fMin
  rw [h.eq]
  simp only [List.cons.injEq, P.lst.injEq, int_inj, and_true, exists_eq_left']
  exact propext ⟨fun h => ⟨h.1, h.2 _ (minI_mem h.1) fun y hy => minI_le hy⟩, fun h => ⟨h.1, fun m h1 h2 => by rw [← minI_eq h1 h2]; exact h.2⟩⟩
theorem aq_fSum {l : List Int} [h : EL P.int xs l] : (fSum [.lst xs] Q) = Q (.int l.sum) := by
  unfold fSum
  rw [h.eq]
  simp only [List.cons.injEq, P.lst.injEq, int_inj, and_true, exists_eq_left']
/-- sorted ints -/
def sortI (l : List Int) : List Int := l.mergeSort fun a b => decide (a ≤ b)
theorem sortI_perm (l : List Int) : (sortI l).Perm l := List.mergeSort_perm _ _
theorem sortI_pw (l : List Int) : (sortI l).Pairwise (· ≤ ·) := by
  have h := List.pairwise_mergeSort (le := fun (a b : Int) => decide (a ≤ b)) (fun a b c => by simp; omega) (fun a b => by simp; omega) l
  exact h.imp fun h => of_decide_eq_true h
theorem sorted_one : ∀ {a b : List Int}, a.Perm b → a.Pairwise (· ≤ ·) → b.Pairwise (· ≤ ·) → a = b := fun {a b} p ha hb => p.eq_of_pairwise (fun x y _ _ h1 h2 => Int.le_antisymm h1 h2) ha hb
theorem aq_fSortI {l : List Int} [h : EL P.int xs l] : (fSortI [.lst xs] Q) = Q (il (sortI l)) := by
  unfold fSortI
  rw [h.eq]
  simp only [List.cons.injEq, P.lst.injEq, int_inj, and_true, exists_eq_left']
  refine propext ⟨fun h => h _ (sortI_perm l) (sortI_pw l), fun h ms p hs => ?_⟩
  rw [sorted_one (p.trans (sortI_perm l).symm) hs (sortI_pw l)]
  exact h
/-- truth, length -/
theorem map_emp {f : α → β} {l : List α} : (l.map f).isEmpty = l.isEmpty := by cases l <;> rfl
class EQ (x y : P) (b : outParam Bool) (d : outParam Nat) : Prop where
  d1 : datB x = true
  d2 : datB y = true
  p1 : (toD x).depth ≤ d
  p2 : (toD y).depth ≤ d
  e : eqP x y = b
class EQs (x y : List P) (b : outParam Bool) (d : outParam Nat) : Prop where
  d1 : datBs x = true
  d2 : datBs y = true
  p1 : PyData.depthAll (toDs x) ≤ d
  p2 : PyData.depthAll (toDs y) ≤ d
  e : PyData.eqvAll (toDs x) (toDs y) = b
theorem aq_fEqD {x y : P} {b : Bool} {d : Nat} [h : EQ x y b d] (hd : d ≤ 63) : (fEqD x y Q) = Q (.bl b) := by
  unfold fEqD shP
  rw [h.d1, h.d2, decide_eq_true (Nat.le_trans h.p1 (Nat.le_trans hd (by decide))), decide_eq_true (Nat.le_trans h.p2 (Nat.le_trans hd (by decide))), h.e]
  simp
instance eq_i {a b : Int} : EQ (.int a) (.int b) (decide (a = b)) 0 := ⟨rfl, rfl, Nat.le_refl _, Nat.le_refl _, by unfold eqP; rw [toD, toD, PyData.eqv, Bool.eq_iff_iff]; simp⟩
instance eq_s {a b : Str} : EQ (.str a) (.str b) (decide (a = b)) 0 := ⟨rfl, rfl, Nat.le_refl _, Nat.le_refl _, by unfold eqP; rw [toD, toD, PyData.eqv, Bool.eq_iff_iff]; simp⟩
instance eq_si {a : Str} {b : Int} : EQ (.str a) (.int b) false 0 := ⟨rfl, rfl, Nat.le_refl _, Nat.le_refl _, rfl⟩
instance eq_is {a : Int} {b : Str} : EQ (.int a) (.str b) false 0 := ⟨rfl, rfl, Nat.le_refl _, Nat.le_refl _, rfl⟩
instance eqs_n : EQs [] [] true 0 := ⟨rfl, rfl, Nat.le_refl _, Nat.le_refl _, rfl⟩
instance eqs_nc {x : P} {xs : List P} {a b : Bool} {d e : Nat} [h : EQ x x a d] [hs : EQs xs xs b e] : EQs [] (x :: xs) false (max d e) := ⟨rfl, by rw [datBs, h.d1, hs.d1]; rfl, Nat.zero_le _, by rw [toDs, PyData.depthAll]; have := h.p1; have := hs.p1; omega, rfl⟩
instance eqs_cn {x : P} {xs : List P} {a b : Bool} {d e : Nat} [h : EQ x x a d] [hs : EQs xs xs b e] : EQs (x :: xs) [] false (max d e) := ⟨by rw [datBs, h.d1, hs.d1]; rfl, rfl, by rw [toDs, PyData.depthAll]; have := h.p1; have := hs.p1; omega, Nat.zero_le _, rfl⟩
instance eqs_c {x y : P} {xs ys : List P} {a b : Bool} {d e : Nat} [h : EQ x y a d] [hs : EQs xs ys b e] : EQs (x :: xs) (y :: ys) (a && b) (max d e) := ⟨by rw [datBs, h.d1, hs.d1]; rfl, by rw [datBs, h.d2, hs.d2]; rfl,
  by rw [toDs, PyData.depthAll]; have := h.p1; have := hs.p1; omega, by rw [toDs, PyData.depthAll]; have := h.p2; have := hs.p2; omega, by
    have h1 := h.e
    unfold eqP at h1
    rw [toDs, toDs, PyData.eqvAll, h1, hs.e]⟩
instance eq_t {xs ys : List P} {b : Bool} {d : Nat} [h : EQs xs ys b d] : EQ (.tup xs) (.tup ys) b (d + 1) := ⟨by rw [datB]; exact h.d1, by rw [datB]; exact h.d2, by rw [toD, PyData.depth]; exact Nat.succ_le_succ h.p1, by rw [toD, PyData.depth]; exact Nat.succ_le_succ h.p2, by unfold eqP; rw [toD, toD, PyData.eqv]; exact h.e⟩
instance eq_l {xs ys : List P} {b : Bool} {d : Nat} [h : EQs xs ys b d] : EQ (.lst xs) (.lst ys) b (d + 1) := ⟨by rw [datB]; exact h.d1, by rw [datB]; exact h.d2, by rw [toD, PyData.depth]; exact Nat.succ_le_succ h.p1, by rw [toD, PyData.depth]; exact Nat.succ_le_succ h.p2, by unfold eqP; rw [toD, toD, PyData.eqv]; exact h.e⟩
/-- what is compared by its parts alone -/
class DE {α : Type} [DecidableEq α] (enc : α → P) (d : outParam Nat) : Prop where
  eq : ∀ a b, EQ (enc a) (enc b) (decide (a = b)) d
instance de_i : DE P.int 0 := ⟨fun a b => eq_i⟩
instance de_s : DE P.str 0 := ⟨fun a b => eq_s⟩
theorem EQ.to {x y : P} {a b : Bool} {d : Nat} (h : EQ x y a d) (e : a = b) : EQ x y b d := e ▸ h
instance de_r : DE rowP 1 := ⟨fun a b => (eq_t (xs := [.int a.1, .str a.2]) (ys := [.int b.1, .str b.2])).to (by
  rw [Bool.eq_iff_iff]; simp [Prod.ext_iff])⟩
instance de_ii : DE iiP 1 := ⟨fun a b => (eq_t (xs := [.int a.1, .int a.2]) (ys := [.int b.1, .int b.2])).to (by
  rw [Bool.eq_iff_iff]; simp [Prod.ext_iff])⟩
theorem eqs_map {α : Type} [DecidableEq α] {enc : α → P} {d : Nat} (h : DE enc d) : ∀ (a b : List α), EQs (a.map enc) (b.map enc) (decide (a = b)) d
  | [], [] => ⟨rfl, rfl, Nat.zero_le _, Nat.zero_le _, rfl⟩
  | x :: a, [] => by
    have h1 := h.eq x x
    have h2 := eqs_map h a []
    exact ⟨by rw [List.map_cons, datBs, h1.d1, h2.d1]; rfl, rfl, by rw [List.map_cons, toDs, PyData.depthAll]; have := h1.p1; have := h2.p1; omega, Nat.zero_le _, rfl⟩
  | [], x :: a => by
    have h1 := h.eq x x
    have h2 := eqs_map h a []
    exact ⟨rfl, by rw [List.map_cons, datBs, h1.d1, h2.d1]; rfl, Nat.zero_le _, by rw [List.map_cons, toDs, PyData.depthAll]; have := h1.p1; have := h2.p1; omega, rfl⟩
  | x :: a, y :: b => by
    have h1 := h.eq x y
    have h2 := eqs_map h a b
    have h3 := h1.e
    unfold eqP at h3
    refine ⟨by rw [List.map_cons, datBs, h1.d1, h2.d1]; rfl, by rw [List.map_cons, datBs, h1.d2, h2.d2]; rfl, by rw [List.map_cons, toDs, PyData.depthAll]; have := h1.p1; have := h2.p1; omega, by rw [List.map_cons, toDs, PyData.depthAll]; have := h1.p2; have := h2.p2; omega, ?_⟩
    rw [List.map_cons, List.map_cons, toDs, toDs, PyData.eqvAll, h3, h2.e, Bool.eq_iff_iff]
    simp
termination_by a b => a.length + b.length
instance (priority := high) eq_ml {α : Type} [DecidableEq α] {enc : α → P} {l m : List α} {d : Nat} [h : ML xs α enc l] [h' : EL enc ys m] [k : DE enc d] : EQ (.lst xs) (.lst ys) (decide (l = m)) (d + 1) := by
  have e := eqs_map k l m
  rw [h.eq, h'.eq]
  exact eq_l
instance (priority := high) eq_mt {α : Type} [DecidableEq α] {enc : α → P} {l m : List α} {d : Nat} [h : ML xs α enc l] [h' : EL enc ys m] [k : DE enc d] : EQ (.tup xs) (.tup ys) (decide (l = m)) (d + 1) := by
  have e := eqs_map k l m
  rw [h.eq, h'.eq]
  exact eq_t
instance de_il : DE il 1 := ⟨fun a b => eq_ml⟩
instance de_tl : DE tl 1 := ⟨fun a b => eq_mt⟩
instance de_dd : DE ddP 2 := ⟨fun a b => by
  have h := eqs_map de_i a.2 b.2
  have h2 : EQ (.tup (a.2.map P.int)) (.tup (b.2.map P.int)) (decide (a.2 = b.2)) 1 := eq_t
  exact (eq_t (xs := [.int a.1, .tup (a.2.map P.int)]) (ys := [.int b.1, .tup (b.2.map P.int)])).to (by
  rw [Bool.eq_iff_iff]; simp [Prod.ext_iff])⟩
class FE {α : Type} [DecidableEq α] (enc : α → P) : Prop where
  f : ∀ a, flatP (enc a) = true
  e : ∀ a b, eqF (enc a) (enc b) = decide (a = b)
instance fe_i : FE P.int := ⟨fun _ => rfl, fun a b => by rw [Bool.eq_iff_iff]; simp [eqF]⟩
instance fe_s : FE P.str := ⟨fun _ => rfl, fun a b => by rw [Bool.eq_iff_iff]; simp [eqF]⟩
theorem in_fe {α : Type} [DecidableEq α] {enc : α → P} (h : FE enc) (a : α) (l : List α) : (l.map enc).all flatP = true ∧ inP (enc a) (l.map enc) = decide (a ∈ l) := by
  refine ⟨?_, ?_⟩
  · rw [List.all_eq_true]
    intro x hx
    obtain ⟨b, _, rfl⟩ := List.mem_map.mp hx
    exact h.f b
  · unfold inP
    rw [List.any_map, Bool.eq_iff_iff, List.any_eq_true, decide_eq_true_eq]
    constructor
    · rintro ⟨b, hb, e⟩
      have : b = a := by simpa [h.e] using e
      exact this ▸ hb
    · intro hb
      exact ⟨a, hb, by simp [h.e]⟩
theorem aq_fInL {x : P} {n : Bool} {α : Type} [DecidableEq α] {enc : α → P} {l : List α} {a : α} [h : ML xs α enc l] [v : VE enc x a] [k : FE enc] : (fIn n x (.lst xs) Q) = Q (.bl (if n then !decide (a ∈ l) else decide (a ∈ l))) := by
  obtain ⟨h1, h2⟩ := in_fe k a l
  rw [ap_fInL, v.eq, h.eq, k.f, h1, h2]
  simp
theorem aq_fInT {x : P} {n : Bool} {α : Type} [DecidableEq α] {enc : α → P} {l : List α} {a : α} [h : ML xs α enc l] [v : VE enc x a] [k : FE enc] : (fIn n x (.tup xs) Q) = Q (.bl (if n then !decide (a ∈ l) else decide (a ∈ l))) := by
  obtain ⟨h1, h2⟩ := in_fe k a l
  rw [ap_fInT, v.eq, h.eq, k.f, h1, h2]
  simp
theorem aq_fInL0 {x : P} {n : Bool} (h : flatP x = true) : (fIn n x (.lst []) Q) = Q (.bl (if n then true else false)) := by
  rw [ap_fInL, h]
  cases n <;> simp [inP]
end
section
variable {g : P → PEnv → (PEnv → Prop) → Prop} {te : WE} {tt : WT} {vs : List Nat} {env : PEnv} {Q : P → Prop} {xs : List P} {α : Type} {enc : α → P} {l : List α}
/-- [f a for a in l] -/
theorem lcM [h : ML xs α enc l] (f : α → P) (hl : l.length ≤ 1000000) (hs : ∀ a, a ∈ l → ∀ Q : P → Prop, Q (f a) → g (enc a) (wipeP env vs) fun e => te e Q noX') (hd : Q (.lst (l.map f))) : LcB xs g (fun _ Q _ => Q true) te vs env Q := by
  rw [h.eq]
  refine lc_all (ys := l.map f) (by simp) (sz (by simpa using hl)) (fun i x y Q hx hy hQ => ?_) hd
  rw [List.getElem?_map] at hx hy
  cases e : l[i]? with
  | none => rw [e] at hx; cases hx
  | some r =>
    rw [e] at hx hy
    cases hx
    cases hy
    exact hs r (List.mem_of_getElem? e) Q hQ
theorem lcI [h : ML xs α enc l] (f : α → Int) (hl : l.length ≤ 1000000) (hs : ∀ a, a ∈ l → ∀ Q : P → Prop, Q (.int (f a)) → g (enc a) (wipeP env vs) fun e => te e Q noX') (hd : Q (il (l.map f))) : LcB xs g (fun _ Q _ => Q true) te vs env Q :=
  lcM (fun a => .int (f a)) hl hs (by rw [show l.map (fun a => P.int (f a)) = (l.map f).map P.int by rw [List.map_map]; rfl]; exact hd)
theorem lcR [h : ML xs α enc l] (f : α → Int) (k : α → Str) (hl : l.length ≤ 1000000) (hs : ∀ a, a ∈ l → ∀ Q : P → Prop, Q (.tup [.int (f a), .str (k a)]) → g (enc a) (wipeP env vs) fun e => te e Q noX') (hd : Q (rl (l.map fun a => (f a, k a)))) : LcB xs g (fun _ Q _ => Q true) te vs env Q :=
  lcM (fun a => .tup [.int (f a), .str (k a)]) hl hs (by rw [show l.map (fun a => P.tup [.int (f a), .str (k a)]) = (l.map fun a => (f a, k a)).map rowP by rw [List.map_map]; rfl]; exact hd)
/-- [f a for a in l if c a] -/
theorem lcMf [h : ML xs α enc l] (c : α → Prop) (ci : DecidablePred c) (f : α → P) (hl : l.length ≤ 1000000)
    (hs : ∀ a, a ∈ l → ∀ (Q : P → Prop) (Q0 : Prop), (if c a then Q (f a) else Q0) → g (enc a) (wipeP env vs) fun e => tt e (fun b => if b = true then te e Q noX' else Q0) noX')
    (hd : Q (.lst ((l.filter fun a => decide (c a)).map f))) : LcB xs g tt te vs env Q := by
  rw [h.eq]
  refine ⟨fun i acc => acc = ((l.take i).filter fun a => decide (c a)).map f, by simp, fun i x acc hx ha => ?_, fun acc ha => ?_⟩
  · rw [List.getElem?_map] at hx
    cases e : l[i]? with
    | none => rw [e] at hx; cases hx
    | some a =>
      rw [e] at hx
      cases hx
      have hlen : acc.length ≤ i := by
        rw [ha, List.length_map]
        refine Nat.le_trans (List.length_filter_le _ _) ?_
        rw [List.length_take]; omega
      have hi : i < l.length := (List.getElem?_eq_some_iff.mp e).1
      have hz : i < sizeLine := szt (by omega)
      refine hs a (List.mem_of_getElem? e) (fun y => acc.length < sizeLine ∧ acc ++ [y] = ((l.take (i + 1)).filter fun a => decide (c a)).map f) (acc = ((l.take (i + 1)).filter fun a => decide (c a)).map f) ?_
      rw [List.take_add_one, e, List.filter_append, List.map_append, ← ha]
      split
      · rename_i hc
        exact ⟨by omega, by simp [hc]⟩
      · rename_i hc
        simp [hc]
  · rw [ha, List.length_map, List.take_length]
    exact hd
theorem lcIf [h : ML xs α enc l] (c : α → Prop) (ci : DecidablePred c) (f : α → Int) (hl : l.length ≤ 1000000)
    (hs : ∀ a, a ∈ l → ∀ (Q : P → Prop) (Q0 : Prop), (if c a then Q (.int (f a)) else Q0) → g (enc a) (wipeP env vs) fun e => tt e (fun b => if b = true then te e Q noX' else Q0) noX')
    (hd : Q (il ((l.filter fun a => decide (c a)).map f))) : LcB xs g tt te vs env Q :=
  lcMf c ci (fun a => .int (f a)) hl hs (by rw [show ((l.filter fun a => decide (c a)).map fun a => P.int (f a)) = ((l.filter fun a => decide (c a)).map f).map P.int by rw [List.map_map]; rfl]; exact hd)
theorem lcSf [h : ML xs α enc l] (c : α → Prop) (ci : DecidablePred c) (f : α → Str) (hl : l.length ≤ 1000000)
    (hs : ∀ a, a ∈ l → ∀ (Q : P → Prop) (Q0 : Prop), (if c a then Q (.str (f a)) else Q0) → g (enc a) (wipeP env vs) fun e => tt e (fun b => if b = true then te e Q noX' else Q0) noX')
    (hd : Q (sl ((l.filter fun a => decide (c a)).map f))) : LcB xs g tt te vs env Q :=
  lcMf c ci (fun a => .str (f a)) hl hs (by rw [show ((l.filter fun a => decide (c a)).map fun a => P.str (f a)) = ((l.filter fun a => decide (c a)).map f).map P.str by rw [List.map_map]; rfl]; exact hd)
/-- the items are not told one by one -/
theorem lcAny {β : Type} [h : ML xs α enc l] (f : β → P) (Pb : α → β → Prop) (hl : l.length ≤ 1000000)
    (hs : ∀ a, a ∈ l → ∀ Q : P → Prop, (∀ b, Pb a b → Q (f b)) → g (enc a) (wipeP env vs) fun e => te e Q noX') (hd : ∀ ys : List β, ys.length = l.length → (∀ (i : Nat) a b, l[i]? = some a → ys[i]? = some b → Pb a b) → Q (.lst (ys.map f))) : LcB xs g (fun _ Q _ => Q true) te vs env Q := by
  rw [h.eq]
  refine lc_any (fun i y => ∃ b, y = f b ∧ ∀ a, l[i]? = some a → Pb a b) (sz (by simpa using hl)) (fun i x Q hx hQ => ?_) fun ys hn hy => ?_
  · rw [List.getElem?_map] at hx
    cases e : l[i]? with
    | none => rw [e] at hx; cases hx
    | some a =>
      rw [e] at hx
      cases hx
      exact hs a (List.mem_of_getElem? e) Q fun b hb => hQ _ ⟨b, rfl, fun a2 e2 => by rw [e] at e2; cases e2; exact hb⟩
  · have key : ∀ (k : Nat) (m : List P), (∀ (i : Nat) y, m[i]? = some y → ∃ b, y = f b ∧ ∀ a, l[k + i]? = some a → Pb a b) → ∃ bs : List β, m = bs.map f ∧ ∀ (i : Nat) a b, l[k + i]? = some a → bs[i]? = some b → Pb a b := by
      intro k m
      induction m generalizing k with
      | nil => intro _; exact ⟨[], rfl, fun i a b _ h => by simp at h⟩
      | cons y m ih =>
        intro h
        obtain ⟨a, rfl, ha⟩ := h 0 _ rfl
        obtain ⟨bs, rfl, hb⟩ := ih (k + 1) fun i z hz => by
          have := h (i + 1) z hz
          rwa [show k + (i + 1) = k + 1 + i by omega] at this
        refine ⟨a :: bs, rfl, fun i a2 b e1 e2 => ?_⟩
        cases i with
        | zero => cases e2; exact ha _ e1
        | succ i => exact hb i a2 b (by rwa [show k + 1 + i = k + (i + 1) by omega]) e2
    obtain ⟨bs, rfl, hb⟩ := key 0 ys fun i y h => by simpa using hy i y h
    exact hd bs (by rw [List.length_map, List.length_map] at hn; exact hn) fun i a b e1 e2 => hb i a b (by simpa using e1) e2
end
/-- slots that may hold anything -/
def Any : List Nat → PEnv → PEnv → Prop
  | [], env, e => e = env
  | t :: ts, env, e => ∃ v, Any ts (env.set t v) e
theorem any_nil {env e : PEnv} : (Any [] env e) = (e = env) := rfl
theorem any_cons {t : Nat} {ts : List Nat} {env e : PEnv} : (Any (t :: ts) env e) = (∃ v, Any ts (env.set t v) e) := rfl
section
variable {g : P → PEnv → (PEnv → Prop) → Prop} {b : WS} {D : PEnds} {env : PEnv} {xs : List P} {α : Type} {enc : α → P} {l : List α}
/-- a loop over a list that is read back -/
theorem forM [h : ML xs α enc l] (Inv : Nat → PEnv → Prop) (h0 : Inv 0 env)
    (hs : ∀ (i : Nat) a e, l[i]? = some a → i < l.length → Inv i e → g (enc a) e fun e2 => b { D with nx := Inv (i + 1), ct := Inv (i + 1), bk := D.nx } e2) (hd : ∀ e, Inv l.length e → D.nx e) : ForB xs g b D env := by
  rw [h.eq]
  refine ⟨Inv, h0, fun i x e hx hI => ?_, fun e h => hd e (by rwa [List.length_map] at h)⟩
  rw [List.getElem?_map] at hx
  cases ea : l[i]? with
  | none => rw [ea] at hx; cases hx
  | some a =>
    rw [ea] at hx
    cases hx
    exact hs i a e ea (List.getElem?_eq_some_iff.mp ea).1 hI
/-- .. with one value that is gathered -/
theorem forA [h : ML xs α enc l] (ts : List Nat) (k : Nat) (m : Mo) {β : Type} (f : β → P) (I : Nat → β → Prop) (a0 : β) (h0 : I 0 a0) (he : Any ts (env.set k (some (m, f a0))) env)
    (hs : ∀ (i : Nat) a c e, l[i]? = some a → i < l.length → I i c → Any ts (env.set k (some (m, f c))) e → g (enc a) e fun e2 => b { D with nx := fun e3 => ∃ c, I (i + 1) c ∧ Any ts (env.set k (some (m, f c))) e3, ct := fun e3 => ∃ c, I (i + 1) c ∧ Any ts (env.set k (some (m, f c))) e3, bk := D.nx } e2)
    (hd : ∀ c e, I l.length c → Any ts (env.set k (some (m, f c))) e → D.nx e) : ForB xs g b D env :=
  forM (fun i e => ∃ c, I i c ∧ Any ts (env.set k (some (m, f c))) e) ⟨a0, h0, he⟩ (fun i a e h1 h2 ⟨c, h3, h4⟩ => hs i a c e h1 h2 h3 h4) fun e ⟨c, h1, h2⟩ => hd c e h1 h2
end
section
variable {a b : WS} {D : PEnds} {env : PEnv}
/-- one slot gets what has I -/
theorem cutA {β : Type} (i : Nat) (m : Mo) (f : β → P) (I : β → Prop) (h : a { D with nx := fun e => ∃ c, e = env.set i (some (m, f c)) ∧ I c } env) (hd : ∀ c, I c → b D (env.set i (some (m, f c)))) : wCut a b D env := ⟨_, h, fun _ ⟨c, e, hc⟩ => e ▸ hd c hc⟩
theorem cutI (i : Nat) (I : Int → Prop) (h : a { D with nx := fun e => ∃ c, e = env.set i (some (.v, .int c)) ∧ I c } env) (hd : ∀ c, I c → b D (env.set i (some (.v, .int c)))) : wCut a b D env := cutA i .v P.int I h hd
theorem cutA2 {β γ : Type} (i j : Nat) (m m2 : Mo) (f : β → P) (f2 : γ → P) (I : β → γ → Prop) (h : a { D with nx := fun e => ∃ c d, e = (env.set i (some (m, f c))).set j (some (m2, f2 d)) ∧ I c d } env) (hd : ∀ c d, I c d → b D ((env.set i (some (m, f c))).set j (some (m2, f2 d)))) : wCut a b D env := ⟨_, h, fun _ ⟨c, d, e, hc⟩ => e ▸ hd c d hc⟩
end
end Pf

namespace Pf
open PySem PySem.Spec PyProof.Rows L2
theorem gx_0 {α : Type} [Inhabited α] {a0 : α} {l : List α} : gx (a0 :: l) 0 = a0 := by rw [gx_nn (by decide)]; rfl
theorem gx_1 {α : Type} [Inhabited α] {a0 a1 : α} {l : List α} : gx (a0 :: a1 :: l) 1 = a1 := by rw [gx_nn (by decide)]; rfl
theorem gx_2 {α : Type} [Inhabited α] {a0 a1 a2 : α} {l : List α} : gx (a0 :: a1 :: a2 :: l) 2 = a2 := by rw [gx_nn (by decide)]; rfl
theorem gx_3 {α : Type} [Inhabited α] {a0 a1 a2 a3 : α} {l : List α} : gx (a0 :: a1 :: a2 :: a3 :: l) 3 = a3 := by rw [gx_nn (by decide)]; rfl
theorem gx_4 {α : Type} [Inhabited α] {a0 a1 a2 a3 a4 : α} {l : List α} : gx (a0 :: a1 :: a2 :: a3 :: a4 :: l) 4 = a4 := by rw [gx_nn (by decide)]; rfl
theorem gx_5 {α : Type} [Inhabited α] {a0 a1 a2 a3 a4 a5 : α} {l : List α} : gx (a0 :: a1 :: a2 :: a3 :: a4 :: a5 :: l) 5 = a5 := by rw [gx_nn (by decide)]; rfl
theorem gx_6 {α : Type} [Inhabited α] {a0 a1 a2 a3 a4 a5 a6 : α} {l : List α} : gx (a0 :: a1 :: a2 :: a3 :: a4 :: a5 :: a6 :: l) 6 = a6 := by rw [gx_nn (by decide)]; rfl
theorem gx_7 {α : Type} [Inhabited α] {a0 a1 a2 a3 a4 a5 a6 a7 : α} {l : List α} : gx (a0 :: a1 :: a2 :: a3 :: a4 :: a5 :: a6 :: a7 :: l) 7 = a7 := by rw [gx_nn (by decide)]; rfl
theorem gx_8 {α : Type} [Inhabited α] {a0 a1 a2 a3 a4 a5 a6 a7 a8 : α} {l : List α} : gx (a0 :: a1 :: a2 :: a3 :: a4 :: a5 :: a6 :: a7 :: a8 :: l) 8 = a8 := by rw [gx_nn (by decide)]; rfl
theorem gx_9 {α : Type} [Inhabited α] {a0 a1 a2 a3 a4 a5 a6 a7 a8 a9 : α} {l : List α} : gx (a0 :: a1 :: a2 :: a3 :: a4 :: a5 :: a6 :: a7 :: a8 :: a9 :: l) 9 = a9 := by rw [gx_nn (by decide)]; rfl
theorem gx_10 {α : Type} [Inhabited α] {a0 a1 a2 a3 a4 a5 a6 a7 a8 a9 a10 : α} {l : List α} : gx (a0 :: a1 :: a2 :: a3 :: a4 :: a5 :: a6 :: a7 :: a8 :: a9 :: a10 :: l) 10 = a10 := by rw [gx_nn (by decide)]; rfl
theorem gx_11 {α : Type} [Inhabited α] {a0 a1 a2 a3 a4 a5 a6 a7 a8 a9 a10 a11 : α} {l : List α} : gx (a0 :: a1 :: a2 :: a3 :: a4 :: a5 :: a6 :: a7 :: a8 :: a9 :: a10 :: a11 :: l) 11 = a11 := by rw [gx_nn (by decide)]; rfl
theorem gx_12 {α : Type} [Inhabited α] {a0 a1 a2 a3 a4 a5 a6 a7 a8 a9 a10 a11 a12 : α} {l : List α} : gx (a0 :: a1 :: a2 :: a3 :: a4 :: a5 :: a6 :: a7 :: a8 :: a9 :: a10 :: a11 :: a12 :: l) 12 = a12 := by rw [gx_nn (by decide)]; rfl
theorem gx_13 {α : Type} [Inhabited α] {a0 a1 a2 a3 a4 a5 a6 a7 a8 a9 a10 a11 a12 a13 : α} {l : List α} : gx (a0 :: a1 :: a2 :: a3 :: a4 :: a5 :: a6 :: a7 :: a8 :: a9 :: a10 :: a11 :: a12 :: a13 :: l) 13 = a13 := by rw [gx_nn (by decide)]; rfl
theorem gx_14 {α : Type} [Inhabited α] {a0 a1 a2 a3 a4 a5 a6 a7 a8 a9 a10 a11 a12 a13 a14 : α} {l : List α} : gx (a0 :: a1 :: a2 :: a3 :: a4 :: a5 :: a6 :: a7 :: a8 :: a9 :: a10 :: a11 :: a12 :: a13 :: a14 :: l) 14 = a14 := by rw [gx_nn (by decide)]; rfl
theorem gx_15 {α : Type} [Inhabited α] {a0 a1 a2 a3 a4 a5 a6 a7 a8 a9 a10 a11 a12 a13 a14 a15 : α} {l : List α} : gx (a0 :: a1 :: a2 :: a3 :: a4 :: a5 :: a6 :: a7 :: a8 :: a9 :: a10 :: a11 :: a12 :: a13 :: a14 :: a15 :: l) 15 = a15 := by rw [gx_nn (by decide)]; rfl
theorem gx_16 {α : Type} [Inhabited α] {a0 a1 a2 a3 a4 a5 a6 a7 a8 a9 a10 a11 a12 a13 a14 a15 a16 : α} {l : List α} : gx (a0 :: a1 :: a2 :: a3 :: a4 :: a5 :: a6 :: a7 :: a8 :: a9 :: a10 :: a11 :: a12 :: a13 :: a14 :: a15 :: a16 :: l) 16 = a16 := by rw [gx_nn (by decide)]; rfl
theorem gx_17 {α : Type} [Inhabited α] {a0 a1 a2 a3 a4 a5 a6 a7 a8 a9 a10 a11 a12 a13 a14 a15 a16 a17 : α} {l : List α} : gx (a0 :: a1 :: a2 :: a3 :: a4 :: a5 :: a6 :: a7 :: a8 :: a9 :: a10 :: a11 :: a12 :: a13 :: a14 :: a15 :: a16 :: a17 :: l) 17 = a17 := by rw [gx_nn (by decide)]; rfl
theorem gx_18 {α : Type} [Inhabited α] {a0 a1 a2 a3 a4 a5 a6 a7 a8 a9 a10 a11 a12 a13 a14 a15 a16 a17 a18 : α} {l : List α} : gx (a0 :: a1 :: a2 :: a3 :: a4 :: a5 :: a6 :: a7 :: a8 :: a9 :: a10 :: a11 :: a12 :: a13 :: a14 :: a15 :: a16 :: a17 :: a18 :: l) 18 = a18 := by rw [gx_nn (by decide)]; rfl
theorem gx_19 {α : Type} [Inhabited α] {a0 a1 a2 a3 a4 a5 a6 a7 a8 a9 a10 a11 a12 a13 a14 a15 a16 a17 a18 a19 : α} {l : List α} : gx (a0 :: a1 :: a2 :: a3 :: a4 :: a5 :: a6 :: a7 :: a8 :: a9 :: a10 :: a11 :: a12 :: a13 :: a14 :: a15 :: a16 :: a17 :: a18 :: a19 :: l) 19 = a19 := by rw [gx_nn (by decide)]; rfl
theorem gx_20 {α : Type} [Inhabited α] {a0 a1 a2 a3 a4 a5 a6 a7 a8 a9 a10 a11 a12 a13 a14 a15 a16 a17 a18 a19 a20 : α} {l : List α} : gx (a0 :: a1 :: a2 :: a3 :: a4 :: a5 :: a6 :: a7 :: a8 :: a9 :: a10 :: a11 :: a12 :: a13 :: a14 :: a15 :: a16 :: a17 :: a18 :: a19 :: a20 :: l) 20 = a20 := by rw [gx_nn (by decide)]; rfl
theorem gx_21 {α : Type} [Inhabited α] {a0 a1 a2 a3 a4 a5 a6 a7 a8 a9 a10 a11 a12 a13 a14 a15 a16 a17 a18 a19 a20 a21 : α} {l : List α} : gx (a0 :: a1 :: a2 :: a3 :: a4 :: a5 :: a6 :: a7 :: a8 :: a9 :: a10 :: a11 :: a12 :: a13 :: a14 :: a15 :: a16 :: a17 :: a18 :: a19 :: a20 :: a21 :: l) 21 = a21 := by rw [gx_nn (by decide)]; rfl
theorem gx_22 {α : Type} [Inhabited α] {a0 a1 a2 a3 a4 a5 a6 a7 a8 a9 a10 a11 a12 a13 a14 a15 a16 a17 a18 a19 a20 a21 a22 : α} {l : List α} : gx (a0 :: a1 :: a2 :: a3 :: a4 :: a5 :: a6 :: a7 :: a8 :: a9 :: a10 :: a11 :: a12 :: a13 :: a14 :: a15 :: a16 :: a17 :: a18 :: a19 :: a20 :: a21 :: a22 :: l) 22 = a22 := by rw [gx_nn (by decide)]; rfl
theorem gx_23 {α : Type} [Inhabited α] {a0 a1 a2 a3 a4 a5 a6 a7 a8 a9 a10 a11 a12 a13 a14 a15 a16 a17 a18 a19 a20 a21 a22 a23 : α} {l : List α} : gx (a0 :: a1 :: a2 :: a3 :: a4 :: a5 :: a6 :: a7 :: a8 :: a9 :: a10 :: a11 :: a12 :: a13 :: a14 :: a15 :: a16 :: a17 :: a18 :: a19 :: a20 :: a21 :: a22 :: a23 :: l) 23 = a23 := by rw [gx_nn (by decide)]; rfl
theorem gx_24 {α : Type} [Inhabited α] {a0 a1 a2 a3 a4 a5 a6 a7 a8 a9 a10 a11 a12 a13 a14 a15 a16 a17 a18 a19 a20 a21 a22 a23 a24 : α} {l : List α} : gx (a0 :: a1 :: a2 :: a3 :: a4 :: a5 :: a6 :: a7 :: a8 :: a9 :: a10 :: a11 :: a12 :: a13 :: a14 :: a15 :: a16 :: a17 :: a18 :: a19 :: a20 :: a21 :: a22 :: a23 :: a24 :: l) 24 = a24 := by rw [gx_nn (by decide)]; rfl
theorem gx_25 {α : Type} [Inhabited α] {a0 a1 a2 a3 a4 a5 a6 a7 a8 a9 a10 a11 a12 a13 a14 a15 a16 a17 a18 a19 a20 a21 a22 a23 a24 a25 : α} {l : List α} : gx (a0 :: a1 :: a2 :: a3 :: a4 :: a5 :: a6 :: a7 :: a8 :: a9 :: a10 :: a11 :: a12 :: a13 :: a14 :: a15 :: a16 :: a17 :: a18 :: a19 :: a20 :: a21 :: a22 :: a23 :: a24 :: a25 :: l) 25 = a25 := by rw [gx_nn (by decide)]; rfl
theorem gx_26 {α : Type} [Inhabited α] {a0 a1 a2 a3 a4 a5 a6 a7 a8 a9 a10 a11 a12 a13 a14 a15 a16 a17 a18 a19 a20 a21 a22 a23 a24 a25 a26 : α} {l : List α} : gx (a0 :: a1 :: a2 :: a3 :: a4 :: a5 :: a6 :: a7 :: a8 :: a9 :: a10 :: a11 :: a12 :: a13 :: a14 :: a15 :: a16 :: a17 :: a18 :: a19 :: a20 :: a21 :: a22 :: a23 :: a24 :: a25 :: a26 :: l) 26 = a26 := by rw [gx_nn (by decide)]; rfl
theorem gx_27 {α : Type} [Inhabited α] {a0 a1 a2 a3 a4 a5 a6 a7 a8 a9 a10 a11 a12 a13 a14 a15 a16 a17 a18 a19 a20 a21 a22 a23 a24 a25 a26 a27 : α} {l : List α} : gx (a0 :: a1 :: a2 :: a3 :: a4 :: a5 :: a6 :: a7 :: a8 :: a9 :: a10 :: a11 :: a12 :: a13 :: a14 :: a15 :: a16 :: a17 :: a18 :: a19 :: a20 :: a21 :: a22 :: a23 :: a24 :: a25 :: a26 :: a27 :: l) 27 = a27 := by rw [gx_nn (by decide)]; rfl
theorem gx_28 {α : Type} [Inhabited α] {a0 a1 a2 a3 a4 a5 a6 a7 a8 a9 a10 a11 a12 a13 a14 a15 a16 a17 a18 a19 a20 a21 a22 a23 a24 a25 a26 a27 a28 : α} {l : List α} : gx (a0 :: a1 :: a2 :: a3 :: a4 :: a5 :: a6 :: a7 :: a8 :: a9 :: a10 :: a11 :: a12 :: a13 :: a14 :: a15 :: a16 :: a17 :: a18 :: a19 :: a20 :: a21 :: a22 :: a23 :: a24 :: a25 :: a26 :: a27 :: a28 :: l) 28 = a28 := by rw [gx_nn (by decide)]; rfl
theorem gx_29 {α : Type} [Inhabited α] {a0 a1 a2 a3 a4 a5 a6 a7 a8 a9 a10 a11 a12 a13 a14 a15 a16 a17 a18 a19 a20 a21 a22 a23 a24 a25 a26 a27 a28 a29 : α} {l : List α} : gx (a0 :: a1 :: a2 :: a3 :: a4 :: a5 :: a6 :: a7 :: a8 :: a9 :: a10 :: a11 :: a12 :: a13 :: a14 :: a15 :: a16 :: a17 :: a18 :: a19 :: a20 :: a21 :: a22 :: a23 :: a24 :: a25 :: a26 :: a27 :: a28 :: a29 :: l) 29 = a29 := by rw [gx_nn (by decide)]; rfl
theorem gx_30 {α : Type} [Inhabited α] {a0 a1 a2 a3 a4 a5 a6 a7 a8 a9 a10 a11 a12 a13 a14 a15 a16 a17 a18 a19 a20 a21 a22 a23 a24 a25 a26 a27 a28 a29 a30 : α} {l : List α} : gx (a0 :: a1 :: a2 :: a3 :: a4 :: a5 :: a6 :: a7 :: a8 :: a9 :: a10 :: a11 :: a12 :: a13 :: a14 :: a15 :: a16 :: a17 :: a18 :: a19 :: a20 :: a21 :: a22 :: a23 :: a24 :: a25 :: a26 :: a27 :: a28 :: a29 :: a30 :: l) 30 = a30 := by rw [gx_nn (by decide)]; rfl
theorem gx_31 {α : Type} [Inhabited α] {a0 a1 a2 a3 a4 a5 a6 a7 a8 a9 a10 a11 a12 a13 a14 a15 a16 a17 a18 a19 a20 a21 a22 a23 a24 a25 a26 a27 a28 a29 a30 a31 : α} {l : List α} : gx (a0 :: a1 :: a2 :: a3 :: a4 :: a5 :: a6 :: a7 :: a8 :: a9 :: a10 :: a11 :: a12 :: a13 :: a14 :: a15 :: a16 :: a17 :: a18 :: a19 :: a20 :: a21 :: a22 :: a23 :: a24 :: a25 :: a26 :: a27 :: a28 :: a29 :: a30 :: a31 :: l) 31 = a31 := by rw [gx_nn (by decide)]; rfl
theorem gx_32 {α : Type} [Inhabited α] {a0 a1 a2 a3 a4 a5 a6 a7 a8 a9 a10 a11 a12 a13 a14 a15 a16 a17 a18 a19 a20 a21 a22 a23 a24 a25 a26 a27 a28 a29 a30 a31 a32 : α} {l : List α} : gx (a0 :: a1 :: a2 :: a3 :: a4 :: a5 :: a6 :: a7 :: a8 :: a9 :: a10 :: a11 :: a12 :: a13 :: a14 :: a15 :: a16 :: a17 :: a18 :: a19 :: a20 :: a21 :: a22 :: a23 :: a24 :: a25 :: a26 :: a27 :: a28 :: a29 :: a30 :: a31 :: a32 :: l) 32 = a32 := by rw [gx_nn (by decide)]; rfl
theorem gx_33 {α : Type} [Inhabited α] {a0 a1 a2 a3 a4 a5 a6 a7 a8 a9 a10 a11 a12 a13 a14 a15 a16 a17 a18 a19 a20 a21 a22 a23 a24 a25 a26 a27 a28 a29 a30 a31 a32 a33 : α} {l : List α} : gx (a0 :: a1 :: a2 :: a3 :: a4 :: a5 :: a6 :: a7 :: a8 :: a9 :: a10 :: a11 :: a12 :: a13 :: a14 :: a15 :: a16 :: a17 :: a18 :: a19 :: a20 :: a21 :: a22 :: a23 :: a24 :: a25 :: a26 :: a27 :: a28 :: a29 :: a30 :: a31 :: a32 :: a33 :: l) 33 = a33 := by rw [gx_nn (by decide)]; rfl
theorem gxm_0 {α : Type} [Inhabited α] {a0 : α} : gx [a0] (-1) = a0 := by unfold gx ixj; rfl
theorem gxm_1 {α : Type} [Inhabited α] {a0 a1 : α} : gx [a0, a1] (-1) = a1 := by unfold gx ixj; rfl
theorem gxm_2 {α : Type} [Inhabited α] {a0 a1 a2 : α} : gx [a0, a1, a2] (-1) = a2 := by unfold gx ixj; rfl
theorem gxm_3 {α : Type} [Inhabited α] {a0 a1 a2 a3 : α} : gx [a0, a1, a2, a3] (-1) = a3 := by unfold gx ixj; rfl
theorem sizeL : sizeLine = 16777216 := rfl
end Pf

namespace Pf
open PySem PySem.Spec PyProof.Rows L2
/-- drawn numbers: as many as sizes, each from 0 to below its size -/
def InB : List Int → List Int → Prop
  | [], [] => True
  | d :: ds, s :: ss => (0 ≤ d ∧ d < s) ∧ InB ds ss
  | _, _ => False
theorem InB.snoc : ∀ {ds ss : List Int} {d s : Int}, InB ds ss → 0 ≤ d → d < s → InB (ds ++ [d]) (ss ++ [s])
  | [], [], _, _, _, h0, h1 => ⟨⟨h0, h1⟩, trivial⟩
  | _ :: _, _ :: _, _, _, h, h0, h1 => ⟨h.1, InB.snoc h.2 h0 h1⟩
  | [], _ :: _, _, _, h, _, _ => h.elim
  | _ :: _, [], _, _, h, _, _ => h.elim
theorem InB.len : ∀ {ds ss : List Int}, InB ds ss → ds.length = ss.length
  | [], [], _ => rfl
  | _ :: _, _ :: _, h => by simp [InB.len h.2]
  | [], _ :: _, h => h.elim
  | _ :: _, [], h => h.elim
theorem InB.rep {n : Nat} {s : Int} : ∀ {ds : List Int}, InB ds (List.replicate n s) → ds.length = n ∧ ∀ d ∈ ds, 0 ≤ d ∧ d < s := by
  induction n with
  | zero => intro ds h; cases ds with
    | nil => exact ⟨rfl, by simp⟩
    | cons d r => exact h.elim
  | succ n ih => intro ds h; cases ds with
    | nil => exact h.elim
    | cons d r =>
      have h2 : (0 ≤ d ∧ d < s) ∧ InB r (List.replicate n s) := h
      obtain ⟨h3, h4⟩ := ih h2.2
      refine ⟨by simp [h3], ?_⟩
      intro x hx
      rcases List.mem_cons.mp hx with rfl | hx
      · exact h2.1
      · exact h4 x hx
theorem InB.cons {ds ss : List Int} {s : Int} (h : InB ds (s :: ss)) : ∃ d r, ds = d :: r ∧ 0 ≤ d ∧ d < s ∧ InB r ss := by
  cases ds with
  | nil => exact h.elim
  | cons d r => exact ⟨d, r, rfl, h.1.1, h.1.2, h.2⟩
theorem InB.nil {ds : List Int} (h : InB ds []) : ds = [] := by
  cases ds with
  | nil => rfl
  | cons d r => exact h.elim
theorem InB.at : ∀ {ds ss : List Int} {i : Nat} {s : Int}, InB ds ss → ss[i]? = some s → ∃ d, ds[i]? = some d ∧ 0 ≤ d ∧ d < s
  | [], [], _, _, _, e => by simp at e
  | d :: ds, s :: ss, 0, _, h, e => by cases e; exact ⟨d, rfl, h.1.1, h.1.2⟩
  | d :: ds, s :: ss, i + 1, _, h, e => InB.at (ds := ds) (ss := ss) (i := i) h.2 e
  | [], _ :: _, _, _, h, _ => h.elim
  | _ :: _, [], _, _, h, _ => h.elim
/-- the drawn number at a written place -/
theorem InB.get {ds ss : List Int} {k : Int} {s : Int} (h : InB ds ss) (h0 : 0 ≤ k) (e : ss[k.toNat]? = some s) : ∃ d, ds[k.toNat]? = some d ∧ atI (ds.map P.int) k = some (.int d) ∧ 0 ≤ d ∧ d < s := by
  obtain ⟨d, e1, e2, e3⟩ := h.at e
  exact ⟨d, e1, at_nn h0 (by rw [List.getElem?_map, e1]; rfl), e2, e3⟩
theorem rgI_len {lo : Int} {n : Nat} : (rgI lo n).length = n := by simp [rgI]
theorem rgI_at {lo : Int} {n i : Nat} (h : i < n) : (rgI lo n)[i]? = some (lo + (i : Int)) := by simp [rgI, h]
theorem rgI_mem {lo d : Int} {n : Nat} : d ∈ rgI lo n ↔ lo ≤ d ∧ d < lo + n := by
  unfold rgI
  rw [List.mem_map]
  constructor
  · rintro ⟨i, hi, rfl⟩
    have := List.mem_range.mp hi
    omega
  · intro h
    exact ⟨(d - lo).toNat, List.mem_range.mpr (by omega), by omega⟩
theorem il_len {ns : List Int} : (ns.map P.int).length = ns.length := List.length_map ..
theorem il_snoc {a : List Int} {n : Int} : P.lst (a.map P.int ++ [P.int n]) = il (a ++ [n]) := by unfold il; rw [List.map_append]; rfl
def ChP (p : Nat → Prop) (z : Str) : Prop := ∀ c ∈ z.cps.toList, p c
theorem ChP.app {p : Nat → Prop} {a b : Str} (ha : ChP p a) (hb : ChP p b) : ChP p (a ++ b) := by
  intro c hc
  have e : (a ++ b).cps.toList = a.cps.toList ++ b.cps.toList := by
    show (a.cps ++ b.cps).toList = _
    simp
  rw [e] at hc
  rcases List.mem_append.mp hc with h | h
  · exact ha c h
  · exact hb c h
theorem ChP.cut {p : Nat → Prop} {a : Str} {lo hi : Option Int} (ha : ChP p a) : ChP p (cutS a lo hi) := by
  intro c hc
  unfold cutS at hc
  have hc : c ∈ (a.cps.toList.drop (HT.sIx a.length 0 lo)).take (HT.sIx a.length a.length hi - HT.sIx a.length 0 lo) := hc
  exact ha c (List.mem_of_mem_drop (List.mem_of_mem_take hc))
theorem ChP.one {p : Nat → Prop} {c : Nat} (h : p c) : ChP p ⟨#[c]⟩ := fun d hd => by
  have e : d = c := by simpa using hd
  rw [e]
  exact h
theorem ChP.imp {p q : Nat → Prop} {a : Str} (h : ∀ c, p c → q c) (ha : ChP p a) : ChP q a := fun c hc => h c (ha c hc)
theorem flat_get {α : Type} (l : List α) : ∀ (n i : Nat), 0 < l.length → i < n * l.length → (List.replicate n l).flatten[i]? = l[i % l.length]?
  | 0, i, _, h => by simp at h
  | n + 1, i, hl, h => by
    rw [List.replicate_succ, List.flatten_cons]
    by_cases hi : i < l.length
    · rw [List.getElem?_append_left hi, Nat.mod_eq_of_lt hi]
    · rw [List.getElem?_append_right (by omega), flat_get l n (i - l.length) hl (by rw [Nat.succ_mul] at h; omega)]
      congr 1
      rw [← Nat.mod_eq_sub_mod (by omega)]
theorem flat_mem {α : Type} {l : List α} {n : Nat} {x : α} (h : x ∈ (List.replicate n l).flatten) : x ∈ l := by
  obtain ⟨a, ha, hx⟩ := List.mem_flatten.mp h
  rw [(List.mem_replicate.mp ha).2] at hx
  exact hx
theorem flat_len {α : Type} (l : List α) (n : Nat) : (List.replicate n l).flatten.length = n * l.length := by
  rw [List.length_flatten, List.map_replicate, List.sum_replicate_nat]
theorem tw_all {p : Nat → Bool} : ∀ {l : List Nat}, l.all p = true → l.takeWhile p = l
  | [], _ => rfl
  | c :: r, h => by
    rw [List.all_cons, Bool.and_eq_true] at h
    rw [List.takeWhile_cons, if_pos h.1, tw_all h.2]
theorem tw_split {p : Nat → Bool} : ∀ {l : List Nat}, l.all p = false → ∃ pre c post, l = pre ++ c :: post ∧ l.takeWhile p = pre ∧ p c = false
  | [], h => by simp at h
  | c :: r, h => by
    cases hc : p c with
    | false => exact ⟨[], c, r, rfl, by rw [List.takeWhile_cons, if_neg (by simp [hc])], hc⟩
    | true =>
      rw [List.all_cons, hc, Bool.true_and] at h
      obtain ⟨pre, d, post, e1, e2, e3⟩ := tw_split h
      exact ⟨c :: pre, d, post, by rw [e1]; rfl, by rw [List.takeWhile_cons, if_pos hc, e2], e3⟩
theorem tw_last {p : Nat → Bool} {c : Nat} (h : p c = false) : ∀ m : List Nat, ((m ++ [c]).takeWhile p).length ≤ m.length
  | [] => by simp [List.takeWhile_cons, h]
  | d :: m => by
    rw [List.cons_append, List.takeWhile_cons]
    split
    · simpa using tw_last h m
    · simp
theorem strip_none {p : Nat → Bool} (z : Str) : (Txt.stripBy p true true z = ⟨#[]⟩) ↔ z.cps.toList.all p = true := by
  obtain ⟨⟨l⟩⟩ := z
  unfold Txt.stripBy stripSame stripped stripLo stripHi Str.length
  simp only [if_true, List.size_toArray]
  show _ ↔ l.all p = true
  cases h : l.all p with
  | true =>
    rw [tw_all h]
    simp only [List.drop_length, List.reverse_nil, List.takeWhile_nil, List.length_nil, Nat.sub_zero, beq_self_eq_true, Bool.and_true, iff_true]
    split
    · rename_i e
      have e := eq_of_beq e
      have e2 : l = [] := List.length_eq_zero_iff.mp e
      rw [e2]
    · unfold Builtin.Str.strSub
      simp
  | false =>
    obtain ⟨pre, c, post, e1, e2, e3⟩ := tw_split h
    rw [e2]
    have e4 : l.drop pre.length = c :: post := by rw [e1]; simp
    rw [e4, List.reverse_cons]
    have e5 := tw_last e3 post.reverse
    rw [List.length_reverse] at e5
    have e6 : l.length = pre.length + 1 + post.length := by rw [e1]; simp; omega
    simp only [Bool.false_eq_true, iff_false]
    split
    · intro z
      have z := congrArg (fun s : Str => s.cps.size) z
      simp at z
      have z2 : l.length = 0 := by rw [z]; rfl
      omega
    · intro z
      have z := congrArg (fun s : Str => s.cps.size) z
      unfold Builtin.Str.strSub at z
      simp at z
      rcases z with z | z
      · rw [e6] at z
        omega
      · omega
def signs : List Nat := ("abcdefghijklmnopqrstuvwxyz0123456789" : Str).cps.toList
/-- a valid record -/
def isRec (z : Str) : Bool := decide (1 ≤ z.length) && (decide (z.length ≤ 8) && z.cps.toList.all fun c => decide (c ∈ signs))
theorem strip_rec (z : Str) : decide (Txt.stripChars z ("abcdefghijklmnopqrstuvwxyz0123456789" : Str) = ("" : Str)) = z.cps.toList.all fun c => decide (c ∈ signs) := by
  have e := strip_none (p := ("abcdefghijklmnopqrstuvwxyz0123456789" : Str).cps.contains) z
  have e0 : ("" : Str) = ⟨#[]⟩ := by decide +kernel
  have e1 : (fun c => decide (c ∈ signs)) = ("abcdefghijklmnopqrstuvwxyz0123456789" : Str).cps.contains := by
    funext c
    unfold signs
    rw [Bool.eq_iff_iff]
    simp
  rw [e1, e0]
  unfold Txt.stripChars
  cases h : z.cps.toList.all ("abcdefghijklmnopqrstuvwxyz0123456789" : Str).cps.contains with
  | true =>
    rw [e.mpr h]
    exact decide_eq_true rfl
  | false =>
    refine decide_eq_false fun q => ?_
    have q := e.mp q
    rw [h] at q
    cases q
abbrev LET : Str := "abcdefghijklmnopqrstuvwxyz0123456789"
theorem let_at {k : Int} (h0 : 0 ≤ k) (h1 : k < 36) : ∃ c, c ∈ signs ∧ atI LET.cps.toList k = some c := by
  have el : LET.cps.toList.length = 36 := by decide +kernel
  have hk : k.toNat < LET.cps.toList.length := by omega
  have e : ((k.toNat : Nat) : Int) = k := by omega
  have h := atI_nat (xs := LET.cps.toList) (j := k.toNat) (List.getElem?_eq_getElem hk)
  rw [e] at h
  exact ⟨_, List.getElem_mem hk, h⟩
theorem rec_of {z : Str} (h1 : 1 ≤ z.length) (h2 : z.length ≤ 8) (h3 : ChP (fun c => c ∈ signs) z) : isRec z = true := by
  unfold isRec
  rw [decide_eq_true h1, decide_eq_true h2, Bool.true_and, Bool.true_and, List.all_eq_true]
  exact fun c hc => decide_eq_true (h3 c hc)
/-- a row, rows -/
theorem sl_snoc {a : List Str} {z : Str} : P.lst (a.map P.str ++ [P.str z]) = sl (a ++ [z]) := by unfold sl; rw [List.map_append]; rfl
theorem datBs_rl (rs : List (Int × Str)) : datBs (rs.map rowP) = true := by
  induction rs with
  | nil => rfl
  | cons n ns ih => rw [List.map_cons, datBs, ih]; rfl
theorem rl_depth (rs : List (Int × Str)) : PyData.depthAll (toDs (rs.map rowP)) ≤ 1 := by
  induction rs with
  | nil => exact Nat.zero_le _
  | cons n ns ih =>
    rw [List.map_cons, toDs, PyData.depthAll]
    have e : (toD (rowP n)).depth = 1 := rfl
    omega
theorem sh_rl {rs : List (Int × Str)} : shP (rl rs) = true := by
  unfold shP rl
  rw [datB, datBs_rl, Bool.true_and]
  refine decide_eq_true ?_
  rw [toD, PyData.depth]
  have := rl_depth rs
  omega
theorem eqv_row (x y : Int × Str) : PyData.eqv (toD (rowP x)) (toD (rowP y)) = decide (x = y) := by
  obtain ⟨a1, a2⟩ := x
  obtain ⟨b1, b2⟩ := y
  rw [Bool.eq_iff_iff]
  simp [rowP, toD, toDs, PyData.eqv, PyData.eqvAll]
theorem eqv_rl : ∀ (a b : List (Int × Str)), PyData.eqvAll (toDs (a.map rowP)) (toDs (b.map rowP)) = decide (a = b)
  | [], [] => rfl
  | [], _ :: _ => rfl
  | _ :: _, [] => rfl
  | x :: a, y :: b => by
    rw [List.map_cons, List.map_cons, toDs, toDs, PyData.eqvAll, eqv_rl a b, eqv_row, Bool.eq_iff_iff]
    simp
theorem eq_rl {a b : List (Int × Str)} : eqP (rl a) (rl b) = decide (a = b) := by
  unfold eqP rl
  rw [toD, toD, PyData.eqv, eqv_rl]
/-- rows of valid records, n of them, between lo and hi -/
structure GoodR (rs : List (Int × Str)) (n : Nat) (lo hi : Int) : Prop where
  ln : rs.length = n
  rc : ∀ r ∈ rs, isRec r.2 = true
  sh : ∀ r ∈ rs, lo ≤ r.1 ∧ r.1 ≤ hi
theorem isRec_len {z : Str} (h : isRec z = true) : 1 ≤ z.length ∧ z.length ≤ 8 := by
  unfold isRec at h
  rw [Bool.and_eq_true, Bool.and_eq_true, decide_eq_true_eq, decide_eq_true_eq] at h
  exact ⟨h.1, h.2.1⟩
/-- [.. for row in rows]: rows of rows -/
theorem lc_rr {g : P → PEnv → (PEnv → Prop) → Prop} {te : WE} {vs : List Nat} {env : PEnv} {Q : P → Prop} {rs : List (Int × Str)} (f : Int × Str → P) (hl : rs.length ≤ 1000000)
    (hs : ∀ r (Q : P → Prop), r ∈ rs → Q (f r) → g (rowP r) (wipeP env vs) fun e => te e Q noX') (hd : Q (.lst (rs.map f))) : LcB (rs.map rowP) g (fun _ Q _ => Q true) te vs env Q := by
  refine lc_all (ys := rs.map f) (by simp) (sz (by simpa using hl)) (fun i x y Q hx hy hQ => ?_) hd
  rw [List.getElem?_map] at hx hy
  cases e : rs[i]? with
  | none => rw [e] at hx; cases hx
  | some r =>
    rw [e] at hx hy
    cases hx
    cases hy
    exact hs r Q (List.mem_of_getElem? e) hQ
theorem GoodR.mono {rs : List (Int × Str)} {n : Nat} {lo hi lo2 hi2 : Int} (h : GoodR rs n lo hi) (h1 : lo2 ≤ lo) (h2 : hi ≤ hi2) : GoodR rs n lo2 hi2 := ⟨h.ln, h.rc, fun r hr => by have := h.sh r hr; omega⟩
/-- powers stay narrow -/
theorem pow_w {b : Int} {n : Nat} (h0 : 0 ≤ b) (h1 : b < 65536) : (b ^ n).natAbs < 2 ^ (16 * n + 1) := by
  have e : (b ^ n).natAbs = b.natAbs ^ n := by rw [Int.natAbs_pow]
  rw [e]
  have h2 : b.natAbs ^ n ≤ (2 ^ 16) ^ n := Nat.pow_le_pow_left (by omega) n
  rw [← Nat.pow_mul] at h2
  exact Nat.lt_of_le_of_lt h2 (Nat.pow_lt_pow_right (by decide) (by omega))
theorem mul_pw {b : Int} {p q : Nat} (h0 : 0 ≤ b) (h1 : b < 65536) (h : p + q ≤ 50000) : CMulW (b ^ p) (b ^ q) := wide_mul (pow_w h0 h1) (pow_w h0 h1) (by omega) (by omega) (by omega)
def fb (rs : List (Int × Str)) : Int := match rs.findIdx? (fun r => !isRec r.2) with
  | some i => (i : Int)
  | none => -1
theorem fb_some {rs : List (Int × Str)} {i : Nat} {r : Int × Str} (hr : rs[i]? = some r) (h : isRec r.2 = false) (hp : ∀ j < i, ∀ q, rs[j]? = some q → isRec q.2 = true) : fb rs = (i : Int) := by
  have hi := (List.getElem?_eq_some_iff.mp hr).1
  have e : rs.findIdx? (fun r => !isRec r.2) = some i := by
    rw [List.findIdx?_eq_some_iff_getElem]
    have er : rs[i] = r := (List.getElem?_eq_some_iff.mp hr).2
    refine ⟨hi, by rw [er, h]; rfl, fun j hj => ?_⟩
    have := hp j hj _ (List.getElem?_eq_getElem (by omega))
    simp [this]
  unfold fb
  rw [e]
theorem fb_none {rs : List (Int × Str)} (hp : ∀ (j : Nat) q, rs[j]? = some q → isRec q.2 = true) : fb rs = -1 := by
  have e : rs.findIdx? (fun r => !isRec r.2) = none := by
    rw [List.findIdx?_eq_none_iff]
    intro r hr
    obtain ⟨j, hj⟩ := List.mem_iff_getElem?.mp hr
    rw [hp j r hj]
    rfl
  unfold fb
  rw [e]
/-- what a sheet of sharpness t can stand for at the end e, the breadth being w -/
def capI (t e w : Int) : Int := if t < e then 0 else (w + 1) ^ (t - e).toNat
/-- how many of the levels are below l -/
def cntB (ls : List Int) (l : Int) : Int := ((ls.filter fun x => decide (x < l)).length : Nat)
/-- m is the greatest of the levels, each less those below it -/
def IsLow (ls : List Int) (m : Int) : Prop := (∃ l ∈ ls, m = l - cntB ls l) ∧ ∀ l ∈ ls, l - cntB ls l ≤ m
theorem lc_time {g : P → PEnv → (PEnv → Prop) → Prop} {te : WE} {vs : List Nat} {env : PEnv} {Q : P → Prop} {rs : List (Int × Str)} (hl : rs.length ≤ 1000000)
    (hs : ∀ r (Q : P → Prop), r ∈ rs → Q (.int r.1) → g (rowP r) (wipeP env vs) fun e => te e Q noX') (hd : Q (il (rs.map Prod.fst))) : LcB (rs.map rowP) g (fun _ Q _ => Q true) te vs env Q :=
  lc_rr (fun r => .int r.1) hl hs (by rw [show rs.map (fun r => P.int r.1) = (rs.map Prod.fst).map P.int by rw [List.map_map]; rfl]; exact hd)
/-- how many of the levels are h at most -/
def cntM (ls : List Int) (h : Int) : Int := ((ls.filter fun x => decide (x ≤ h)).length : Nat)
theorem cntM_rows {rs : List (Int × Str)} {h : Int} : (((rs.filter fun r => decide (r.1 ≤ h)).length : Nat) : Int) = cntM (rs.map Prod.fst) h := by
  unfold cntM
  rw [List.filter_map, List.length_map]
  rfl
/-- t is the greatest -/
def IsTop (ls : List Int) (t : Int) : Prop := t ∈ ls ∧ ∀ l ∈ ls, l ≤ t
/-- h is the greatest height below the top that shows the low end -/
structure Shows (ls : List Int) (t low h : Int) : Prop where
  lt : h ≤ t - 1
  eq : h + 1 - cntM ls h = low
  no : ∀ g, h < g → g ≤ t - 1 → g + 1 - cntM ls g ≠ low
theorem cntB_perm {ls ms : List Int} (h : ls.Perm ms) (l : Int) : cntB ls l = cntB ms l := by unfold cntB; rw [(h.filter _).length_eq]
theorem cntM_perm {ls ms : List Int} (h : ls.Perm ms) (l : Int) : cntM ls l = cntM ms l := by unfold cntM; rw [(h.filter _).length_eq]
theorem IsLow.perm {ls ms : List Int} {m : Int} (a : IsLow ls m) (h : ls.Perm ms) : IsLow ms m := by
  obtain ⟨⟨l, hl, e⟩, b⟩ := a
  exact ⟨⟨l, h.mem_iff.mp hl, by rw [← cntB_perm h]; exact e⟩, fun l hl => by rw [← cntB_perm h]; exact b l (h.mem_iff.mpr hl)⟩
theorem IsTop.perm {ls ms : List Int} {m : Int} (a : IsTop ls m) (h : ls.Perm ms) : IsTop ms m := ⟨h.mem_iff.mp a.1, fun l hl => a.2 l (h.mem_iff.mpr hl)⟩
theorem Shows.perm {ls ms : List Int} {t low g : Int} (a : Shows ls t low g) (h : ls.Perm ms) : Shows ms t low g :=
  ⟨a.lt, by rw [← cntM_perm h]; exact a.eq, fun f x y => by rw [← cntM_perm h]; exact a.no f x y⟩
/-- a sheaf of these rows, whole -/
structure ShfOk (rs : List (Int × Str)) (t b : Int) : Prop where
  ln0 : 0 < rs.length
  ln1 : rs.length ≤ 1000
  top : IsTop (rs.map Prod.fst) t
  sh : ∀ l ∈ rs.map Prod.fst, -100000 ≤ l ∧ l ≤ 100000

theorem pow_nat {w : Int} {n : Nat} (h : 0 ≤ w) : ∃ k : Nat, w = (k : Int) ∧ (w + 1) ^ n = (((k + 1) ^ n : Nat) : Int) := by
  obtain ⟨k, rfl⟩ := Int.eq_ofNat_of_zero_le h
  exact ⟨k, rfl, by push_cast; rfl⟩
theorem capI_nn {t e w : Int} (h : 0 ≤ w) : 0 ≤ capI t e w := by
  unfold capI
  split
  · exact Int.le_refl _
  · obtain ⟨k, _, e⟩ := pow_nat (n := (t - e).toNat) h
    rw [e]
    exact Int.natCast_nonneg _
/-- what levels can stand for at the end e -/
def capS (ls : List Int) (e w : Int) : Int := (ls.map fun l => capI l e w).sum
theorem perm_sum {xs ys : List Int} (h : xs.Perm ys) : xs.sum = ys.sum := by
  induction h with
  | nil => rfl
  | cons x _ ih => rw [List.sum_cons, List.sum_cons, ih]
  | swap x y l => rw [List.sum_cons, List.sum_cons, List.sum_cons, List.sum_cons]; omega
  | trans _ _ a b => rw [a, b]
theorem capS_perm {ls ms : List Int} (h : ls.Perm ms) (e w : Int) : capS ls e w = capS ms e w := perm_sum (h.map _)
/-- h is the greatest end that the sheaf can have -/
structure IsHigh (ls : List Int) (t w h : Int) : Prop where
  le : h ≤ t
  eq : (ls.length : Int) ≤ capS ls h w
  no : ∀ e, h < e → e ≤ t → capS ls e w < (ls.length : Int)
theorem IsHigh.perm {ls ms : List Int} {t w h : Int} (a : IsHigh ls t w h) (p : ls.Perm ms) : IsHigh ms t w h :=
  ⟨a.le, by rw [← capS_perm p, ← p.length_eq]; exact a.eq, fun e x y => by rw [← capS_perm p, ← p.length_eq]; exact a.no e x y⟩
end Pf

namespace Pf
open PySem PySem.Spec PyProof.Rows L2
/-- rows of which a sheaf can be made -/
def okR (rs : List (Int × Str)) : Prop := rs ≠ [] ∧ fb rs < 0
instance {rs : List (Int × Str)} : Decidable (okR rs) := inferInstanceAs (Decidable (_ ∧ _))
theorem GoodR.ok {rs : List (Int × Str)} {n : Nat} {lo hi : Int} (h : GoodR rs n lo hi) (hn : 1 ≤ n) : okR rs :=
  ⟨fun e => by rw [e] at h; have := h.ln; simp at this; omega, by rw [fb_none fun j q2 hq2 => h.rc q2 (List.mem_of_getElem? hq2)]; decide⟩
theorem noX_f {C : Addr} {ns : List Str} {xs : List P} : noX C ns xs = False := rfl
theorem noX'_f {C : Addr} {ns : List Str} {xs : List P} : noX' C ns xs = False := rfl
end Pf

namespace Pf
open PySem PySem.Spec PyProof.Rows L2
section
variable {K : PySem.W.Frag} {W : WX} {k : Rk} {ro : Bool}
def keyV : Key → P
  | .inl n => .int n
  | .inr z => .str z
def fListD : PFn := fun xs Q => match xs with
  | [.dct ks _] => (∀ z, Sum.inr z ∈ ks → SOk z) ∧ Q (.lst (ks.map keyV))
  | _ => False
theorem keyV_rl {F : Hp} : ∀ {ks : List Key}, (∀ z, Sum.inr z ∈ ks → SOk z) → RL K F (ks.map kV) (ks.map keyV)
  | [], _ => .nil
  | .inl n :: ks, h => .cons (.int n) (keyV_rl fun z hz => h z (List.mem_cons_of_mem _ hz))
  | .inr z :: ks, h => .cons (.str (h z List.mem_cons_self)) (keyV_rl fun z hz => h z (List.mem_cons_of_mem _ hz))
theorem zip_keys {ks : List Key} {vs : List V} (l : ks.length = vs.length) : (ks.zip vs).map (fun kv => kV kv.1) = ks.map kV := by
  rw [show (fun kv : Key × V => kV kv.1) = kV ∘ Prod.fst from rfl, ← List.map_map, zip_fst l]
theorem cs_listD {m : Mo} : CallS K .O [m] (fun xs H Q => ∃ (a : Addr) (kvs : List (Key × V)), xs = [.ref a] ∧ Rd H a (.dK kvs) ∧ ∀ p, H p = none → Q (.ref p) (upd H p (.lst (kvs.map fun kv => kV kv.1)))) fListD := fun F H vs xs Qp Q s r h q => by
  obtain ⟨v, x, rfl, rfl, t⟩ := AL.one r
  unfold fListD at h
  split at h
  · rename_i ks ys e
    cases e
    obtain ⟨a, ws, rfl, ha, l, rl⟩ := Tp.dct s t
    refine ⟨a, _, rfl, ha, fun p np => ?_⟩
    rw [zip_keys l]
    exact q F _ _ (.lst (ks.map keyV)) (mv_new s np) (.inl ⟨p, _, rfl, np, same_free s np, upd_same, .l (keyV_rl h.1)⟩) h.2
  · exact h.elim
def fDictD : PFn := fun xs Q => match xs with
  | [.dct ks xs] => Q (.dct ks xs)
  | _ => False
theorem cs_dictD {m : Mo} : CallS K .O [m] (fun xs H Q => ∃ (a : Addr) (kvs : List (Key × V)), xs = [.ref a] ∧ Rd H a (.dK kvs) ∧ ∀ p, H p = none → Q (.ref p) (upd H p (.dK kvs))) fDictD := fun F H vs xs Qp Q s r h q => by
  obtain ⟨v, x, rfl, rfl, t⟩ := AL.one r
  unfold fDictD at h
  split at h
  · rename_i ks ys e
    cases e
    obtain ⟨a, ws, rfl, ha, l, rl⟩ := Tp.dct s t
    exact ⟨a, _, rfl, ha, fun p np => q F _ _ (.dct ks ys) (mv_new s np) (.inl ⟨p, _, rfl, np, same_free s np, upd_same, .d l rl⟩) h⟩
  · exact h.elim
theorem ap_remI {xs : List P} {ns : List Int} [h : EL P.int xs ns] {k : Int} {Q : List Int → Int → Prop} : (∃ (ms : List Int) (j : Int), P.int k = .int j ∧ xs = ms.map P.int ∧ j ∈ ms ∧ Q ms j) = (k ∈ ns ∧ Q ns k) := by
  rw [h.eq]
  refine propext ⟨fun ⟨ms, j, e, e2, h1, h2⟩ => ?_, fun ⟨h1, h2⟩ => ⟨ns, k, rfl, rfl, h1, h2⟩⟩
  cases e
  rw [int_inj] at e2
  subst e2
  exact ⟨h1, h2⟩
end
section
variable {X : Cx} {a b c : Expr} {ta tb tc : TE}
end
end Pf
namespace Pf
open PySem PySem.Spec PyProof.Rows L2
theorem ap_listD {ks : List Key} {ys : List P} {Q : P → Prop} : (fListD [.dct ks ys] Q) = ((∀ z, Sum.inr z ∈ ks → SOk z) ∧ Q (.lst (ks.map keyV))) := rfl
theorem ap_dictD {ks : List Key} {ys : List P} {Q : P → Prop} : (fDictD [.dct ks ys] Q) = (Q (.dct ks ys)) := rfl
end Pf
namespace Pf
/-- a hypothesis that simp does not look into -/
def Hid (p : Prop) : Prop := p
theorem Hid.mk {p : Prop} (h : p) : Hid p := h
theorem Hid.get {p : Prop} (h : Hid p) : p := h
end Pf
namespace Pf
open PySem PySem.Spec PyProof.Rows L2
theorem aq_at {xs : List P} {α : Type} {enc : α → P} {l : List α} [h : ML xs α enc l] [Inhabited α] {i : Int} {Q : P → Prop} : (∃ z, atI xs i = some z ∧ Q z) = (ixOk l.length i ∧ Q (enc (gx l i))) := by rw [h.eq]; exact ap_at
/-- the indexes of the sheets that bear a record -/
def sheetsI (rs : List (Int × Str)) (z : Str) : List Int := (rs.zipIdx.filter fun p => decide (p.1.2 = z)).map fun p => (p.2 : Int)
end Pf
namespace Pf
open PySem PySem.Spec PyProof.Rows L2
theorem sheetsI_len {rs : List (Int × Str)} {z : Str} {n : Nat} (h : rs.length ≤ n) : (sheetsI rs z).length ≤ n := by
  unfold sheetsI
  rw [List.length_map]
  refine Nat.le_trans (List.length_filter_le _ _) ?_
  rw [List.length_zipIdx]; exact h
theorem sheetsI_at {rs : List (Int × Str)} {z : Str} {i : Int} (h : i ∈ sheetsI rs z) : ∃ (j : Nat) (r : Int × Str), i = (j : Int) ∧ rs[j]? = some r ∧ r.2 = z := by
  unfold sheetsI at h
  obtain ⟨⟨r, j⟩, hp, rfl⟩ := List.mem_map.mp h
  obtain ⟨h1, h2⟩ := List.mem_filter.mp hp
  obtain ⟨k, hk⟩ := List.mem_iff_getElem?.mp h1
  rw [List.getElem?_zipIdx] at hk
  cases e : rs[k]? with
  | none => rw [e] at hk; simp at hk
  | some r' =>
    rw [e] at hk
    have hk : r' = r ∧ k = j := by simpa using hk
    obtain ⟨rfl, rfl⟩ := hk
    exact ⟨k, r', rfl, e, of_decide_eq_true h2⟩
theorem sheetsI_ix {rs : List (Int × Str)} {z : Str} {i : Int} (h : i ∈ sheetsI rs z) : -(rs.length : Int) ≤ i ∧ i < rs.length := by
  obtain ⟨j, r, rfl, e, _⟩ := sheetsI_at h
  have := (List.getElem?_eq_some_iff.mp e).1
  omega
theorem gx_nat {α : Type} [Inhabited α] {l : List α} {j : Nat} {a : α} (h : l[j]? = some a) : gx l (j : Int) = a := by
  rw [gx_nn (by omega), Int.toNat_natCast, h]; rfl
/-- the sheets of a record are those rows -/
theorem sheetsI_rows {rs : List (Int × Str)} {z : Str} : (sheetsI rs z).map (gx rs) = rs.filter fun r => decide (r.2 = z) := by
  unfold sheetsI
  rw [List.map_map]
  have key : ∀ (l : List (Int × Str)) (k : Nat), (∀ (i : Nat) r, l[i]? = some r → rs[k + i]? = some r) → ((l.zipIdx k).filter fun p => decide (p.1.2 = z)).map (gx rs ∘ fun p => (p.2 : Int)) = l.filter fun r => decide (r.2 = z) := by
    intro l
    induction l with
    | nil => intro k _; rfl
    | cons r l ih =>
      intro k h
      have h0 := h 0 r rfl
      have ih := ih (k + 1) fun i q hq => by rw [show k + 1 + i = k + (i + 1) by omega]; exact h (i + 1) q hq
      rw [List.zipIdx_cons, List.filter_cons, List.filter_cons]
      by_cases hz : r.2 = z
      · rw [if_pos (by simpa using hz), if_pos (by simpa using hz), List.map_cons, ih]
        congr 1
        exact gx_nat h0
      · rw [if_neg (by simpa using hz), if_neg (by simpa using hz), ih]
  exact key rs 0 fun i r h => by simpa using h
end Pf
namespace Pf
open PySem PySem.Spec PyProof.Rows L2
theorem int_one {a : List Int} {n : Int} : a.map P.int ++ [P.int n] = (a ++ [n]).map P.int := by rw [List.map_append]; rfl
theorem str_one {a : List Str} {n : Str} : a.map P.str ++ [P.str n] = (a ++ [n]).map P.str := by rw [List.map_append]; rfl
theorem row_one {a : List (Int × Str)} {n : Int} {z : Str} : a.map rowP ++ [P.tup [.int n, .str z]] = (a ++ [(n, z)]).map rowP := by rw [List.map_append]; rfl
theorem row_one' {a : List (Int × Str)} {r : Int × Str} : a.map rowP ++ [rowP r] = (a ++ [r]).map rowP := by rw [List.map_append]; rfl
theorem dd_one {a : List (Int × List Int)} {n : Int} {l : List Int} : a.map ddP ++ [P.tup [.int n, .tup (l.map P.int)]] = (a ++ [(n, l)]).map ddP := by rw [List.map_append]; rfl
theorem dd_one1 {a : List (Int × List Int)} {n m : Int} : a.map ddP ++ [P.tup [.int n, .tup [.int m]]] = (a ++ [(n, [m])]).map ddP := by rw [List.map_append]; rfl
theorem ii_one {a : List (Int × Int)} {n m : Int} : a.map iiP ++ [P.tup [.int n, .int m]] = (a ++ [(n, m)]).map iiP := by rw [List.map_append]; rfl
theorem int_app {a b : List Int} : a.map P.int ++ b.map P.int = (a ++ b).map P.int := by rw [List.map_append]
theorem str_app' {a b : List Str} : a.map P.str ++ b.map P.str = (a ++ b).map P.str := by rw [List.map_append]
theorem row_app {a b : List (Int × Str)} : a.map rowP ++ b.map rowP = (a ++ b).map rowP := by rw [List.map_append]
section
variable {g : P → PEnv → (PEnv → Prop) → Prop} {b : WS} {D : PEnds} {env : PEnv} {lo : Int} {n : Nat}
/-- loops over a range -/
theorem forAr (ts : List Nat) (k : Nat) (m : Mo) {β : Type} (f : β → P) (I : Nat → β → Prop) (a0 : β) (h0 : I 0 a0) (he : Any ts (env.set k (some (m, f a0))) env)
    (hs : ∀ (i : Nat) c e, i < n → I i c → Any ts (env.set k (some (m, f c))) e → g (.int (lo + (i : Int))) e fun e2 => b { D with nx := fun e3 => ∃ c, I (i + 1) c ∧ Any ts (env.set k (some (m, f c))) e3, ct := fun e3 => ∃ c, I (i + 1) c ∧ Any ts (env.set k (some (m, f c))) e3, bk := D.nx } e2)
    (hd : ∀ c e, I n c → Any ts (env.set k (some (m, f c))) e → D.nx e) : ForB (rng lo n) g b D env :=
  for_r (fun i e => ∃ c, I i c ∧ Any ts (env.set k (some (m, f c))) e) ⟨a0, h0, he⟩ (fun i e h1 ⟨c, h3, h4⟩ => hs i c e h1 h3 h4) fun e ⟨c, h1, h2⟩ => hd c e h1 h2
theorem forKr (ts : List Nat) (I : Nat → Prop) (h1 : I 0) (hs : ∀ (i : Nat) e, i < n → I i → Any ts env e → g (.int (lo + (i : Int))) e fun e2 => b { D with nx := fun e3 => I (i + 1) ∧ Any ts env e3, ct := fun e3 => I (i + 1) ∧ Any ts env e3, bk := D.nx } e2) (h0 : Any ts env env) (hd : ∀ e, I n → Any ts env e → D.nx e) : ForB (rng lo n) g b D env :=
  for_r (fun i e => I i ∧ Any ts env e) ⟨h1, h0⟩ (fun i e h1 h2 => hs i e h1 h2.1 h2.2) fun e h => hd e h.1 h.2
theorem forA2r (ts : List Nat) (k k2 : Nat) (m m2 : Mo) {β γ : Type} (f : β → P) (f2 : γ → P) (I : Nat → β → γ → Prop) (a0 : β) (b0 : γ) (h0 : I 0 a0 b0) (he : Any ts ((env.set k (some (m, f a0))).set k2 (some (m2, f2 b0))) env)
    (hs : ∀ (i : Nat) c d e, i < n → I i c d → Any ts ((env.set k (some (m, f c))).set k2 (some (m2, f2 d))) e → g (.int (lo + (i : Int))) e fun e2 => b { D with nx := fun e3 => ∃ c d, I (i + 1) c d ∧ Any ts ((env.set k (some (m, f c))).set k2 (some (m2, f2 d))) e3, ct := fun e3 => ∃ c d, I (i + 1) c d ∧ Any ts ((env.set k (some (m, f c))).set k2 (some (m2, f2 d))) e3, bk := D.nx } e2)
    (hd : ∀ c d e, I n c d → Any ts ((env.set k (some (m, f c))).set k2 (some (m2, f2 d))) e → D.nx e) : ForB (rng lo n) g b D env :=
  for_r (fun i e => ∃ c d, I i c d ∧ Any ts ((env.set k (some (m, f c))).set k2 (some (m2, f2 d))) e) ⟨a0, b0, h0, he⟩ (fun i e h1 ⟨c, d, h3, h4⟩ => hs i c d e h1 h3 h4) fun e ⟨c, d, h1, h2⟩ => hd c d e h1 h2
end
section
variable {g : P → PEnv → (PEnv → Prop) → Prop} {b : WS} {D : PEnds} {env : PEnv} {xs : List P} {α : Type} {enc : α → P} {l : List α}
theorem forA2 [h : ML xs α enc l] (ts : List Nat) (k k2 : Nat) (m m2 : Mo) {β γ : Type} (f : β → P) (f2 : γ → P) (I : Nat → β → γ → Prop) (a0 : β) (b0 : γ) (h0 : I 0 a0 b0) (he : Any ts ((env.set k (some (m, f a0))).set k2 (some (m2, f2 b0))) env)
    (hs : ∀ (i : Nat) a c d e, l[i]? = some a → i < l.length → I i c d → Any ts ((env.set k (some (m, f c))).set k2 (some (m2, f2 d))) e → g (enc a) e fun e2 => b { D with nx := fun e3 => ∃ c d, I (i + 1) c d ∧ Any ts ((env.set k (some (m, f c))).set k2 (some (m2, f2 d))) e3, ct := fun e3 => ∃ c d, I (i + 1) c d ∧ Any ts ((env.set k (some (m, f c))).set k2 (some (m2, f2 d))) e3, bk := D.nx } e2)
    (hd : ∀ c d e, I l.length c d → Any ts ((env.set k (some (m, f c))).set k2 (some (m2, f2 d))) e → D.nx e) : ForB xs g b D env :=
  forM (fun i e => ∃ c d, I i c d ∧ Any ts ((env.set k (some (m, f c))).set k2 (some (m2, f2 d))) e) ⟨a0, b0, h0, he⟩ (fun i a e h1 h2 ⟨c, d, h3, h4⟩ => hs i a c d e h1 h2 h3 h4) fun e ⟨c, d, h1, h2⟩ => hd c d e h1 h2
theorem forKi [h : ML xs α enc l] (ts : List Nat) (I : Nat → Prop) (h1 : I 0) (hs : ∀ (i : Nat) a e, l[i]? = some a → i < l.length → I i → Any ts env e → g (enc a) e fun e2 => b { D with nx := fun e3 => I (i + 1) ∧ Any ts env e3, ct := fun e3 => I (i + 1) ∧ Any ts env e3, bk := D.nx } e2) (h0 : Any ts env env) (hd : ∀ e, I l.length → Any ts env e → D.nx e) : ForB xs g b D env :=
  forM (fun i e => I i ∧ Any ts env e) ⟨h1, h0⟩ (fun i a e h1 h2 h3 => hs i a e h1 h2 h3.1 h3.2) fun e h => hd e h.1 h.2
end
end Pf
namespace Pf
theorem nodup_le {α : Type} [DecidableEq α] : ∀ {l m : List α}, l.Nodup → (∀ x ∈ l, x ∈ m) → l.length ≤ m.length
  | [], m, _, _ => Nat.zero_le _
  | a :: l, m, h, hs => by
    have h2 := List.nodup_cons.mp h
    have ha := hs a List.mem_cons_self
    have ih := nodup_le (l := l) (m := m.erase a) h2.2 fun x hx => by
      have hxa : x ≠ a := fun e => h2.1 (e ▸ hx)
      exact (List.mem_erase_of_ne hxa).mpr (hs x (List.mem_cons_of_mem _ hx))
    rw [List.length_erase_of_mem ha] at ih
    have := List.length_pos_of_mem ha
    rw [List.length_cons]
    omega
end Pf
namespace Pf
theorem InB.b {ds ss : List Int} (h : InB ds ss) {k s : Int} (h0 : 0 ≤ k) (e : ss[k.toNat]? = some s) : 0 ≤ gx ds k ∧ gx ds k < s := by
  obtain ⟨d, e1, e2, e3⟩ := h.at e
  rw [gx_nn h0, e1]
  exact ⟨e2, e3⟩
end Pf

namespace Pf
open PySem PySem.Spec PyProof.Rows L2
theorem ite_and' {a b : Prop} [Decidable a] [Decidable b] {α : Sort _} {x y : α} : (if a then (if b then x else y) else y) = if a ∧ b then x else y := by
  by_cases h : a <;> by_cases h2 : b <;> simp [h, h2]
theorem ite_or' {a b : Prop} [Decidable a] [Decidable b] {α : Sort _} {x y : α} : (if a then x else (if b then x else y)) = if a ∨ b then x else y := by
  by_cases h : a <;> by_cases h2 : b <;> simp [h, h2]
theorem ite_nand' {a b : Prop} [Decidable a] [Decidable b] {α : Sort _} {x y : α} : (if a then (if b then x else y) else x) = if a ∧ ¬ b then y else x := by
  by_cases h : a <;> by_cases h2 : b <;> simp [h, h2]
section
variable {α : Type} {enc : α → P}
abbrev dS (enc : α → P) (d : List (Str × α)) : P := .dct (d.map fun p => Sum.inr p.1) (d.map fun p => enc p.2)
def dget (d : List (Str × α)) (z : Str) : Option α := (d.find? fun p => decide (p.1 = z)).map Prod.snd
def dput (d : List (Str × α)) (z : Str) (a : α) : List (Str × α) := if (d.any fun p => decide (p.1 = z)) = true then d.map fun p => if p.1 = z then (p.1, a) else p else d ++ [(z, a)]
/-- a dict read back -/
class ED {α : Type} (enc : α → P) (ks : List Key) (xs : List P) (d : outParam (List (Str × α))) : Prop where
  k : ks = d.map fun p => Sum.inr p.1
  v : xs = d.map fun p => enc p.2
instance ed_self {α : Type} {enc : α → P} {d : List (Str × α)} : ED enc (d.map fun p => Sum.inr p.1) (d.map fun p => enc p.2) d := ⟨rfl, rfl⟩
instance ed_nil {α : Type} {enc : α → P} : ED enc [] [] [] := ⟨rfl, rfl⟩
theorem valP_d {d : List (Str × α)} {z : Str} : valP (d.map fun p => Sum.inr p.1) (d.map fun p => enc p.2) (Sum.inr z) = (dget d z).map enc := by
  induction d with
  | nil => rfl
  | cons p d ih =>
    rw [List.map_cons, List.map_cons]
    unfold valP
    by_cases h : p.1 = z
    · rw [if_pos (by rw [h])]
      unfold dget
      rw [List.find?_cons_of_pos (by simpa using h)]
      rfl
    · rw [if_neg (by simpa using h), ih]
      unfold dget
      rw [List.find?_cons_of_neg (by simpa using h)]
theorem putP_d {d : List (Str × α)} {z : Str} {a : α} : putP (d.map fun p => Sum.inr p.1) (d.map fun p => enc p.2) (Sum.inr z) (enc a) = ((dput d z a).map (fun p => Sum.inr p.1), (dput d z a).map fun p => enc p.2) := by
  unfold putP dput
  have e : ((d.map fun p => (Sum.inr p.1 : Key)).any fun q => decide (q = Sum.inr z)) = d.any fun p => decide (p.1 = z) := by
    rw [List.any_map]
    congr 1
    funext p
    simp
  rw [e]
  split
  · have e2 : ∀ (d : List (Str × α)), List.zipWith (fun (q : Key) y => if q = Sum.inr z then enc a else y) (d.map fun p => Sum.inr p.1) (d.map fun p => enc p.2) = (d.map fun p => if p.1 = z then (p.1, a) else p).map fun p => enc p.2 := by
      intro d
      induction d with
      | nil => rfl
      | cons p d ih =>
        simp only [List.map_cons, List.zipWith_cons_cons, ih]
        congr 1
        by_cases h : p.1 = z <;> simp [h]
    rw [e2]
    congr 1
    rw [List.map_map]
    refine List.map_congr_left fun p _ => ?_
    by_cases h : p.1 = z <;> simp [h]
  · rw [List.map_append, List.map_append]
    rfl
theorem dget_put {d : List (Str × α)} {z y : Str} {a : α} : dget (dput d z a) y = if y = z then some a else dget d y := by
  unfold dput
  split
  · rename_i h
    induction d with
    | nil => simp at h
    | cons p d ih =>
      by_cases hp : p.1 = z
      · by_cases hy : y = z
        · rw [if_pos hy]
          unfold dget
          rw [List.map_cons, if_pos hp, List.find?_cons_of_pos (by simp [hp, hy])]
          rfl
        · rw [if_neg hy]
          unfold dget
          rw [List.map_cons, if_pos hp, List.find?_cons_of_neg (by simp [hp]; exact fun e => hy e.symm), List.find?_cons_of_neg (by simp [hp]; exact fun e => hy e.symm)]
          clear ih h
          induction d with
          | nil => rfl
          | cons q d ih =>
            rw [List.map_cons]
            by_cases hq : q.1 = z
            · rw [if_pos hq, List.find?_cons_of_neg (by simp [hq]; exact fun e => hy e.symm), List.find?_cons_of_neg (by simp [hq]; exact fun e => hy e.symm), ih]
            · rw [if_neg hq]
              by_cases hqy : q.1 = y
              · rw [List.find?_cons_of_pos (by simpa using hqy), List.find?_cons_of_pos (by simpa using hqy)]
              · rw [List.find?_cons_of_neg (by simpa using hqy), List.find?_cons_of_neg (by simpa using hqy), ih]
      · have h2 : (d.any fun p => decide (p.1 = z)) = true := by simpa [hp] using h
        have ih := ih h2
        unfold dget at ih ⊢
        rw [List.map_cons, if_neg hp]
        by_cases hy : p.1 = y
        · rw [List.find?_cons_of_pos (by simpa using hy), List.find?_cons_of_pos (by simpa using hy), if_neg (by rw [← hy]; exact hp)]
        · rw [List.find?_cons_of_neg (by simpa using hy), List.find?_cons_of_neg (by simpa using hy), ih]
  · rename_i h
    have hz : ∀ p ∈ d, p.1 ≠ z := fun p hp e => h (List.any_eq_true.mpr ⟨p, hp, by simpa using e⟩)
    unfold dget
    rw [List.find?_append]
    by_cases hy : y = z
    · rw [if_pos hy, hy]
      have : d.find? (fun p => decide (p.1 = z)) = none := List.find?_eq_none.mpr fun p hp => by simpa using hz p hp
      rw [this]
      simp
    · rw [if_neg hy]
      cases e : d.find? fun p => decide (p.1 = y) with
      | some q => simp
      | none =>
        have hzy : ¬ z = y := fun q => hy q.symm
        simp [hzy]
theorem dput_keys {d : List (Str × α)} {z : Str} {a : α} : (dput d z a).map Prod.fst = if z ∈ d.map Prod.fst then d.map Prod.fst else d.map Prod.fst ++ [z] := by
  unfold dput
  have e : ((d.any fun p => decide (p.1 = z)) = true) ↔ z ∈ d.map Prod.fst := by
    rw [List.any_eq_true, List.mem_map]
    constructor
    · rintro ⟨p, hp, h⟩; exact ⟨p, hp, by simpa using h⟩
    · rintro ⟨p, hp, h⟩; exact ⟨p, hp, by simpa using h⟩
  by_cases h : z ∈ d.map Prod.fst
  · rw [if_pos (e.mpr h), if_pos h, List.map_map]
    refine List.map_congr_left fun p _ => ?_
    by_cases hp : p.1 = z <;> simp [hp]
  · rw [if_neg fun q => h (e.mp q), if_neg h, List.map_append]
    rfl
theorem dput_nodup {d : List (Str × α)} {z : Str} {a : α} (h : (d.map Prod.fst).Nodup) : ((dput d z a).map Prod.fst).Nodup := by
  rw [dput_keys]
  split
  · exact h
  · rename_i hz
    rw [List.nodup_append]
    exact ⟨h, by simp, fun x hx y hy e => by rw [List.mem_singleton.mp hy] at e; exact hz (e ▸ hx)⟩
theorem dput_len {d : List (Str × α)} {z : Str} {a : α} : (dput d z a).length ≤ d.length + 1 := by
  unfold dput
  split
  · rw [List.length_map]; omega
  · rw [List.length_append]; exact Nat.le_refl _
theorem dget_some {d : List (Str × α)} {z : Str} {a : α} (h : dget d z = some a) : (z, a) ∈ d := by
  unfold dget at h
  cases e : d.find? fun p => decide (p.1 = z) with
  | none => rw [e] at h; cases h
  | some p =>
    rw [e] at h
    have h : p.2 = a := Option.some.inj h
    have h1 := List.mem_of_find?_eq_some e
    have h2 := List.find?_some e
    have h2 : p.1 = z := by simpa using h2
    rw [← h, ← h2]
    exact h1
theorem dget_mem {d : List (Str × α)} {z : Str} : (dget d z).isSome = true ↔ z ∈ d.map Prod.fst := by
  unfold dget
  rw [Option.isSome_map, List.find?_isSome, List.mem_map]
  constructor
  · rintro ⟨p, hp, h⟩; exact ⟨p, hp, by simpa using h⟩
  · rintro ⟨p, hp, h⟩; exact ⟨p, hp, by simpa using h⟩
/-- the walking lemmas -/
theorem aq_dval {ks : List Key} {xs : List P} {d : List (Str × α)} [h : ED enc ks xs d] {z : Str} {Q : P → Prop} : (∃ u, valP ks xs (Sum.inr z) = some u ∧ Q u) = (∃ a, dget d z = some a ∧ Q (enc a)) := by
  rw [h.k, h.v, valP_d]
  refine propext ⟨fun ⟨u, e, q⟩ => ?_, fun ⟨a, e, q⟩ => ⟨enc a, by rw [e]; rfl, q⟩⟩
  cases ea : dget d z with
  | none => rw [ea] at e; cases e
  | some a => rw [ea] at e; cases e; exact ⟨a, rfl, q⟩
end
section
variable {ks : List Key} {xs : List P} {d : List (Str × Int)} [h : ED P.int ks xs d] {z : Str}
theorem aq_dvalI {Q : P → Prop} : (∃ u, valP ks xs (Sum.inr z) = some u ∧ Q u) = (∃ a, dget d z = some a ∧ Q (.int a)) := aq_dval (enc := P.int)
theorem aq_dgetI {a : Int} : (valP ks xs (Sum.inr z)).getD (P.int a) = P.int ((dget d z).getD a) := by
  rw [h.k, h.v, valP_d]
  cases dget d z <;> rfl
theorem aq_dinI : (valP ks xs (Sum.inr z)).isSome = decide (z ∈ d.map Prod.fst) := by
  rw [h.k, h.v, valP_d, Option.isSome_map, Bool.eq_iff_iff, decide_eq_true_eq]
  exact dget_mem
theorem aq_putI {a : Int} : putP ks xs (Sum.inr z) (P.int a) = ((dput d z a).map (fun p => Sum.inr p.1), (dput d z a).map fun p => P.int p.2) := by
  rw [h.k, h.v]; exact putP_d (enc := P.int)
end
theorem keyV_d {α : Type} {d : List (Str × α)} : (d.map fun p => (Sum.inr p.1 : Key)).map keyV = (d.map Prod.fst).map P.str := by
  rw [List.map_map, List.map_map]; rfl
theorem sok_keys {α : Type} {d : List (Str × α)} : (∀ z, (Sum.inr z : Key) ∈ (d.map fun p => (Sum.inr p.1 : Key)) → SOk z) = (∀ z ∈ d.map Prod.fst, SOk z) := by
  refine propext ⟨fun h z hz => ?_, fun h z hz => ?_⟩
  · obtain ⟨p, hp, rfl⟩ := List.mem_map.mp hz
    exact h _ (List.mem_map.mpr ⟨p, hp, rfl⟩)
  · obtain ⟨p, hp, e⟩ := List.mem_map.mp hz
    cases e
    exact h _ (List.mem_map.mpr ⟨p, hp, rfl⟩)
/-- texts in order -/
def sle' (a b : Str) : Prop := a.cps.toList ≤ b.cps.toList
theorem ltCps_iff : ∀ (a b : List Nat), ltCps a b = decide (a < b)
  | [], [] => by simp [ltCps]
  | [], _ :: _ => by simp [ltCps]
  | _ :: _, [] => by simp [ltCps]
  | a :: r, b :: t => by
    unfold ltCps
    rw [ltCps_iff r t, Bool.eq_iff_iff]
    simp [List.cons_lt_cons_iff]
theorem sle_trans {a b c : Str} (h : sle' a b) (h2 : sle' b c) : sle' a c := List.le_trans h h2
theorem sle_total (a b : Str) : sle' a b ∨ sle' b a := List.le_total _ _
theorem str_ext' {a b : Str} (h : a.cps.toList = b.cps.toList) : a = b := by
  obtain ⟨⟨x⟩⟩ := a
  obtain ⟨⟨y⟩⟩ := b
  have h : x = y := h
  rw [h]
theorem sle_anti {a b : Str} (h : sle' a b) (h2 : sle' b a) : a = b := str_ext' (List.le_antisymm h h2)
theorem sle_iff {a b : Str} : sle' a b ↔ ¬ b.cps.toList < a.cps.toList := List.not_lt.symm
instance {a b : Str} : Decidable (sle' a b) := inferInstanceAs (Decidable (a.cps.toList ≤ b.cps.toList))
theorem risingS_iff : ∀ (l : List Str) (p : Str), risingS p l = true ↔ (p :: l).Pairwise sle'
  | [], p => by simp [risingS]
  | x :: r, p => by
    unfold risingS
    rw [Bool.and_eq_true, risingS_iff r x, ltCps_iff, List.pairwise_cons (a := p)]
    constructor
    · rintro ⟨h1, h2⟩
      have h1 : sle' p x := sle_iff.mpr (by simpa using h1)
      refine ⟨fun y hy => ?_, h2⟩
      rcases List.mem_cons.mp hy with rfl | hy
      · exact h1
      · exact sle_trans h1 ((List.pairwise_cons.mp h2).1 y hy)
    · rintro ⟨h1, h2⟩
      refine ⟨?_, h2⟩
      have := sle_iff.mp (h1 x List.mem_cons_self)
      simpa using this
theorem sortedS_iff {l : List Str} : sortedS l = true ↔ l.Pairwise sle' := by
  cases l with
  | nil => simp [sortedS]
  | cons x r => unfold sortedS; exact risingS_iff r x
def sortS (l : List Str) : List Str := l.mergeSort fun a b => decide (sle' a b)
theorem sortS_perm (l : List Str) : (sortS l).Perm l := List.mergeSort_perm _ _
theorem sortS_pw (l : List Str) : (sortS l).Pairwise sle' := by
  have h := List.pairwise_mergeSort (le := fun (a b : Str) => decide (sle' a b)) (fun a b c h1 h2 => decide_eq_true (sle_trans (of_decide_eq_true h1) (of_decide_eq_true h2))) (fun a b => by
    rcases sle_total a b with h | h <;> simp [h]) l
  exact h.imp fun h => of_decide_eq_true h
theorem sortedS_one {a b : List Str} (p : a.Perm b) (ha : a.Pairwise sle') (hb : b.Pairwise sle') : a = b := p.eq_of_pairwise (fun x y _ _ h1 h2 => sle_anti h1 h2) ha hb
theorem sortS_mem {l : List Str} {z : Str} : z ∈ sortS l ↔ z ∈ l := (sortS_perm l).mem_iff
theorem aq_fSortS {xs : List P} {l : List Str} [h : EL P.str xs l] {Q : P → Prop} : (fSortS [.lst xs] Q) = (l.length < 64 ∧ Q (sl (sortS l))) := by
  unfold fSortS
  rw [h.eq]
  simp only [List.cons.injEq, P.lst.injEq, str_inj, and_true, exists_eq_left']
  refine propext ⟨fun ⟨h1, h2⟩ => ⟨h1, h2 _ (sortS_perm l) (sortedS_iff.mpr (sortS_pw l))⟩, fun ⟨h1, h2⟩ => ⟨h1, fun ms p hs => ?_⟩⟩
  rw [sortedS_one (p.trans (sortS_perm l).symm) (sortedS_iff.mp hs) (sortS_pw l)]
  exact h2
theorem aq_fSortD {ks : List Key} {ys : List P} {α : Type} {enc : α → P} {d : List (Str × α)} [h : ED enc ks ys d] {Q : P → Prop} : (fSortD [.dct ks ys] Q) = ((d.map Prod.fst).length < 64 ∧ (∀ z ∈ d.map Prod.fst, SOk z) ∧ Q (sl (sortS (d.map Prod.fst)))) := by
  unfold fSortD
  have hk : ks = (d.map Prod.fst).map Sum.inr := by rw [h.k, List.map_map]; rfl
  have inj : ∀ {a b : List Str}, (List.map (Sum.inr : Str → Key) a = List.map Sum.inr b) = (a = b) := propext (List.map_inj_right fun x y e => Sum.inr.inj e)
  rw [hk]
  refine propext ⟨fun ⟨k2, y2, e, h1, h2, h3⟩ => ?_, fun ⟨h1, h2, h3⟩ => ⟨_, _, rfl, h1, h2, fun ms p hs => ?_⟩⟩
  · simp only [List.cons.injEq, P.dct.injEq, inj, and_true] at e
    obtain ⟨e, _⟩ := e
    rw [e]
    exact ⟨h1, h2, h3 _ (sortS_perm _) (sortedS_iff.mpr (sortS_pw _))⟩
  · rw [sortedS_one (p.trans (sortS_perm _).symm) (sortedS_iff.mp hs) (sortS_pw _)]
    exact h3
end Pf
namespace Pf
open PySem PySem.Spec PyProof.Rows L2
theorem rec_sok {z : Str} (h : isRec z = true) : SOk z := by
  have h2 := isRec_len h
  refine ⟨Nat.le_trans (show z.length ≤ 8 from h2.2) (by decide), fun c hc => ?_⟩
  unfold isRec at h
  rw [Bool.and_eq_true, Bool.and_eq_true, List.all_eq_true] at h
  have := of_decide_eq_true (h.2.2 c hc)
  have key : ∀ c ∈ signs, c < 1114112 := by decide +kernel
  exact key c this
end Pf
namespace Pf
open PySem PySem.Spec PyProof.Rows L2
theorem maxI_2 {a b : Int} : maxI [a, b] = max a b := rfl
theorem minI_2 {a b : Int} : minI [a, b] = min a b := rfl
theorem maxI_1 {a : Int} : maxI [a] = a := rfl
theorem minI_1 {a : Int} : minI [a] = a := rfl
end Pf
namespace Pf
open PySem PySem.Spec PyProof.Rows L2
theorem aq_atI {xs : List P} {l : List Int} [h : ML xs Int P.int l] {i c : Int} : (atI xs i = some (P.int c)) = (ixOk l.length i ∧ gx l i = c) := by
  have := aq_at (xs := xs) (enc := P.int) (l := l) (i := i) (Q := fun z => z = P.int c)
  simp only [exists_eq_right, P.int.injEq] at this
  exact this
theorem aq_atS {xs : List P} {l : List Str} [h : ML xs Str P.str l] {i : Int} {c : Str} : (atI xs i = some (P.str c)) = (ixOk l.length i ∧ gx l i = c) := by
  have := aq_at (xs := xs) (enc := P.str) (l := l) (i := i) (Q := fun z => z = P.str c)
  simp only [exists_eq_right, P.str.injEq] at this
  exact this
theorem take_len {α : Type} {l : List α} : l.take l.length = l := List.take_length
theorem take_snoc' {α : Type} {l : List α} {i : Nat} {a : α} (h : l[i]? = some a) : l.take (i + 1) = l.take i ++ [a] := by rw [List.take_add_one, h]; rfl
end Pf
namespace Pf
open PySem PySem.Spec PyProof.Rows L2
section
variable {K : PySem.W.Frag} {W : WX} {ro : Bool}
end
end Pf
namespace Pf
open PySem PySem.Spec PyProof.Rows L2
theorem InB.d1 {ds : List Int} {s0 : Int} (h : InB ds [s0]) : ∃ a0, ds = [a0] ∧ (0 ≤ a0 ∧ a0 < s0) := by
  obtain ⟨a0, r0, rfl, l0, u0, h⟩ := h.cons
  obtain rfl := h.nil
  exact ⟨_, rfl, ⟨l0, u0⟩⟩
theorem InB.d2 {ds : List Int} {s0 s1 : Int} (h : InB ds [s0, s1]) : ∃ a0 a1, ds = [a0, a1] ∧ (0 ≤ a0 ∧ a0 < s0) ∧ (0 ≤ a1 ∧ a1 < s1) := by
  obtain ⟨a0, r0, rfl, l0, u0, h⟩ := h.cons
  obtain ⟨a1, r1, rfl, l1, u1, h⟩ := h.cons
  obtain rfl := h.nil
  exact ⟨_, _, rfl, ⟨l0, u0⟩, ⟨l1, u1⟩⟩
theorem InB.d9 {ds : List Int} {s0 s1 s2 s3 s4 s5 s6 s7 s8 : Int} (h : InB ds [s0, s1, s2, s3, s4, s5, s6, s7, s8]) : ∃ a0 a1 a2 a3 a4 a5 a6 a7 a8, ds = [a0, a1, a2, a3, a4, a5, a6, a7, a8] ∧ (0 ≤ a0 ∧ a0 < s0) ∧ (0 ≤ a1 ∧ a1 < s1) ∧ (0 ≤ a2 ∧ a2 < s2) ∧ (0 ≤ a3 ∧ a3 < s3) ∧ (0 ≤ a4 ∧ a4 < s4) ∧ (0 ≤ a5 ∧ a5 < s5) ∧ (0 ≤ a6 ∧ a6 < s6) ∧ (0 ≤ a7 ∧ a7 < s7) ∧ (0 ≤ a8 ∧ a8 < s8) := by
  obtain ⟨a0, r0, rfl, l0, u0, h⟩ := h.cons
  obtain ⟨a1, r1, rfl, l1, u1, h⟩ := h.cons
  obtain ⟨a2, r2, rfl, l2, u2, h⟩ := h.cons
  obtain ⟨a3, r3, rfl, l3, u3, h⟩ := h.cons
  obtain ⟨a4, r4, rfl, l4, u4, h⟩ := h.cons
  obtain ⟨a5, r5, rfl, l5, u5, h⟩ := h.cons
  obtain ⟨a6, r6, rfl, l6, u6, h⟩ := h.cons
  obtain ⟨a7, r7, rfl, l7, u7, h⟩ := h.cons
  obtain ⟨a8, r8, rfl, l8, u8, h⟩ := h.cons
  obtain rfl := h.nil
  exact ⟨_, _, _, _, _, _, _, _, _, rfl, ⟨l0, u0⟩, ⟨l1, u1⟩, ⟨l2, u2⟩, ⟨l3, u3⟩, ⟨l4, u4⟩, ⟨l5, u5⟩, ⟨l6, u6⟩, ⟨l7, u7⟩, ⟨l8, u8⟩⟩
theorem InB.d13 {ds : List Int} {s0 s1 s2 s3 s4 s5 s6 s7 s8 s9 s10 s11 s12 : Int} (h : InB ds [s0, s1, s2, s3, s4, s5, s6, s7, s8, s9, s10, s11, s12]) : ∃ a0 a1 a2 a3 a4 a5 a6 a7 a8 a9 a10 a11 a12, ds = [a0, a1, a2, a3, a4, a5, a6, a7, a8, a9, a10, a11, a12] ∧ (0 ≤ a0 ∧ a0 < s0) ∧ (0 ≤ a1 ∧ a1 < s1) ∧ (0 ≤ a2 ∧ a2 < s2) ∧ (0 ≤ a3 ∧ a3 < s3) ∧ (0 ≤ a4 ∧ a4 < s4) ∧ (0 ≤ a5 ∧ a5 < s5) ∧ (0 ≤ a6 ∧ a6 < s6) ∧ (0 ≤ a7 ∧ a7 < s7) ∧ (0 ≤ a8 ∧ a8 < s8) ∧ (0 ≤ a9 ∧ a9 < s9) ∧ (0 ≤ a10 ∧ a10 < s10) ∧ (0 ≤ a11 ∧ a11 < s11) ∧ (0 ≤ a12 ∧ a12 < s12) := by
  obtain ⟨a0, r0, rfl, l0, u0, h⟩ := h.cons
  obtain ⟨a1, r1, rfl, l1, u1, h⟩ := h.cons
  obtain ⟨a2, r2, rfl, l2, u2, h⟩ := h.cons
  obtain ⟨a3, r3, rfl, l3, u3, h⟩ := h.cons
  obtain ⟨a4, r4, rfl, l4, u4, h⟩ := h.cons
  obtain ⟨a5, r5, rfl, l5, u5, h⟩ := h.cons
  obtain ⟨a6, r6, rfl, l6, u6, h⟩ := h.cons
  obtain ⟨a7, r7, rfl, l7, u7, h⟩ := h.cons
  obtain ⟨a8, r8, rfl, l8, u8, h⟩ := h.cons
  obtain ⟨a9, r9, rfl, l9, u9, h⟩ := h.cons
  obtain ⟨a10, r10, rfl, l10, u10, h⟩ := h.cons
  obtain ⟨a11, r11, rfl, l11, u11, h⟩ := h.cons
  obtain ⟨a12, r12, rfl, l12, u12, h⟩ := h.cons
  obtain rfl := h.nil
  exact ⟨_, _, _, _, _, _, _, _, _, _, _, _, _, rfl, ⟨l0, u0⟩, ⟨l1, u1⟩, ⟨l2, u2⟩, ⟨l3, u3⟩, ⟨l4, u4⟩, ⟨l5, u5⟩, ⟨l6, u6⟩, ⟨l7, u7⟩, ⟨l8, u8⟩, ⟨l9, u9⟩, ⟨l10, u10⟩, ⟨l11, u11⟩, ⟨l12, u12⟩⟩
end Pf

namespace Pf
open PySem PySem.Spec PyProof.Rows L2
theorem cntB_f {ls : List Int} {l : Int} : (((ls.filter fun x => decide (x < l)).length : Nat) : Int) = cntB ls l := rfl
theorem cntM_f {ls : List Int} {l : Int} : (((ls.filter fun x => decide (x ≤ l)).length : Nat) : Int) = cntM ls l := rfl
/-- the levels of the sheets that are not set aside -/
def spareL (ls as : List Int) : List Int := (ls.zipIdx.filter fun p => decide ((p.2 : Int) ∉ as)).map fun p => p.1
theorem zipIdx_map' {α β : Type} {f : α → β} {l : List α} {k : Nat} : (l.map f).zipIdx k = (l.zipIdx k).map fun p => (f p.1, p.2) := by
  induction l generalizing k with
  | nil => rfl
  | cons a l ih => simp only [List.map_cons, List.zipIdx_cons, ih]
theorem spareL_rows {rs : List (Int × Str)} {as : List Int} : (rs.zipIdx.filter fun p => decide ((p.2 : Int) ∉ as)).map (fun p => p.1.1) = spareL (rs.map Prod.fst) as := by
  unfold spareL
  rw [zipIdx_map', List.filter_map, List.map_map]
  rfl
theorem gx_cons {α : Type} [Inhabited α] {a : α} {l : List α} {i : Int} (h : 0 ≤ i) : gx (a :: l) (i + 1) = gx l i := by
  rw [gx_nn h, gx_nn (by omega), show (i + 1).toNat = i.toNat + 1 by omega, List.getElem?_cons_succ]
theorem rgI_succ {lo : Int} {n : Nat} : rgI lo (n + 1) = lo :: rgI (lo + 1) n := by
  unfold rgI
  rw [List.range_succ_eq_map, List.map_cons, List.map_map]
  refine List.cons_eq_cons.mpr ⟨by simp, List.map_congr_left fun i _ => ?_⟩
  simp only [Function.comp]
  omega
theorem range_zip {α β : Type} [Inhabited α] (c : Int → Bool) (f : Int → α → β) : ∀ (l : List α) (k : Nat), ((rgI (k : Int) l.length).filter c).map (fun i => f i (gx l (i - (k : Int)))) = ((l.zipIdx k).filter fun p => c (p.2 : Int)).map fun p => f (p.2 : Int) p.1
  | [], k => rfl
  | a :: l, k => by
    have ih := range_zip c f l (k + 1)
    have h1 : ∀ i ∈ rgI ((k : Int) + 1) l.length, gx (a :: l) (i - (k : Int)) = gx l (i - ((k + 1 : Nat) : Int)) := fun i hi => by
      have := rgI_mem.mp hi
      rw [show i - (k : Int) = (i - ((k + 1 : Nat) : Int)) + 1 by omega, gx_cons (by omega)]
    have h2 : ((rgI ((k : Int) + 1) l.length).filter c).map (fun i => f i (gx (a :: l) (i - (k : Int)))) = ((rgI (((k + 1 : Nat) : Int)) l.length).filter c).map (fun i => f i (gx l (i - ((k + 1 : Nat) : Int)))) := by
      rw [show (((k + 1 : Nat) : Int)) = (k : Int) + 1 by omega]
      refine List.map_congr_left fun i hi => ?_
      rw [h1 i (List.mem_filter.mp hi).1, show ((k + 1 : Nat) : Int) = (k : Int) + 1 by omega]
    rw [List.length_cons, rgI_succ, List.zipIdx_cons, List.filter_cons, List.filter_cons]
    have h0 : gx (a :: l) ((k : Int) - (k : Int)) = a := by rw [Int.sub_self]; exact gx_0
    split
    · rename_i hc
      rw [List.map_cons, List.map_cons, h0, h2, ih]
    · rename_i hc
      rw [h2, ih]
theorem spareL_range {ls as : List Int} : ((rgI 0 ls.length).filter fun k => decide (k ∉ as)).map (gx ls) = spareL ls as := by
  have h := range_zip (fun k => decide (k ∉ as)) (fun _ a => a) ls 0
  simp only [Int.natCast_zero, Int.sub_zero] at h
  exact h
theorem spareL_len {ls as : List Int} : (spareL ls as).length ≤ ls.length := by
  unfold spareL
  rw [List.length_map]
  refine Nat.le_trans (List.length_filter_le _ _) ?_
  rw [List.length_zipIdx]; exact Nat.le_refl _
theorem spareL_nil {ls : List Int} : spareL ls [] = ls := by
  unfold spareL
  rw [List.filter_eq_self.mpr (by simp)]
  have := @List.zipIdx_map_fst Int 0 ls
  exact this
end Pf

namespace Pf
open PySem PySem.Spec PyProof.Rows L2
theorem meetsIn_enum_any {prog : Program} {w : World} (a : Addr) : MeetsIn prog w (Builtin.«enumerate.__new__» ⟨[.type "enumerate", .ref a], []⟩) (fun A R s =>
    wpAny (model prog w) A.in1 (pyIter (.ref a)) (fun it s' => R (.ok (.ret (.ref s'.heap.objs.size))) { s' with heap := s'.heap.push { cls := .type "enumerate", data := .fields #[.none, .bool false, it, rawInt 0, .none, .none] } }) (fun e s' => R (.error e) s') s) := by
  intro A R s h
  have hsub := sub_enumerate
  have h' : ∀ {Q : Value → Shared → Prop}, (∀ it s', R (.ok (.ret (.ref s'.heap.objs.size))) { s' with heap := s'.heap.push { cls := .type "enumerate", data := .fields #[.none, .bool false, it, rawInt 0, .none, .none] } } → Q it s') → wpAny (model prog w) A.in1 (pyIter (.ref a)) Q (fun e s' => R (.error e) s') s := fun hq => wpAny_mono h hq fun _ _ z => z
  wp_walk
  refine wpAny_stack_any fun st => wpAny_pure ?_
  clear h
  split
  · rename_i c _ _ _ _ _
    cases (c == Value.type "enumerate")
    · wp_walk using h'
      intro it s' hr
      wp_walk
      exact hr
    · wp_walk using h'
      intro it s' hr
      wp_walk
      exact hr
  · wp_walk using h'
    intro it s' hr
    wp_walk
    exact hr
/-- what enumerate(o) makes -/
theorem call_enumerate_any {prog : Program} {w : World} {A : Around} {E : Value → Shared → Prop} {s : Shared} {a : Addr} {Q : Value → Shared → Prop}
    (h : wpAny (model prog w) A.in1.in1 (pyIter (.ref a)) (fun it s' => Q (.ref s'.heap.objs.size) { s' with heap := s'.heap.push { cls := .type "enumerate", data := .fields #[.none, .bool false, it, rawInt 0, .none, .none] } }) E s) :
    wpAny (model prog w) A (call (.type "enumerate") [.ref a]) Q E s := by
  refine callType_newIn F.called_enumerate (by decide) (F.typeCall_enumerate_1 _) (F.newCall_enumerate_1 _) (fun obj => F.args_object_init_2 obj _) F.entry_enumerate_new (meetsIn_enum_any a) ?_
  refine wpAny_mono h (fun it s' hq => ?_) fun _ _ z => z
  exact ⟨⟨_, Heap.get?_push_size _ rfl, rfl⟩, hq⟩
section
variable {X : Cx} {CX : CXT} {n : Nat} {f C : Addr} {fd : FuncData} {ps : List Str} {spn : Nat → Sp} {E : XK}
def iEnO (K : PySem.W.Frag) (C : Addr) (spn : Nat → Sp) (E : XK) (te : TE) : TI := fun σ H R => te σ H fun x H1 => ∃ a dx fs, x = .ref a ∧ H1 a = some (.ins C dx fs) ∧ ∀ n,
  spn n [.ref a] H1 (fun v H2 => ∃ it l, v = .ref it ∧ n ≤ it ∧ H2 it = some (ItO l it 0) ∧ R (Ite K l) (ItX.dropH H2 it)) E
theorem pi_enumO {e : Expr} {te : TE} {p pos tpos : Pos} {elts : List Expr} {kk : Nat} (hg : Gl X "enumerate") (hm : X.mg "enumerate" = none) (he : PE X e te) (F : FnN X.prog X.w X.K X.mg X.base CX n f fd ps spn) (hs : PySem.W.findIn X.K (.ref C) "__iter__" = some (some (.ref f))) (hf : PySem.W.isFn X.K (.ref f) = true) (hb : Binds X.K fd ps []) (hx : Passes CX X E) (hr : Room (n + 2) X.A)
    (na : starEach [e] X.env = (false, eval e X.env) :: starEach [] X.env := by rfl) :
    PI X (.Tuple elts kk tpos) (.Call (.Name "enumerate" p) [e] [] pos) (iEnO X.K C spn E te) := by
  refine ⟨fun pins s σ H R I h => ?_⟩
  refine Call_ (ld_blt I hg hm boot_enumerate (PyProof.Rows.callWith_type1 (one_arg he I h (fun v s1 x H1 I1 r1 q1 => ?_) na) na))
  obtain ⟨a, dx, fs, rfl, ha, hsp⟩ := q1
  cases r1
  obtain ⟨mA, J, _⟩ := ins_get I1.hok ha
  obtain ⟨od, J, _⟩ := J.look
  obtain ⟨m, hF⟩ := I1.fr
  refine call_enumerate_any ?_
  refine PySem.W.owit_iter hF I1.ok.mod.kin J hs hf ?_
  refine wpAny_mono (run_subN F hb (Sub.in1 (Sub.in1 (⟨hr, rfl⟩ : Sub X (n + 2) X.A))) hx I1 (show Vals [V.ref a] [Value.ref a] from .cons rfl .nil) (hsp _)) (fun z s' hz => ?_) fun _ _ y => y
  obtain ⟨v, H2, I2, rz, ⟨it, l, rfl, hbig, hit, q⟩, fr⟩ := hz
  obtain rfl : z = Value.ref it := rz
  have eo := itO_get I2 hit
  have hT : s'.TypeIs (.ref it) "list_iterator" := ⟨_, eo, rfl⟩
  unfold PySem.W.OwitIt
  refine wpAny_specialOf (name := Str.ofString "__next__") hT slot_listiter_next.lookup ?_
  have st : s'.heap.IsListIter it l 0 := ⟨_, eo, rfl, rfl⟩
  have hi' := hit
  unfold ItO at hi'
  have I3 := ItX.inv_drop I2 hi'
  have I4 : Inv X pins σ (ItX.dropH H2 it) { s' with heap := s'.heap.push { cls := .type "enumerate", data := .fields #[.none, .bool false, .ref it, rawInt 0, .none, .none] } } := I3.kept (t' := s'.toks) fun b o q => Heap.get?_push_of_some _ q
  have hE : IsEnum (s'.heap.push { cls := .type "enumerate", data := .fields #[.none, .bool false, .ref it, rawInt 0, .none, .none] }) s'.heap.objs.size it 0 .none := Heap.get?_push_size _ rfl
  have hlt : it < s'.heap.objs.size := Heap.lt_size eo
  refine wpAny_pyIter_enum hE ?_
  refine ⟨s'.heap.objs.size, [s'.heap.objs.size, it], _, _, ItX.dropH H2 it, rfl, I4, turn_enum l s'.heap.objs.size it, ⟨⟨.none, hE⟩, st.at fun o q => Heap.get?_push_of_some _ q, Nat.ne_of_gt hlt⟩, fun b hb => ?_, q⟩
  have e' : b = s'.heap.objs.size ∨ b = it := by simpa using hb
  rcases e' with z | z
  · rw [z]
    exact I3.fpOk (Nat.le_refl _) (I3.hok.fresh (Nat.le_refl _))
  · rw [z]
    exact ItX.inv_fp I2 hit (Nat.le_trans I1.sz hbig)
end
section
variable {K : PySem.W.Frag} {W : WX}
def wIEO (C : Addr) (f : Str) (o : WE) : WI := fun env Q X => o env (fun x => onIns C x fun ns xs => ∃ rs, lookN ns xs f = some (.lst rs) ∧ Q (enumP rs)) X
theorem si_enumO {C : Addr} {f : Str} {E : XK} {te : TE} {o : WE} (h : SE K W .C te o) : SimI K W (iEnO K C (spIter K C f) E te) (wIEO C f o) := fun F0 H0 σ F H env Qp Xp Rr g hw hx q =>
  h F0 H0 σ F H env _ Xp _ g hw hx fun F1 H1 v x m r h1 => by
    obtain ⟨a, dx, fs, ns, ys, rfl, ha, l, rl, rs, hy, h1⟩ := onIns_of m.fh r h1
    obtain ⟨w, ew, rw'⟩ := look_of l rl hy
    cases rw' with
    | lst hf rr =>
      refine ⟨a, dx, fs, rfl, ha, fun n => ⟨a, dx, fs, _, _, rfl, ha, ew, SqL.of (m.fh _ _ hf), fun it ni hn => ⟨it, _, rfl, hn, upd_same, ?_⟩⟩⟩
      rw [ItX.dropH_upd ni]
      exact q F1 H1 _ _ m (wkd_enum (fun F2 H2 o => ⟨SqL.of (o.2.1 _ _ (o.1 _ _ hf)), rr.mono o.1, o.2.1⟩) rr.len) h1
theorem ap_ieo {C : Addr} {f : Str} {o : WE} {env : PEnv} {Q : List P → Prop} {X : XP} : (wIEO C f o env Q X) = (o env (fun x => onIns C x fun ns xs => ∃ rs, lookN ns xs f = some (.lst rs) ∧ Q (enumP rs)) X) := rfl
end
end Pf
namespace Pf
open PySem PySem.Spec PyProof.Rows L2
/-- drawn in turn from sizes that repeat -/
theorem InB.rp {ds l : List Int} {n : Nat} (h : InB ds (List.replicate n l).flatten) {k : Int} (h0 : 0 ≤ k) (h1 : k < ((n * l.length : Nat) : Int)) : 0 ≤ gx ds k ∧ gx ds k < gx l (k % (l.length : Int)) := by
  have hl : 0 < l.length := by
    rcases Nat.eq_zero_or_pos l.length with e | e
    · rw [e, Nat.mul_zero] at h1; omega
    · exact e
  have hm : k.toNat % l.length < l.length := Nat.mod_lt _ hl
  have hk : (k % (l.length : Int)) = ((k.toNat % l.length : Nat) : Int) := by
    rw [Int.natCast_emod]
    congr 1
    omega
  refine h.b h0 ?_
  rw [flat_get l n _ hl (by omega), List.getElem?_eq_getElem hm, hk, gx_get hm]
theorem rep_len {l : List Int} {n : Nat} : (List.replicate n l).flatten.length = n * l.length := flat_len l n
end Pf
namespace Pf
open PySem PySem.Spec PyProof.Rows L2
/-- one slot gets what has I, others anything -/
theorem cutAT {a b : WS} {D : PEnds} {env : PEnv} {β : Type} (ts : List Nat) (i : Nat) (m : Mo) (f : β → P) (I : β → Prop) (h : a { D with nx := fun e => ∃ c, I c ∧ Any ts (env.set i (some (m, f c))) e } env) (hd : ∀ c e, I c → Any ts (env.set i (some (m, f c))) e → b D e) : wCut a b D env := ⟨_, h, fun e ⟨c, hc, he⟩ => hd c e hc he⟩
theorem nodup_take {α : Type} [Inhabited α] {l : List α} {i : Nat} (h : l.Nodup) (hi : i < l.length) : gx l (i : Int) ∉ l.take i := fun hm => by
  rw [gx_get hi] at hm
  obtain ⟨j, hj⟩ := List.mem_iff_getElem?.mp hm
  rw [List.getElem?_take] at hj
  split at hj
  · rename_i hji
    rw [List.getElem?_eq_getElem (by omega)] at hj
    have e := Option.some.inj hj
    exact (List.pairwise_iff_getElem.mp h) j i (by omega) hi hji e
  · cases hj
end Pf
namespace Pf
open PySem PySem.Spec PyProof.Rows L2
theorem map_rev {α β : Type} {f : α → β} {l : List α} : (l.map f).reverse = l.reverse.map f := List.map_reverse.symm
end Pf
namespace Pf
open PySem PySem.Spec PyProof.Rows L2
theorem cut_map {α : Type} {enc : α → P} {l : List α} {lo hi : Option Int} : cutP (l.map enc) lo hi = (cutL l lo hi).map enc := by
  unfold cutP cutL; rw [List.length_map, List.map_take, List.map_drop]
theorem rng_inj {lo : Int} {n : Nat} {c : List Int} : (rng lo n = List.map P.int c) = (rgI lo n = c) := by rw [rng_eq, int_inj]
theorem nil_map {α β : Type} {f : α → β} {l : List α} : ([] = l.map f) = (l = []) := by rw [List.nil_eq, List.map_eq_nil_iff]
end Pf

namespace Pf
open PySem PySem.Spec PyProof.Rows L2
theorem snoc_ind {α : Type} {p : List α → Prop} (h0 : p []) (hs : ∀ l a, p l → p (l ++ [a])) (l : List α) : p l := by
  have key : ∀ m : List α, p m.reverse := fun m => by
    induction m with
    | nil => exact h0
    | cons a m ih => rw [List.reverse_cons]; exact hs _ _ ih
  have := key l.reverse
  rwa [List.reverse_reverse] at this
theorem capI_step {x e w : Int} (hw : 1 ≤ w) : capI (x + 1) e w - capI x e w = if x + 1 < e then 0 else if x + 1 = e then 1 else w * (w + 1) ^ (x - e).toNat := by
  unfold capI
  by_cases h : x + 1 < e
  · rw [if_pos h, if_pos (show x < e by omega), if_pos h]; rfl
  · rw [if_neg h, if_neg h]
    by_cases h2 : x + 1 = e
    · rw [if_pos (show x < e by omega), if_pos h2, show (x + 1 - e).toNat = 0 by omega, Int.pow_zero]; rfl
    · rw [if_neg (show ¬ x < e by omega), if_neg h2, show (x + 1 - e).toNat = (x - e).toNat + 1 by omega, Int.pow_succ, Int.mul_add, Int.mul_one, Int.mul_comm w]
      omega
theorem pow_ge1 {w : Int} (hw : 0 ≤ w) (n : Nat) : 1 ≤ (w + 1) ^ n := by
  obtain ⟨k, e1, e⟩ := pow_nat (n := n) hw
  rw [e]
  have h3 : 1 ^ n ≤ (k + 1) ^ n := Nat.pow_le_pow_left (by omega) _
  rw [Nat.one_pow] at h3
  omega
theorem capI_step0 {y e w : Int} (hw : 1 ≤ w) : 0 ≤ capI (y + 1) e w - capI y e w ∧ (e ≤ y + 1 → 1 ≤ capI (y + 1) e w - capI y e w) := by
  rw [capI_step hw]
  have p1 := pow_ge1 (w := w) (by omega) (y - e).toNat
  have p2 : w * 1 ≤ w * (w + 1) ^ (y - e).toNat := Int.mul_le_mul_of_nonneg_left p1 (by omega)
  by_cases h : y + 1 < e
  · rw [if_pos h]; omega
  · rw [if_neg h]
    by_cases h2 : y + 1 = e
    · rw [if_pos h2]; omega
    · rw [if_neg h2]; omega
theorem capI_inc {x e w : Int} (hw : 1 ≤ w) : capI x e w ≤ capI (x + 1) e w := by
  have := (capI_step0 (y := x) (e := e) hw).1
  omega
theorem capI_mono {x y e w : Int} (hw : 1 ≤ w) (h : x ≤ y) : capI x e w ≤ capI y e w := by
  have key : ∀ n : Nat, capI x e w ≤ capI (x + (n : Int)) e w := fun n => by
    induction n with
    | zero => simp
    | succ n ih =>
      have := capI_inc (x := x + (n : Int)) (e := e) hw
      rw [show x + ((n + 1 : Nat) : Int) = x + (n : Int) + 1 by omega]
      omega
  have := key (y - x).toNat
  rwa [show x + ((y - x).toNat : Int) = y by omega] at this
end Pf
namespace Pf
open PySem PySem.Spec PyProof.Rows L2
end Pf
namespace Pf
open PySem PySem.Spec PyProof.Rows L2
end Pf

namespace Pf
open PySem PySem.Spec PyProof.Rows L2
def shD (rs : List (Int × Str)) : List (Str × Int) := rs.foldl (fun d r => dput d r.2 ((dget d r.2).getD 0 + 1)) []
theorem shD_snoc {rs : List (Int × Str)} {r : Int × Str} : shD (rs ++ [r]) = dput (shD rs) r.2 ((dget (shD rs) r.2).getD 0 + 1) := by
  unfold shD
  rw [List.foldl_append]; rfl
theorem shD_take {rs : List (Int × Str)} {i : Nat} {r : Int × Str} (h : rs[i]? = some r) : shD (rs.take (i + 1)) = dput (shD (rs.take i)) r.2 ((dget (shD (rs.take i)) r.2).getD 0 + 1) := by rw [take_snoc' h, shD_snoc]
def cntR (rs : List (Int × Str)) (z : Str) : Nat := (rs.filter fun r => decide (r.2 = z)).length
theorem cntR_snoc {rs : List (Int × Str)} {r : Int × Str} {z : Str} : cntR (rs ++ [r]) z = cntR rs z + if r.2 = z then 1 else 0 := by
  unfold cntR
  rw [List.filter_append, List.length_append]
  by_cases h : r.2 = z
  · rw [if_pos h, List.filter_cons_of_pos (by simpa using h)]; rfl
  · rw [if_neg h, List.filter_cons_of_neg (by simpa using h)]; rfl
theorem cntR_none {rs : List (Int × Str)} {z : Str} (h : z ∉ rs.map Prod.snd) : cntR rs z = 0 := by
  unfold cntR
  rw [List.length_eq_zero_iff, List.filter_eq_nil_iff]
  intro r hr e
  exact h (List.mem_map.mpr ⟨r, hr, by simpa using e⟩)
theorem shD_get (rs : List (Int × Str)) (z : Str) : dget (shD rs) z = if z ∈ rs.map Prod.snd then some (cntR rs z : Int) else none := by
  refine snoc_ind (p := fun rs => dget (shD rs) z = if z ∈ rs.map Prod.snd then some (cntR rs z : Int) else none) (by simp [shD, dget]) (fun rs r ih => ?_) rs
  rw [shD_snoc, dget_put, cntR_snoc, List.map_append]
  by_cases hz : z = r.2
  · subst hz
    rw [if_pos rfl, if_pos (by simp), if_pos rfl, ih]
    split
    · simp
    · rename_i h
      rw [cntR_none h]; rfl
  · rw [if_neg hz, ih, show (if r.2 = z then 1 else 0) = 0 from if_neg fun e => hz e.symm]
    by_cases hm : z ∈ rs.map Prod.snd
    · rw [if_pos hm, if_pos (List.mem_append_left _ hm)]; rfl
    · rw [if_neg hm, if_neg]
      simp only [List.mem_append, List.map_cons, List.map_nil, List.mem_singleton, not_or]
      exact ⟨hm, hz⟩
theorem shD_nodup (rs : List (Int × Str)) : ((shD rs).map Prod.fst).Nodup :=
  snoc_ind (p := fun rs => ((shD rs).map Prod.fst).Nodup) (by simp [shD]) (fun rs r ih => by rw [shD_snoc]; exact dput_nodup ih) rs
theorem shD_mem {rs : List (Int × Str)} {z : Str} : z ∈ (shD rs).map Prod.fst ↔ z ∈ rs.map Prod.snd := by
  rw [← dget_mem, shD_get]
  split
  · rename_i h; simp [h]
  · rename_i h; simp only [Option.isSome_none, Bool.false_eq_true, false_iff]; exact h
theorem shD_len {rs : List (Int × Str)} : (shD rs).length ≤ rs.length := by
  have := nodup_le (shD_nodup rs) fun z hz => shD_mem.mp hz
  rwa [List.length_map, List.length_map] at this
end Pf
namespace Pf
open PySem PySem.Spec PyProof.Rows L2
theorem aq_fSortDI {ks : List Key} {ys : List P} {d : List (Str × Int)} [h : ED P.int ks ys d] {Q : P → Prop} : (fSortD [.dct ks ys] Q) = ((d.map Prod.fst).length < 64 ∧ (∀ z ∈ d.map Prod.fst, SOk z) ∧ Q (sl (sortS (d.map Prod.fst)))) := aq_fSortD (enc := P.int)
theorem aq_retO0 {D : PEnds} {x : P} {r : PEnv} : wRetO 0 D (some (.o, x) :: r) = D.rt x := rfl
theorem aq_retO1 {D : PEnds} {x : P} {a0 : Option (Mo × P)} {r : PEnv} : wRetO 1 D (a0 :: some (.o, x) :: r) = D.rt x := rfl
theorem aq_retO2 {D : PEnds} {x : P} {a0 a1 : Option (Mo × P)} {r : PEnv} : wRetO 2 D (a0 :: a1 :: some (.o, x) :: r) = D.rt x := rfl
theorem aq_retO3 {D : PEnds} {x : P} {a0 a1 a2 : Option (Mo × P)} {r : PEnv} : wRetO 3 D (a0 :: a1 :: a2 :: some (.o, x) :: r) = D.rt x := rfl
theorem aq_retO4 {D : PEnds} {x : P} {a0 a1 a2 a3 : Option (Mo × P)} {r : PEnv} : wRetO 4 D (a0 :: a1 :: a2 :: a3 :: some (.o, x) :: r) = D.rt x := rfl
theorem aq_retO5 {D : PEnds} {x : P} {a0 a1 a2 a3 a4 : Option (Mo × P)} {r : PEnv} : wRetO 5 D (a0 :: a1 :: a2 :: a3 :: a4 :: some (.o, x) :: r) = D.rt x := rfl
theorem aq_retO6 {D : PEnds} {x : P} {a0 a1 a2 a3 a4 a5 : Option (Mo × P)} {r : PEnv} : wRetO 6 D (a0 :: a1 :: a2 :: a3 :: a4 :: a5 :: some (.o, x) :: r) = D.rt x := rfl
theorem aq_retO7 {D : PEnds} {x : P} {a0 a1 a2 a3 a4 a5 a6 : Option (Mo × P)} {r : PEnv} : wRetO 7 D (a0 :: a1 :: a2 :: a3 :: a4 :: a5 :: a6 :: some (.o, x) :: r) = D.rt x := rfl
theorem aq_retO8 {D : PEnds} {x : P} {a0 a1 a2 a3 a4 a5 a6 a7 : Option (Mo × P)} {r : PEnv} : wRetO 8 D (a0 :: a1 :: a2 :: a3 :: a4 :: a5 :: a6 :: a7 :: some (.o, x) :: r) = D.rt x := rfl
end Pf
namespace Pf
open PySem PySem.Spec PyProof.Rows L2
theorem sheetsI_rg {rs : List (Int × Str)} {z : Str} : (rgI 0 rs.length).filter (fun a => decide ((gx rs a).2 = z)) = sheetsI rs z := by
  have h := range_zip (fun i => decide ((gx rs i).2 = z)) (fun i _ => i) rs 0
  rw [List.map_id'] at h
  refine h.trans ?_
  unfold sheetsI
  congr 1
  refine List.filter_congr fun p hp => ?_
  have := List.mem_zipIdx_iff_getElem?.mp hp
  rw [gx_nn (by omega), Int.toNat_natCast, this]
  rfl
end Pf
namespace Pf
open PySem PySem.Spec PyProof.Rows L2
end Pf
namespace Pf
open PySem PySem.Spec PyProof.Rows L2
theorem fil_f {α : Type} {l : List α} : l.filter (fun _ => false) = [] := by simp
theorem okR_of {rs : List (Int × Str)} (h : 0 < rs.length) (hr : ∀ r ∈ rs, isRec r.2 = true) : okR rs :=
  ⟨fun e => by rw [e] at h; exact absurd h (by decide), by rw [fb_none fun j q2 hq2 => hr q2 (List.mem_of_getElem? hq2)]; decide⟩
end Pf

namespace Pf
open PySem PySem.Spec PyProof.Rows L2
end Pf
namespace Pf
open PySem PySem.Spec PyProof.Rows L2
theorem rgI_gx {α : Type} [Inhabited α] {ls : List α} : (rgI 0 ls.length).map (gx ls) = ls := by
  have h := range_zip (fun _ => true) (fun _ a => a) ls 0
  simp only [Int.natCast_zero, Int.sub_zero] at h
  rw [List.filter_eq_self.mpr (by simp), List.filter_eq_self.mpr (by simp), List.zipIdx_map_fst] at h
  exact h
end Pf
namespace Pf
open PySem PySem.Spec PyProof.Rows L2
end Pf

namespace Pf
open PySem PySem.Spec PyProof.Rows L2
def ascB (ts : List Int) : Bool := ((ts.zip (ts.drop 1)).map fun p => decide (p.1 < p.2)).all id
def inB (n : Nat) (is : List Int) : Bool := (is.map fun i => decide (0 ≤ i ∧ i < (n : Int))).all id
def wfB (n : Nat) (s : Int) (ts : List Int) : Bool := if ts = [] then false else if ascB ts = true then inB n (s :: ts) else false
def alB (rs : List (Int × Str)) (s : Int) (ts : List Int) (w : Int) : Bool := if w < (ts.length : Int) then false else if wfB rs.length s ts = true then (ts.map fun t => decide ((gx rs t).1 < (gx rs s).1)).all id else false
theorem inB_iff {n : Nat} {is : List Int} : inB n is = true ↔ ∀ i ∈ is, 0 ≤ i ∧ i < (n : Int) := by
  unfold inB
  rw [List.all_eq_true]
  refine ⟨fun h i hi => ?_, fun h b hb => ?_⟩
  · have := h _ (List.mem_map.mpr ⟨i, hi, rfl⟩)
    exact of_decide_eq_true this
  · obtain ⟨i, hi, rfl⟩ := List.mem_map.mp hb
    exact decide_eq_true (h i hi)
theorem wfB_in {n : Nat} {s : Int} {ts : List Int} (h : wfB n s ts = true) : (0 ≤ s ∧ s < (n : Int)) ∧ ∀ i ∈ ts, 0 ≤ i ∧ i < (n : Int) := by
  unfold wfB at h
  split at h
  · cases h
  · split at h
    · have h := inB_iff.mp h
      exact ⟨h s List.mem_cons_self, fun i hi => h i (List.mem_cons_of_mem _ hi)⟩
    · cases h
end Pf
namespace Pf
open PySem PySem.Spec PyProof.Rows L2
section
variable {K : PySem.W.Frag} {W : WX} {ro : Bool}
end
end Pf
namespace Pf
open PySem PySem.Spec PyProof.Rows L2
section
variable {K : PySem.W.Frag} {W : WX}
end
end Pf
namespace Pf
open PySem PySem.Spec PyProof.Rows L2
section
variable {K : PySem.W.Frag} {W : WX}
end
end Pf
namespace Pf
open PySem PySem.Spec PyProof.Rows L2
/-- the sheets is are worn to r -/
def setR (rs : List (Int × Str)) (r : Int × Str) : List Int → List (Int × Str)
  | [] => rs
  | i :: is => setR (rs.set i.toNat r) r is
def aftR (rs : List (Int × Str)) (s : Int) (ts : List Int) : List (Int × Str) := setR rs ((gx rs s).1 - 1, (gx rs s).2) (s :: ts)
theorem setR_len {rs : List (Int × Str)} {r : Int × Str} {is : List Int} : (setR rs r is).length = rs.length := by
  induction is generalizing rs with
  | nil => rfl
  | cons i is ih => unfold setR; rw [ih, List.length_set]
theorem setR_rc {rs : List (Int × Str)} {r : Int × Str} {is : List Int} (h : ∀ q ∈ rs, isRec q.2 = true) (hr : isRec r.2 = true) : ∀ q ∈ setR rs r is, isRec q.2 = true := by
  induction is generalizing rs with
  | nil => exact h
  | cons i is ih =>
    unfold setR
    refine ih fun q hq => ?_
    rcases List.mem_or_eq_of_mem_set hq with hq | rfl
    · exact h q hq
    · exact hr
theorem setR_snoc {rs : List (Int × Str)} {r : Int × Str} {is : List Int} {i : Int} : setR rs r (is ++ [i]) = (setR rs r is).set i.toNat r := by
  induction is generalizing rs with
  | nil => rfl
  | cons j is ih => rw [List.cons_append]; unfold setR; rw [ih]
end Pf
namespace Pf
open PySem PySem.Spec PyProof.Rows L2
theorem alB_iff {rs : List (Int × Str)} {s w : Int} {ts : List Int} : alB rs s ts w = true ↔ wfB rs.length s ts = true ∧ (ts.length : Int) ≤ w ∧ ∀ t ∈ ts, (gx rs t).1 < (gx rs s).1 := by
  unfold alB
  by_cases h : w < (ts.length : Int)
  · rw [if_pos h]
    exact ⟨fun h => (by cases h), fun q => absurd q.2.1 (by omega)⟩
  rw [if_neg h]
  by_cases h2 : wfB rs.length s ts = true
  · rw [if_pos h2, List.all_eq_true]
    refine ⟨fun q => ⟨h2, by omega, fun t ht => of_decide_eq_true (q _ (List.mem_map.mpr ⟨t, ht, rfl⟩))⟩, fun q b hb => ?_⟩
    obtain ⟨t, ht, rfl⟩ := List.mem_map.mp hb
    exact decide_eq_true (q.2.2 t ht)
  · rw [if_neg h2]
    exact ⟨fun h => (by cases h), fun q => absurd q.1 h2⟩
end Pf
namespace Pf
open PySem PySem.Spec PyProof.Rows L2
theorem ascB_iff {ts : List Int} : ascB ts = true ↔ ∀ j : Nat, j + 1 < ts.length → gx ts (j : Int) < gx ts ((j : Int) + 1) := by
  unfold ascB
  rw [List.all_eq_true]
  have hz : ∀ j : Nat, j + 1 < ts.length → (ts.zip (ts.drop 1))[j]? = some (gx ts (j : Int), gx ts ((j : Int) + 1)) := fun j hj => by
    have e1 : ts[j]? = some (gx ts (j : Int)) := by rw [gx_get (by omega), List.getElem?_eq_getElem (by omega)]
    have e2 : (ts.drop 1)[j]? = some (gx ts ((j : Int) + 1)) := by
      rw [List.getElem?_drop, show ((j : Int) + 1) = ((1 + j : Nat) : Int) by omega, gx_get (by omega), List.getElem?_eq_getElem (by omega)]
    exact List.getElem?_zip_eq_some.mpr ⟨e1, e2⟩
  refine ⟨fun h j hj => ?_, fun h b hb => ?_⟩
  · exact of_decide_eq_true (h _ (List.mem_map.mpr ⟨_, List.mem_of_getElem? (hz j hj), rfl⟩))
  · obtain ⟨p, hp, rfl⟩ := List.mem_map.mp hb
    obtain ⟨j, hj⟩ := List.mem_iff_getElem?.mp hp
    have hl := (List.getElem?_eq_some_iff.mp hj).1
    rw [List.length_zip, List.length_drop] at hl
    rw [hz j (by omega)] at hj
    obtain rfl := Option.some.inj hj
    exact decide_eq_true (h j (by omega))
theorem wfB_iff {n : Nat} {s : Int} {ts : List Int} : wfB n s ts = true ↔ 0 < ts.length ∧ ascB ts = true ∧ ∀ i ∈ s :: ts, 0 ≤ i ∧ i < (n : Int) := by
  unfold wfB
  by_cases h : ts = []
  · rw [if_pos h]
    exact ⟨fun h => (by cases h), fun q => by rw [h] at q; exact absurd q.1 (by decide)⟩
  rw [if_neg h]
  by_cases h2 : ascB ts = true
  · rw [if_pos h2, inB_iff]
    exact ⟨fun q => ⟨List.length_pos_iff.mpr h, h2, q⟩, fun q => q.2.2⟩
  · rw [if_neg h2]
    exact ⟨fun h => (by cases h), fun q => absurd q.2.1 h2⟩
end Pf
namespace Pf
open PySem PySem.Spec PyProof.Rows L2
theorem rgI_pw {a : Int} {n : Nat} : (rgI a n).Pairwise (· < ·) := by
  unfold rgI
  rw [List.pairwise_map]
  exact List.pairwise_lt_range.imp fun h => by omega
end Pf

namespace Pf
open PySem PySem.Spec PyProof.Rows L2
section
variable {rs : List Int} {s t b : Int}
end
theorem sum_le2 {α : Type} {f g : α → Int} {l : List α} (h : ∀ x ∈ l, f x ≤ g x) : (l.map f).sum ≤ (l.map g).sum := by
  induction l with
  | nil => exact Int.le_refl _
  | cons x l ih =>
    rw [List.map_cons, List.map_cons, List.sum_cons, List.sum_cons]
    have := ih fun y hy => h y (List.mem_cons_of_mem _ hy)
    have := h x List.mem_cons_self
    omega
def aftL (rs : List (Int × Str)) : List (Int × List Int) → List (Int × Str)
  | [] => rs
  | d :: ds => aftL (aftR rs d.1 d.2) ds
def logOk (rs : List (Int × Str)) (w : Int) : List (Int × List Int) → Prop
  | [] => True
  | d :: ds => alB rs d.1 d.2 w = true ∧ logOk (aftR rs d.1 d.2) w ds
theorem aftR_len {rs : List (Int × Str)} {s : Int} {ts : List Int} : (aftR rs s ts).length = rs.length := setR_len
theorem aftL_len {ds : List (Int × List Int)} : ∀ {rs : List (Int × Str)}, (aftL rs ds).length = rs.length := by
  induction ds with
  | nil => intro rs; rfl
  | cons d ds ih => intro rs; exact ih.trans aftR_len
theorem aftL_snoc {d : Int × List Int} {ds : List (Int × List Int)} : ∀ {rs : List (Int × Str)}, aftL rs (ds ++ [d]) = aftR (aftL rs ds) d.1 d.2 := by
  induction ds with
  | nil => intro rs; rfl
  | cons e ds ih => intro rs; exact ih
theorem aftR_rc {rs : List (Int × Str)} {s w : Int} {ts : List Int} (h : alB rs s ts w = true) (hr : ∀ r ∈ rs, isRec r.2 = true) : ∀ r ∈ aftR rs s ts, isRec r.2 = true := by
  have hs := (wfB_iff.mp (alB_iff.mp h).1).2.2 s List.mem_cons_self
  exact setR_rc hr (show isRec (gx rs s).2 = true from hr _ (gx_mem ⟨by omega, hs.2⟩))
end Pf
namespace Pf
open PySem PySem.Spec PyProof.Rows L2
section
variable {cc : WT} {b : WS} {D : PEnds} {env : PEnv}
end
end Pf
namespace Pf
open PySem PySem.Spec PyProof.Rows L2
/-- a log -/
abbrev lgP (ds : List (Int × List Int)) : P := .lst (ds.map ddP)
end Pf
namespace Pf
open PySem PySem.Spec PyProof.Rows L2
/-- a deed with one target is allowed -/
theorem al_one {rs : List (Int × Str)} {s t : Int} (hs : 0 ≤ s ∧ s < (rs.length : Int)) (ht : 0 ≤ t ∧ t < (rs.length : Int)) (h : (gx rs t).1 < (gx rs s).1) : alB rs s [t] 1 = true := by
  refine alB_iff.mpr ⟨wfB_iff.mpr ⟨by show 0 < 1; decide, ascB_iff.mpr fun j hj => absurd hj (by show ¬ j + 1 < 1; omega), fun i hi => ?_⟩, by show (1 : Int) ≤ 1; decide, fun i hi => ?_⟩
  · simp only [List.mem_cons, List.not_mem_nil, or_false] at hi
    rcases hi with rfl | rfl
    · exact hs
    · exact ht
  · rw [List.mem_singleton.mp hi]
    exact h
theorem gx_fst {rs : List (Int × Str)} {k : Int} (h0 : 0 ≤ k) (h1 : k < (rs.length : Int)) : gx (rs.map Prod.fst) k = (gx rs k).1 := gx_map ⟨by omega, h1⟩
end Pf

namespace Pf
open PySem PySem.Spec PyProof.Rows L2
section
variable {X : Cx}
end
section
variable {K : PySem.W.Frag} {W : WX} {ro : Bool}
end
section
variable {K : PySem.W.Frag}
/-- the class D is none of Cs -/
def KNone (K : PySem.W.Frag) (D : Addr) : List Addr → Prop
  | [] => True
  | C :: Cs => PySem.W.kitOne K (.ref D) (.ref C) = some false ∧ KNone K D Cs
theorem KNone.any {D : Addr} : ∀ {Cs : List Addr}, KNone K D Cs → PySem.W.kitAny K (.ref D) (Cs.map Value.ref) = some false
  | [], _ => rfl
  | C :: Cs, h => by
    rw [List.map_cons]
    unfold PySem.W.kitAny
    rw [h.1]
    exact KNone.any h.2
end
end Pf
namespace Pf
open PySem PySem.Spec PyProof.Rows L2
theorem adrs_nil : (([] : List P) = List.map P.adr []) = True := eq_true rfl
theorem adrs_cons {a : Addr} {zs : List P} {Cs : List Addr} : (P.adr a :: zs = List.map P.adr (a :: Cs)) = (zs = List.map P.adr Cs) := by
  rw [List.map_cons]
  exact propext ⟨fun e => (List.cons.inj e).2, fun e => by rw [e]⟩
end Pf
namespace Pf
open PySem PySem.Spec PyProof.Rows L2
/-- * by a short left factor -/
def CMulL (i _ : Int) : Prop := i.natAbs < 2 ^ 63
theorem CMulL.ok {i j : Int} (h : CMulL i j) : IntMulOk i j := by
  refine IntMulOk.of_left ?_
  have h2 : i.natAbs.log2 < 63 := by
    by_cases hz : i.natAbs = 0
    · rw [hz]; decide
    · exact (Nat.log2_lt hz).mpr h
  unfold Builtin.Int.intBits
  split <;> omega
theorem op_mulL {X : Cx} : OpR X (binaryOp .Mult) (rI CMulL fun i j => .int (i * j)) := opI fun _ _ _ _ _ _ _ hc q => mul_int q hc.ok
end Pf
namespace Pf
open PySem PySem.Spec PyProof.Rows L2
section
variable {K : PySem.W.Frag} {W : WX}
end
end Pf

namespace Pf
open PySem PySem.Spec PyProof.Rows L2
abbrev iil (m : List (Int × Int)) : P := .lst (m.map iiP)
instance (priority := high) ml_iis {l : List (Int × Int)} : ML (l.map iiP) (Int × Int) iiP l := ⟨rfl⟩
end Pf
namespace Pf
open PySem PySem.Spec PyProof.Rows L2
theorem asc_pw {ts : List Int} (h : ts.Pairwise (· < ·)) : ascB ts = true := ascB_iff.mpr fun j hj => by
  rw [gx_get (by omega), show ((j : Int) + 1) = ((j + 1 : Nat) : Int) by omega, gx_get hj]
  exact List.pairwise_iff_getElem.mp h j (j + 1) (by omega) hj (by omega)
end Pf
namespace Pf
open PySem PySem.Spec PyProof.Rows L2
end Pf

namespace Pf
open PySem PySem.Spec PyProof.Rows L2
theorem capS_cons {x e w : Int} {r : List Int} : capS (x :: r) e w = capI x e w + capS r e w := by
  unfold capS
  rw [List.map_cons, List.sum_cons]
end Pf
namespace Pf
open PySem PySem.Spec PyProof.Rows L2
end Pf

namespace Pf
open PySem PySem.Spec PyProof.Rows L2
section
variable {K : PySem.W.Frag} {W : WX} {ro : Bool}
end
end Pf
namespace Pf
open PySem PySem.Spec PyProof.Rows L2
end Pf
namespace Pf
open PySem PySem.Spec PyProof.Rows L2
section
variable {K : PySem.W.Frag}
end
end Pf

namespace Pf
open PySem PySem.Spec PyProof.Rows L2
section
variable {X : Cx}
end
section
variable {K : PySem.W.Frag} {W : WX}
end
end Pf
namespace Pf
open PySem PySem.Spec PyProof.Rows L2
section
variable {K : PySem.W.Frag} {W : WX}
theorem Good.off {F0 H0 F H : Hp} {σ : L2.St} {env : PEnv} {D : Addr} {o : HO} (g : Good K F0 H0 σ F H env) (nf : F D = none) (nh : H0 D = none) (no : ∀ (i : Nat) x a, env[i]? = some (some (Mo.o, x)) → σ[i]? = some (some (.ref a)) → scB x = false → a ≠ D) : Good K F0 H0 σ F (upd H D o) env where
  fh := fun b u e => by rw [upd_ne (ne_of_none e nf)]; exact g.fh _ _ e
  hh := fun b u e => by rw [upd_ne (ne_of_none e nh)]; exact g.hh _ _ e
  e := g.e
  len := g.len
  slot := fun i m x h => by
    obtain ⟨v, hs, sl⟩ := g.slot i m x h
    refine ⟨v, hs, ?_⟩
    cases m with
    | v => exact sl
    | b => exact sl
    | o =>
      rcases sl with ⟨a, u, rfl, ha, c⟩ | sl
      · refine .inl ⟨a, u, rfl, ?_, c⟩
        have hsc : scB x = false := by
          cases e : scB x with
          | false => rfl
          | true => exact (sc_nocell e c).elim
        rw [upd_ne (no i x a h hs hsc)]
        exact ha
      · exact .inr sl
  own := g.own
  dis := g.dis
end
end Pf
namespace Pf
open PySem PySem.Spec PyProof.Rows L2
section
variable {K : PySem.W.Frag} {W : WX}
end
section
variable {X : Cx} {elt tg iter tg1 iter1 : Expr} {ifs ifs1 : List Expr} {scope : Scope} {own : List (Str × Nat)} {pos : Pos} {wi : TI} {vs1 : List Nat}
variable {i : Nat} {y : Str} {py spos : Pos}
end
end Pf

namespace Pf
open PySem PySem.Spec PyProof.Rows L2
section
variable {K : PySem.W.Frag} {W : WX} {ro : Bool} {a : Addr} {kvs : List (Key × V)}
/-- F and G agree but for a lock at a -/
structure Lk (a : Addr) (kvs : List (Key × V)) (F G : Hp) : Prop where
  off : ∀ b, b ≠ a → G b = F b
  f : ∀ o, F a = some o → o = .dK kvs ∨ ∃ ob, o = .frz ob (.dK kvs)
  g : F a ≠ none → G a = some (.dK kvs) ∨ ∃ ob, G a = some (.frz ob (.dK kvs))
theorem Lk.at {F G : Hp} (l : Lk a kvs F G) {b : Addr} {o : HO} (h : F b = some o) (h1 : o ≠ .dK kvs) (h2 : ∀ ob, o ≠ .frz ob (.dK kvs)) : G b = some o := by
  by_cases e : b = a
  · subst e
    rcases l.f o h with e | ⟨ob, e⟩
    · exact absurd e h1
    · exact absurd e (h2 ob)
  · rw [l.off b e]; exact h
theorem Lk.rd {F G : Hp} (l : Lk a kvs F G) {b : Addr} {qs : List (Key × V)} (h : Rd F b (.dK qs)) : Rd G b (.dK qs) := by
  by_cases e : b = a
  · subst e
    have hq : qs = kvs ∧ F b ≠ none := by
      rcases h with h | ⟨o, h⟩
      · refine ⟨?_, by rw [h]; exact fun z => by cases z⟩
        rcases l.f _ h with e | ⟨ob, e⟩ <;> cases e <;> rfl
      · refine ⟨?_, by rw [h]; exact fun z => by cases z⟩
        rcases l.f _ h with e | ⟨ob, e⟩ <;> cases e <;> rfl
    rw [hq.1]
    rcases l.g hq.2 with h | ⟨ob, h⟩
    · exact .inl h
    · exact .inr ⟨ob, h⟩
  · rcases h with h | ⟨o, h⟩
    · exact .inl (by rw [l.off b e]; exact h)
    · exact .inr ⟨o, by rw [l.off b e]; exact h⟩
theorem Lk.rd' {F G : Hp} (l : Lk a kvs F G) {b : Addr} {u : HO} (h : Rd F b u) (hu : ∀ qs, u ≠ .dK qs) (hz : ∀ ob qs, u ≠ .frz ob (.dK qs)) : Rd G b u := by
  rcases h with h | ⟨o, h⟩
  · exact .inl (l.at h (hu _) (hz · _))
  · exact .inr ⟨o, l.at h (fun z => by cases z) (fun ob z => by cases z; exact hu _ rfl)⟩
mutual
theorem R.lk {F G : Hp} (l : Lk a kvs F G) : ∀ {v : V} {x : P}, R K F v x → R K G v x
  | _, _, .non => .non
  | _, _, .bl b => .bl b
  | _, _, .int n => .int n
  | _, _, .str h => .str h
  | _, _, .tup h r => .tup (l.at h (fun z => by cases z) fun _ z => by cases z) (RL.lk l r)
  | _, _, .lst h r => .lst (l.at h (fun z => by cases z) fun _ z => by cases z) (RL.lk l r)
  | _, _, .dct h e r => .dct (l.rd h) e (RL.lk l r)
  | _, _, .ins h e1 e2 r => .ins (l.at h (fun z => by cases z) fun _ z => by cases z) e1 e2 (RL.lk l r)
  | _, _, .slf h e1 e2 r => .slf (l.at h (fun z => by cases z) fun _ z => by cases z) e1 e2 (RL.lk l r)
  | _, _, .scr h => .scr (h.elim (fun h => .inl (l.rd' h (fun _ z => by cases z) fun _ _ z => by cases z)) .inr)
  | _, _, .adr b => .adr b
  | _, _, .ty s => .ty s
  | _, _, .exc0 b C => .exc0 b C
  | _, _, .exc1 h e1 e2 r => .exc1 (l.at h (fun z => by cases z) fun _ z => by cases z) e1 e2 (RL.lk l r)
  | _, _, .rng h => .rng (l.at h (fun z => by cases z) fun _ z => by cases z)
  | _, _, .dtt h e r => .dtt (l.rd' h (fun _ z => by cases z) fun _ _ z => by cases z) e (RL.lk l r)
theorem RL.lk {F G : Hp} (l : Lk a kvs F G) : ∀ {vs : List V} {xs : List P}, RL K F vs xs → RL K G vs xs
  | _, _, .nil => .nil
  | _, _, .cons h r => .cons (R.lk l h) (RL.lk l r)
end
theorem Cell.lk {F G : Hp} (l : Lk a kvs F G) {b : Addr} {o : HO} {x : P} (h : Cell K F b o x) : Cell K G b o x := by
  cases x <;> first | exact h.elim | (obtain ⟨vs, e, r⟩ := h; exact ⟨vs, e, RL.lk l r⟩) | (obtain ⟨vs, e, q, r⟩ := h; exact ⟨vs, e, q, RL.lk l r⟩) | (obtain ⟨dx, fs, e, q, r⟩ := h; exact ⟨dx, fs, e, q, RL.lk l r⟩) | (obtain ⟨ea, dx, fs, e, q, r⟩ := h; exact ⟨ea, dx, fs, e, q, RL.lk l r⟩)
theorem CellT.lk {F G : Hp} (l : Lk a kvs F G) {b : Addr} {o : HO} {x : P} (h : CellT K F b o x) : CellT K G b o x := by
  by_cases hd : ∃ ks xs, x = .dct ks xs
  · obtain ⟨ks, xs, rfl⟩ := hd
    obtain ⟨vs, e, q, r⟩ := h
    exact ⟨vs, e, q, RL.lk l r⟩
  · rw [CellT_eq fun ks xs e => hd ⟨ks, xs, e⟩] at h ⊢
    exact Cell.lk l h
/-- what is read at a dict is read there locked, and back -/
theorem CellT.swap {F : Hp} {b : Addr} {o o2 : HO} {x : P} (h1 : o = .dK kvs ∨ ∃ ob, o = .frz ob (.dK kvs)) (h2 : o2 = .dK kvs ∨ ∃ ob, o2 = .frz ob (.dK kvs)) (h : CellT K F b o x) : CellT K F b o2 x := by
  by_cases hd : ∃ ks xs, x = .dct ks xs
  · obtain ⟨ks, xs, rfl⟩ := hd
    obtain ⟨vs, e, q, r⟩ := h
    have hk : kvs = ks.zip vs := by
      rcases h1 with h1 | ⟨ob, h1⟩ <;> rcases e with e | ⟨ob2, e⟩ <;> rw [h1] at e <;> cases e <;> rfl
    subst hk
    exact ⟨vs, h2, q, r⟩
  · rw [CellT_eq fun ks xs e => hd ⟨ks, xs, e⟩] at h
    exfalso
    cases x <;> first | exact h | exact hd ⟨_, _, rfl⟩ | (obtain ⟨vs, e, _⟩ := h; rcases h1 with h1 | ⟨ob, h1⟩ <;> rw [h1] at e <;> cases e; done) | (obtain ⟨dx, fs, e, _⟩ := h; rcases h1 with h1 | ⟨ob, h1⟩ <;> rw [h1] at e <;> cases e; done) | (obtain ⟨ea, dx, fs, e, _⟩ := h; rcases h1 with h1 | ⟨ob, h1⟩ <;> rw [h1] at e <;> cases e; done)
/-- F with what stands at a exchanged for o -/
def xch (a : Addr) (o : HO) (F : Hp) : Hp := fun b => if b = a then (F a).map (fun _ => o) else F b
theorem xch_off {o : HO} {F : Hp} {b : Addr} (h : b ≠ a) : xch a o F b = F b := by unfold xch; rw [if_neg h]
theorem xch_at {o : HO} {F : Hp} : xch a o F a = (F a).map fun _ => o := by unfold xch; rw [if_pos rfl]
theorem xch_upd {o u : HO} {F : Hp} (h : F a = some u) : xch a o F = upd F a o := by
  funext b
  by_cases e : b = a
  · subst e; rw [xch_at, h, upd_same]; rfl
  · rw [xch_off e, upd_ne e]
/-- the two states are locked and unlocked -/
structure Lkd (a : Addr) (kvs : List (Key × V)) (ob : Obj) (H0 F H : Hp) : Prop where
  fh : Same F H
  hh : Same H0 H
  h : H a = some (.dK kvs)
  i : F a ≠ none ∨ H0 a ≠ none
theorem Lkd.lk {ob : Obj} {H0 F H : Hp} (d : Lkd a kvs ob H0 F H) : Lk a kvs F (xch a (.frz ob (.dK kvs)) F) := by
  refine ⟨fun b h => xch_off h, fun o h => ?_, fun h => ?_⟩
  · have := d.fh _ _ h; rw [d.h] at this; cases this; exact .inl rfl
  · refine .inr ⟨ob, ?_⟩
    rw [xch_at]
    cases e : F a with
    | none => exact absurd e h
    | some o => rfl
theorem Lkd.good {ob : Obj} {F0 H0 F H : Hp} {σ : L2.St} {env : PEnv} (d : Lkd a kvs ob H0 F H) (g : Good K F0 H0 σ F H env) : Good K (xch a (.frz ob (.dK kvs)) F) (xch a (.frz ob (.dK kvs)) H0) σ (xch a (.frz ob (.dK kvs)) F) (xch a (.frz ob (.dK kvs)) H) env := by
  have sm : ∀ {A B : Hp}, Same A B → Same (xch a (.frz ob (.dK kvs)) A) (xch a (.frz ob (.dK kvs)) B) := fun {A B} s b o h => by
    by_cases e : b = a
    · subst e
      rw [xch_at] at h ⊢
      cases e1 : A b with
      | none => rw [e1] at h; cases h
      | some o1 => rw [e1] at h; rw [s _ _ e1]; exact h
    · rw [xch_off e] at h ⊢; exact s _ _ h
  refine ⟨sm d.fh, sm d.hh, .refl, g.len, fun i m x h => ?_, fun i x b h hs => ?_, g.dis⟩
  · obtain ⟨v, hs, sl⟩ := g.slot i m x h
    refine ⟨v, hs, ?_⟩
    cases m with
    | v => exact R.lk d.lk sl
    | b =>
      refine ⟨?_, fun xs b e1 e2 z => sl.2 xs b e1 e2 ?_⟩
      rotate_left
      · by_cases e : b = a
        · subst e
          rw [xch_at] at z
          cases e3 : H0 b with
          | none => rfl
          | some o => rw [e3] at z; cases z
        · rwa [xch_off e] at z
      rcases sl.1 with sl | ⟨b, o, rfl, hb, c⟩
      · exact .inl (R.lk d.lk sl)
      · by_cases e : b = a
        · subst e
          have ho : o = .dK kvs := by have := d.hh _ _ hb; rw [d.h] at this; cases this; rfl
          exact .inr ⟨b, _, rfl, by rw [xch_at, hb]; rfl, CellT.lk d.lk (CellT.swap (.inl ho) (.inr ⟨ob, rfl⟩) c)⟩
        · exact .inr ⟨b, o, rfl, by rw [xch_off e]; exact hb, CellT.lk d.lk c⟩
    | o =>
      rcases sl with ⟨b, o, rfl, hb, c⟩ | sl
      · obtain ⟨n1, n2⟩ := g.own i x b h hs
        have e : b ≠ a := fun e => by subst e; exact d.i.elim (fun z => z n1) fun z => z n2
        exact .inl ⟨b, o, rfl, by rw [xch_off e]; exact hb, Cell.lk d.lk c⟩
      · exact .inr ⟨sl.1, R.lk d.lk sl.2⟩
  · obtain ⟨n1, n2⟩ := g.own i x b h hs
    have e : b ≠ a := fun e => by subst e; exact d.i.elim (fun z => z n1) fun z => z n2
    rw [xch_off e, xch_off e]
    exact ⟨n1, n2⟩
theorem Lkd.frz {ob : Obj} {H0 F H F' H' : Hp} (d : Lkd a kvs ob H0 F H) (e : Ext (xch a (.frz ob (.dK kvs)) H0) (xch a (.frz ob (.dK kvs)) F) F') (hh : Same (xch a (.frz ob (.dK kvs)) H0) H') (fh : Same F' H') : H' a = some (.frz ob (.dK kvs)) ∧ F' a = (F a).map fun _ => .frz ob (.dK kvs) := by
  have hF : F' a = (F a).map fun _ => .frz ob (.dK kvs) := by
    cases e1 : F a with
    | none =>
      have hn : H0 a ≠ none := d.i.resolve_left fun z => z e1
      cases e2 : H0 a with
      | none => exact absurd e2 hn
      | some o =>
        have := e.2 a (.frz ob (.dK kvs)) (by rw [xch_at, e2]; rfl)
        rw [this, xch_at, e1]
    | some o => exact e.1 a _ (by rw [xch_at, e1]; rfl)
  refine ⟨?_, hF⟩
  cases e1 : F a with
  | none =>
    have hn : H0 a ≠ none := d.i.resolve_left fun z => z e1
    cases e2 : H0 a with
    | none => exact absurd e2 hn
    | some o => exact hh a _ (by rw [xch_at, e2]; rfl)
  | some o => rw [e1] at hF; exact fh a _ hF
theorem Lkd.unlk {ob : Obj} {H0 F H F' : Hp} (d : Lkd a kvs ob H0 F H) (hF : F' a = (F a).map fun _ => .frz ob (.dK kvs)) : Lk a kvs F' (xch a (.dK kvs) F') := by
  refine ⟨fun b h => xch_off h, fun o h => ?_, fun h => ?_⟩
  · rw [hF] at h
    cases e : F a with
    | none => rw [e] at h; cases h
    | some o1 => rw [e] at h; cases h; exact .inr ⟨ob, rfl⟩
  · refine .inl ?_
    rw [xch_at]
    cases e : F' a with
    | none => exact absurd e h
    | some o => rfl
/-- behind the walk -/
theorem Lkd.mv {ob : Obj} {H0 F H F' H' : Hp} (d : Lkd a kvs ob H0 F H) (e : Ext (xch a (.frz ob (.dK kvs)) H0) (xch a (.frz ob (.dK kvs)) F) F') (hh : Same (xch a (.frz ob (.dK kvs)) H0) H') (fh : Same F' H') :
    Same (xch a (.dK kvs) F') (upd H' a (.dK kvs)) ∧ Same H0 (upd H' a (.dK kvs)) ∧ Ext H0 F (xch a (.dK kvs) F') := by
  obtain ⟨h1, hF⟩ := d.frz e hh fh
  refine ⟨fun b o h => ?_, fun b o h => ?_, fun b o h => ?_, fun b o h => ?_⟩
  · by_cases e1 : b = a
    · subst e1
      rw [xch_at] at h
      cases e2 : F' b with
      | none => rw [e2] at h; cases h
      | some o2 => rw [e2] at h; cases h; exact upd_same
    · rw [xch_off e1] at h; rw [upd_ne e1]; exact fh _ _ h
  · by_cases e1 : b = a
    · subst e1
      have := d.hh _ _ h; rw [d.h] at this; cases this; exact upd_same
    · rw [upd_ne e1]; exact hh _ _ (by rw [xch_off e1]; exact h)
  · by_cases e1 : b = a
    · subst e1
      have := d.fh _ _ h; rw [d.h] at this; cases this
      rw [xch_at, hF, h]; rfl
    · rw [xch_off e1]; exact e.1 _ _ (by rw [xch_off e1]; exact h)
  · by_cases e1 : b = a
    · subst e1
      rw [xch_at, hF]
      cases e2 : F b with
      | none => rfl
      | some o2 => have := d.fh _ _ e2; rw [d.h] at this; cases this; rfl
    · rw [xch_off e1, e.2 b o (by rw [xch_off e1]; exact h), xch_off e1]
theorem Lkd.back {ob : Obj} {F0 H0 F H F' H' : Hp} {σ σ' : L2.St} {env env' : PEnv} (d : Lkd a kvs ob H0 F H) (g0 : Good K F0 H0 σ F H env) (g : Good K (xch a (.frz ob (.dK kvs)) F) (xch a (.frz ob (.dK kvs)) H0) σ' F' H' env') :
    H' a = some (.frz ob (.dK kvs)) ∧ Good K F0 H0 σ' (xch a (.dK kvs) F') (upd H' a (.dK kvs)) env' := by
  obtain ⟨h1, hF⟩ := d.frz g.e g.hh g.fh
  obtain ⟨m1, m2, m3⟩ := d.mv g.e g.hh g.fh
  have ul := d.unlk hF
  have hne : ∀ (i : Nat) x b, env'[i]? = some (some (Mo.o, x)) → σ'[i]? = some (some (.ref b)) → b ≠ a := fun i x b h hs e => by
    obtain ⟨n1, n2⟩ := g.own i x b h hs
    subst e
    rw [xch_at] at n2
    rw [hF] at n1
    refine d.i.elim (fun z => ?_) fun z => ?_
    · cases e : F b with
      | none => exact z e
      | some o => rw [e] at n1; cases n1
    · cases e : H0 b with
      | none => exact z e
      | some o => rw [e] at n2; cases n2
  refine ⟨h1, m1, m2, g0.e.trans (Same.refl _) m3, g.len, fun i m x h => ?_, fun i x b h hs => ?_, g.dis⟩
  · obtain ⟨v, hs, sl⟩ := g.slot i m x h
    refine ⟨v, hs, ?_⟩
    cases m with
    | v => exact R.lk ul sl
    | b =>
      refine ⟨?_, fun xs b e1 e2 z => sl.2 xs b e1 e2 ?_⟩
      rotate_left
      · by_cases e : b = a
        · subst e
          rw [xch_at, z]; rfl
        · rw [xch_off e]; exact z
      rcases sl.1 with sl | ⟨b, o, rfl, hb, c⟩
      · exact .inl (R.lk ul sl)
      · by_cases e : b = a
        · subst e
          rw [xch_at] at hb
          cases e2 : H0 b with
          | none => rw [e2] at hb; cases hb
          | some o2 =>
            rw [e2] at hb
            cases hb
            have ho : o2 = .dK kvs := by have := d.hh _ _ e2; rw [d.h] at this; cases this; rfl
            exact .inr ⟨b, o2, rfl, e2, CellT.lk ul (CellT.swap (.inr ⟨ob, rfl⟩) (.inl ho) c)⟩
        · rw [xch_off e] at hb
          exact .inr ⟨b, o, rfl, hb, CellT.lk ul c⟩
    | o =>
      rcases sl with ⟨b, o, rfl, hb, c⟩ | sl
      · have e := hne i x b h hs
        exact .inl ⟨b, o, rfl, by rw [upd_ne e]; exact hb, Cell.lk ul c⟩
      · exact .inr ⟨sl.1, R.lk ul sl.2⟩
  · have e := hne i x b h hs
    obtain ⟨n1, n2⟩ := g.own i x b h hs
    rw [xch_off e] at n2 ⊢
    exact ⟨n1, n2⟩
end
end Pf
namespace Pf
open PySem PySem.Spec PyProof.Rows L2
def kP : Key → P
  | .inl n => .int n
  | .inr z => .str z
def KOk (ks : List Key) : Prop := ∀ z, Sum.inr z ∈ ks → SOk z
def orLock (t : TS) : TS := fun D σ H => t D σ H ∨ tLock t D σ H
def orLockE (t : TE) : TE := fun σ H Q => t σ H Q ∨ tLockE t σ H Q
section
variable {X : Cx}
theorem ps_orLock {st : Stmt} {t : TS} (h : PS X st t) : PS X st (orLock t) := ⟨fun pins s σ H D I hw => hw.elim (h.run pins s σ H D I) ((ps_lock h).run pins s σ H D I)⟩
theorem pe_orLock {e : Expr} {t : TE} (h : PE X e t) : PE X e (orLockE t) := ⟨fun pins s σ H Q I hw => hw.elim (h.run pins s σ H Q I) ((pe_lock h).run pins s σ H Q I)⟩
end
section
variable {K : PySem.W.Frag} {W : WX} {ro : Bool}
theorem kP_r {F : Hp} {k : Key} (h : ∀ z, k = Sum.inr z → SOk z) : R K F (kV k) (kP k) := by
  cases k with
  | inl n => exact .int n
  | inr z => exact .str (h z rfl)
theorem wkd_keys {ok : Hp → Hp → Prop} {a : Addr} {ob : Obj} {ks : List Key} {vs : List V} (hl : ks.length = vs.length) (hk : KOk ks) (hz : ∀ F1 H1, ok F1 H1 → H1 a = some (.frz ob (.dK (ks.zip vs)))) (hs : ∀ F1 H1, ok F1 H1 → Same F1 H1) : Wkd K ok (Itk a ob (ks.zip vs)) (ks.map kP) := by
  have hn : (ks.map kP).length = (ks.zip vs).length := by rw [List.length_map, List.length_zip, ← hl, Nat.min_self]
  refine ⟨_, _, by rw [hn]; exact walk_keys, hz, fun i F1 H1 v H2 hi o y => ?_⟩
  obtain ⟨rfl, k, v', e, rfl⟩ := y
  have hki : ks[i]? = some k := (List.getElem?_zip_eq_some.mp e).1
  refine ⟨kP k, F1, by rw [List.getElem?_map, hki]; rfl, .refl (hs _ _ o), kP_r fun z hz => hk z ?_⟩
  rw [← hz]
  exact List.mem_of_getElem? hki
theorem for_at {ts : List Nat} {g : TG} {gw : P → PEnv → (PEnv → Prop) → Prop} {tb : TS} {b : WS} {F0 H0 F H : Hp} {σ : L2.St} {env : PEnv} {Dp : PEnds} {D : Ends} {J : It} {xs : List P} (hg : SimG K ts g gw) (hb : SS K W ro tb b) (gd : Good K F0 H0 σ F H env) (wk : Wkd K (okF H0 F) J xs) (h : ForB xs gw b Dp env) (d : DOk K ro F0 H0 Dp D) (x : WOk K W F0 H0 Dp.ex) : tFor (fun _ H R => R J H) g tb D σ H := by
  obtain ⟨Inv, h0, hs, hd⟩ := h
  have d1 : DOk K ro F H0 Dp D := d.base gd.e
  have x1 : WOk K W F H0 Dp.ex := x.base gd.e
  obtain ⟨G, Y, w, okG, okY⟩ := wk
  refine for_it w (fun i σ' H' => ∃ F' e, Good K F H0 σ' F' H' e ∧ Inv i e) ⟨F, env, gd.base, h0⟩ (fun i σ' H' _ ⟨F', e, g', _⟩ => okG F' H' ⟨g'.e.1, g'.fh, g'.hh⟩) (fun i v σ' H' H2 hi ⟨F', e, g', hI⟩ y => ?_) (fun σ' H' ⟨F', e, g', hI⟩ => d1.1 σ' F' H' e g' (hd e hI))
  obtain ⟨y, F2, ey, m2, r2⟩ := okY i F' H' v H2 hi ⟨g'.e.1, g'.fh, g'.hh⟩ y
  refine hg F H0 σ' F2 H2 e v y _ _ (g'.mv m2) r2 (hs i y e ey hI) fun σ3 e3 g3 _ h3 => ?_
  exact hb F H0 σ3 F2 H2 e3 _ _ g3 h3 ⟨fun σ4 F4 H4 e4 g4 h4 => ⟨F4, e4, g4, h4⟩, d1.2.1, fun σ4 F4 H4 e4 g4 h4 => d1.1 σ4 F4 H4 e4 g4 h4, fun σ4 F4 H4 e4 g4 h4 => ⟨F4, e4, g4, h4⟩⟩ x1
theorem cell_nofrz {F : Hp} {a : Addr} {ob : Obj} {u : HO} {x : P} (c : Cell K F a (.frz ob u) x) : False := by
  cases x <;> first | exact c | (obtain ⟨_, z, _⟩ := c; cases z; done) | (obtain ⟨_, _, z, _⟩ := c; cases z; done) | (obtain ⟨_, _, _, z, _⟩ := c; cases z; done)
/-- where a dict that is read stands -/
def DAt (H0 F H : Hp) (σ : L2.St) (i : Nat) (ks : List Key) : Prop :=
    ∃ a vs, σ[i]? = some (some (.ref a)) ∧ ks.length = vs.length ∧ ((H a = some (.dK (ks.zip vs)) ∧ (F a ≠ none ∨ H0 a ≠ none)) ∨ ∃ ob, H a = some (.frz ob (.dK (ks.zip vs))) ∧ (F a = some (.frz ob (.dK (ks.zip vs))) ∨ H0 a = some (.frz ob (.dK (ks.zip vs)))))
theorem dct_at {F0 H0 F H : Hp} {σ : L2.St} {env : PEnv} {i : Nat} {m : Mo} {ks : List Key} {xs : List P} (gd : Good K F0 H0 σ F H env) (e : env[i]? = some (some (m, .dct ks xs))) (hm : m ≠ .o) :
    DAt H0 F H σ i ks := by
  obtain ⟨v, hs, sl⟩ := gd.slot i _ _ e
  have viaR : R K F v (.dct ks xs) → DAt H0 F H σ i ks := fun r => by
    cases r with
    | dct hd l r =>
      rcases hd with hd | ⟨ob, hd⟩
      · exact ⟨_, _, hs, l, .inl ⟨gd.fh _ _ hd, .inl (by rw [hd]; exact fun z => by cases z)⟩⟩
      · exact ⟨_, _, hs, l, .inr ⟨ob, gd.fh _ _ hd, .inl hd⟩⟩
  cases m with
  | v => exact viaR sl
  | b =>
    rcases sl.1 with sl | ⟨a, o, rfl, ha, vs, eo, l, r⟩
    · exact viaR sl
    · rcases eo with rfl | ⟨ob, rfl⟩
      · exact ⟨a, vs, hs, l, .inl ⟨gd.hh _ _ ha, .inr (by rw [ha]; exact fun z => by cases z)⟩⟩
      · exact ⟨a, vs, hs, l, .inr ⟨ob, gd.hh _ _ ha, .inr ha⟩⟩
  | o => exact absurd rfl hm
theorem noX_wok {F0 H0 : Hp} : WOk K W F0 H0 (fun _ => noX') := fun _ _ _ _ _ _ _ _ _ _ h => h.elim
def wForK (i : Nat) (gw : P → PEnv → (PEnv → Prop) → Prop) (b : WS) : WS := fun D env => ∃ m ks xs, env[i]? = some (some (m, .dct ks xs)) ∧ m ≠ .o ∧ KOk ks ∧ ForB (ks.map kP) gw b { D with ex := fun _ => noX' } env
theorem ss_forKeys {ts : List Nat} {g : TG} {gw : P → PEnv → (PEnv → Prop) → Prop} {tb : TS} {b : WS} (i : Nat) (hg : SimG K ts g gw) (hb : SS K W ro tb b) : SS K W ro (orLock (tFor (iKeys (tVar i)) g tb)) (wForK i gw b) := fun F0 H0 σ F H env Dp D gd ⟨m, ks, xs, e, hm, hk, hF⟩ d x => by
  obtain ⟨a, vs, hs, hl, h | ⟨ob, hH, hz⟩⟩ := dct_at gd e hm
  · refine .inr ⟨a, .dK (ks.zip vs), h.1, trivial, fun od => ?_⟩
    have L : Lkd a (ks.zip vs) od H0 F H := ⟨gd.fh, gd.hh, h.1, h.2⟩
    have g2 := L.good gd
    rw [← xch_upd h.1]
    refine ⟨.ref a, hs, a, od, rfl, .inl ⟨ks.zip vs, by rw [xch_at, h.1]; rfl, ?_⟩⟩
    refine for_at hg hb g2 (wkd_keys hl hk (fun F1 H1 o => ?_) fun F1 H1 o => o.2.1) hF ⟨fun σ' F' H' env' g' hn => ?_, fun F' H' v x m' r hn => ?_, fun σ' F' H' env' g' hn => ?_, fun σ' F' H' env' g' hn => ?_⟩ noX_wok
    · rcases h.2 with hn | hn
      · cases e1 : F a with
        | none => exact absurd e1 hn
        | some o1 => exact o.2.1 _ _ (o.1 _ _ (by rw [xch_at, e1]; rfl))
      · cases e1 : H0 a with
        | none => exact absurd e1 hn
        | some o1 => exact o.2.2 _ _ (by rw [xch_at, e1]; rfl)
    · obtain ⟨h1, g3⟩ := L.back gd g'
      exact ⟨h1, d.1 _ _ _ _ g3 hn⟩
    · obtain ⟨h1, hF'⟩ := L.frz m'.e m'.s m'.fh
      obtain ⟨m1, m2, m3⟩ := L.mv m'.e m'.s m'.fh
      have ul := L.unlk hF'
      refine ⟨h1, d.2.1 (xch a (.dK (ks.zip vs)) F') _ v x ⟨gd.e.trans (Same.refl _) m3, m2, m1⟩ ?_ hn⟩
      cases ro with
      | true =>
        rcases r with ⟨b', o, rfl, n1, n2, hb', c⟩ | r
        · have hne : b' ≠ a := fun e => by subst e; rw [h1] at hb'; cases hb'; exact cell_nofrz c
          rw [xch_off hne] at n1
          exact .inl ⟨b', o, rfl, n1, by rw [xch_off hne]; exact n2, by rw [upd_ne hne]; exact hb', Cell.lk ul c⟩
        · exact .inr ⟨r.1, R.lk ul r.2⟩
      | false => exact R.lk ul r
    · obtain ⟨h1, g3⟩ := L.back gd g'
      exact ⟨h1, d.2.2.1 _ _ _ _ g3 hn⟩
    · obtain ⟨h1, g3⟩ := L.back gd g'
      exact ⟨h1, d.2.2.2 _ _ _ _ g3 hn⟩
  · refine .inl ⟨.ref a, hs, a, ob, rfl, .inl ⟨ks.zip vs, hH, ?_⟩⟩
    refine for_at hg hb gd (wkd_keys hl hk (fun F1 H1 o => ?_) fun F1 H1 o => o.2.1) hF d noX_wok
    rcases hz with hz | hz
    · exact o.2.1 _ _ (o.1 _ _ hz)
    · exact o.2.2 _ _ hz
end
end Pf
namespace Pf
open PySem PySem.Spec PyProof.Rows L2
section
variable {K : PySem.W.Frag} {W : WX} {ro : Bool}
theorem lc_at {ts vs : List Nat} {g : TG} {gw : P → PEnv → (PEnv → Prop) → Prop} {tt : TT} {te : TE} {wt : WT} {we : WE} {F0 H0 F H : Hp} {σ : L2.St} {env : PEnv} {Qp : P → Prop} {Q : VK} {J : It} {xs : List P} (hg : SimG K ts g gw) (ht : ST K noW tt wt) (he : SE K noW .V te we) (hv : ∀ t, t ∈ ts → t ∈ vs)
    (gd : Good K F0 H0 σ F H env) (wk : Wkd K (okC F H) J xs) (h : LcB xs gw wt we vs env Qp) (q : ∀ F' H' v x, Mv F H F' H' → Ow K H F' H' v x → Qp x → Q v H') : tLc (fun _ H R => R J H) g tt te vs σ H Q := by
  intro D nD
  obtain ⟨Iv, h0, hs, hd⟩ := h
  have g1 := gd.wipe vs
  obtain ⟨G, Y, w, okG, okY⟩ := wk
  have keep : ∀ {F' H' o}, Mv F H F' H' → F' D = none → Mv F H F' (upd H' D o) := fun m' n' =>
    ⟨m'.e, fun b u e => by rw [upd_ne (ne_of_none e nD)]; exact m'.s _ _ e, same_put m'.fh n'⟩
  refine lc_it w (fun i H' => ∃ F' acc ws, Mv F H F' H' ∧ F' D = none ∧ H' D = some (.lst ws) ∧ RL K F' ws acc ∧ Iv i acc) ⟨F, [], [], mv_new gd.fh nD, same_free gd.fh nD, upd_same, .nil, h0⟩
    (fun i H' _ ⟨F', acc, ws, m', _⟩ => okG F' H' m') (fun i v H' H2 hi2 ⟨F', acc, ws, m', nf, hD, r, hI⟩ y => ?_) (fun H' ⟨F', acc, ws, m', nf, hD, r, hI⟩ => q F' H' (.ref D) (.lst acc) m' (.inl ⟨D, _, rfl, nD, nf, hD, .l r⟩) (hd acc hI))
  obtain ⟨y, F2, ey, m2, r2⟩ := okY i F' H' v H2 hi2 m' y
  refine hg F0 H0 (wipe σ vs) F2 H2 (wipeP env vs) v y _ _ ((g1.mv m').mv m2) r2 (hs i y acc ey hI) fun σ3 e3 g3 o3 h3 => ⟨wipe_off o3 hv, ?_⟩
  refine ht F0 H0 σ3 F2 H2 e3 _ _ _ g3 h3 noX_ok fun F3 H3 b m3 h4 => ?_
  have m13 := (m'.trans m2).trans m3
  have n3 : F3 D = none := ((m2.trans m3).e.2 _ _ hD).trans nf
  have hD3 := (m2.trans m3).s _ _ hD
  have r3 := r.mono (m2.trans m3).e.1
  cases b with
  | true =>
    rw [if_pos rfl] at h4 ⊢
    refine he F0 H0 σ3 F3 H3 e3 _ _ _ (g3.mv m3) h4 noX_ok fun F4 H4 u z m4 r4 h5 => ?_
    exact ⟨ws, m4.s _ _ hD3, by rw [r.len]; exact h5.1, F4, acc ++ [z], ws ++ [u], keep (m13.trans m4) ((m4.e.2 _ _ hD3).trans n3), (m4.e.2 _ _ hD3).trans n3, upd_same, (r3.mono m4.e.1).app (.cons r4 .nil), h5.2⟩
  | false =>
    rw [if_neg Bool.false_ne_true] at h4 ⊢
    exact ⟨F3, acc, ws, m13, n3, hD3, r3, h4⟩
def wLcK (i : Nat) (gw : P → PEnv → (PEnv → Prop) → Prop) (tt : WT) (te : WE) (vs : List Nat) : WE := fun env Q X => ∃ m ks xs, env[i]? = some (some (m, .dct ks xs)) ∧ m ≠ .o ∧ KOk ks ∧ LcB (ks.map kP) gw tt te vs env Q
theorem se_lcKeys {ts vs : List Nat} {g : TG} {gw : P → PEnv → (PEnv → Prop) → Prop} {tt : TT} {te : TE} {wt : WT} {we : WE} (i : Nat) (hg : SimG K ts g gw) (ht : ST K noW tt wt) (he : SE K noW .V te we) (hv : ∀ t, t ∈ ts → t ∈ vs) : SE K W .O (orLockE (tLc (iKeys (tVar i)) g tt te vs)) (wLcK i gw wt we vs) := fun F0 H0 σ F H env Qp Xp Q gd ⟨m, ks, xs, e, hm, hk, hL⟩ hx q => by
  obtain ⟨a, us, hs, hl, h | ⟨ob, hH, hz⟩⟩ := dct_at gd e hm
  · refine .inr ⟨a, .dK (ks.zip us), h.1, trivial, fun od => ?_⟩
    have L : Lkd a (ks.zip us) od H0 F H := ⟨gd.fh, gd.hh, h.1, h.2⟩
    have L2 : Lkd a (ks.zip us) od H F H := ⟨gd.fh, Same.refl _, h.1, .inr (by rw [h.1]; exact fun z => by cases z)⟩
    have g2 := L.good gd
    rw [← xch_upd h.1]
    refine ⟨.ref a, hs, a, od, rfl, .inl ⟨ks.zip us, by rw [xch_at, h.1]; rfl, ?_⟩⟩
    refine lc_at (Q := fun v H' => H' a = some (.frz od (.dK (ks.zip us))) ∧ Q v (upd H' a (.dK (ks.zip us)))) hg ht he hv g2 (wkd_keys hl hk (fun F1 H1 o => o.s _ _ (by rw [xch_at, h.1]; rfl)) fun F1 H1 o => o.fh) hL fun F' H' v x m' r hq => ?_
    obtain ⟨h1, hF'⟩ := L2.frz m'.e m'.s m'.fh
    obtain ⟨m1, m2, m3⟩ := L2.mv m'.e m'.s m'.fh
    have ul := L2.unlk hF'
    refine ⟨h1, q (xch a (.dK (ks.zip us)) F') _ v x ⟨m3, m2, m1⟩ ?_ hq⟩
    rcases r with ⟨b', o, rfl, n1, n2, hb', c⟩ | r
    · have hne : b' ≠ a := fun e => by subst e; rw [h1] at hb'; cases hb'; exact cell_nofrz c
      rw [xch_off hne] at n1
      exact .inl ⟨b', o, rfl, n1, by rw [xch_off hne]; exact n2, by rw [upd_ne hne]; exact hb', Cell.lk ul c⟩
    · exact .inr ⟨r.1, R.lk ul r.2⟩
  · refine .inl ⟨.ref a, hs, a, ob, rfl, .inl ⟨ks.zip us, hH, ?_⟩⟩
    exact lc_at hg ht he hv gd (wkd_keys hl hk (fun F1 H1 o => o.s _ _ hH) fun F1 H1 o => o.fh) hL q
theorem ap_forK {i : Nat} {gw : P → PEnv → (PEnv → Prop) → Prop} {b : WS} {D : PEnds} {env : PEnv} : (wForK i gw b D env) = (match env[i]? with | some (some (m, .dct ks _)) => m ≠ .o ∧ KOk ks ∧ ForB (ks.map kP) gw b { D with ex := fun _ => noX' } env | _ => False) := by
  unfold wForK
  refine propext ⟨fun ⟨m, ks, xs, e, h1, h2, h3⟩ => by rw [e]; exact ⟨h1, h2, h3⟩, fun h => ?_⟩
  split at h
  · rename_i m ks xs e
    exact ⟨m, ks, xs, e, h⟩
  · exact h.elim
theorem ap_lcK {i : Nat} {gw : P → PEnv → (PEnv → Prop) → Prop} {tt : WT} {te : WE} {vs : List Nat} {env : PEnv} {Q : P → Prop} {X : XP} : (wLcK i gw tt te vs env Q X) = (match env[i]? with | some (some (m, .dct ks _)) => m ≠ .o ∧ KOk ks ∧ LcB (ks.map kP) gw tt te vs env Q | _ => False) := by
  unfold wLcK
  refine propext ⟨fun ⟨m, ks, xs, e, h1, h2, h3⟩ => by rw [e]; exact ⟨h1, h2, h3⟩, fun h => ?_⟩
  split at h
  · rename_i m ks xs e
    exact ⟨m, ks, xs, e, h⟩
  · exact h.elim
end
end Pf
namespace Pf
open PySem PySem.Spec PyProof.Rows L2
def leII (p q : Int × Int) : Prop := p.1 < q.1 ∨ (p.1 = q.1 ∧ p.2 ≤ q.2)
instance {p q : Int × Int} : Decidable (leII p q) := by unfold leII; exact inferInstance
def sortII (l : List (Int × Int)) : List (Int × Int) := l.mergeSort fun a b => decide (leII a b)
theorem sortII_perm (l : List (Int × Int)) : (sortII l).Perm l := List.mergeSort_perm _ _
theorem sortII_pw (l : List (Int × Int)) : (sortII l).Pairwise leII := by
  have h := List.pairwise_mergeSort (le := fun (a b : Int × Int) => decide (leII a b)) (fun a b c h1 h2 => by
    have h1 := of_decide_eq_true h1
    have h2 := of_decide_eq_true h2
    unfold leII at *
    exact decide_eq_true (by omega)) (fun a b => by
    rw [Bool.or_eq_true, decide_eq_true_eq, decide_eq_true_eq]
    unfold leII
    omega) l
  exact h.imp fun h => of_decide_eq_true h
theorem sortII_one {a b : List (Int × Int)} (p : a.Perm b) (ha : a.Pairwise leII) (hb : b.Pairwise leII) : a = b := p.eq_of_pairwise (fun x y _ _ h1 h2 => by
  unfold leII at *
  exact Prod.ext (by omega) (by omega)) ha hb
theorem sortII_len {l : List (Int × Int)} : (sortII l).length = l.length := (sortII_perm l).length_eq
section
variable {K : PySem.W.Frag}
def pairAt (F : Hp) : V → Int × Int
  | .ref t => match F t with
    | some (.tup [.int i, .int j]) => (i, j)
    | _ => (0, 0)
  | _ => (0, 0)
theorem pairAt_of {F : Hp} {v : V} {p : Int × Int} (h : R K F v (iiP p)) : ∃ t, v = .ref t ∧ F t = some (.tup [.int p.1, .int p.2]) ∧ pairAt F v = p := by
  cases h with
  | tup h r =>
    cases r with
    | cons r1 r =>
      cases r with
      | cons r2 r =>
        cases r
        cases r1
        cases r2
        refine ⟨_, rfl, h, ?_⟩
        unfold pairAt
        simp only [h]
theorem pairs_of {F : Hp} : ∀ {vs : List V} {ns : List (Int × Int)}, RL K F vs (ns.map iiP) → vs.map (pairAt F) = ns ∧ ∀ v ∈ vs, ∃ t, v = .ref t ∧ F t = some (.tup [.int (pairAt F v).1, .int (pairAt F v).2]) ∧ R K F v (iiP (pairAt F v))
  | [], [], .nil => ⟨rfl, fun v h => absurd h List.not_mem_nil⟩
  | v :: vs, n :: ns, .cons h r => by
    obtain ⟨e, h2⟩ := pairs_of r
    obtain ⟨t, ht, hf, hp⟩ := pairAt_of h
    refine ⟨by rw [List.map_cons, e, hp], fun u hu => ?_⟩
    rcases List.mem_cons.mp hu with rfl | hu
    · exact ⟨t, ht, by rw [hp]; exact hf, by rw [hp]; exact h⟩
    · exact h2 u hu
theorem rl_pairs {F : Hp} : ∀ {vs : List V}, (∀ v ∈ vs, R K F v (iiP (pairAt F v))) → RL K F vs ((vs.map (pairAt F)).map iiP)
  | [], _ => .nil
  | v :: vs, h => .cons (h v List.mem_cons_self) (rl_pairs fun u hu => h u (List.mem_cons_of_mem _ hu))
def fSortII : PFn := fun xs Q => ∃ ns : List (Int × Int), xs = [.lst (ns.map iiP)] ∧ Q (.lst ((sortII ns).map iiP))
theorem cs_sortII {m : Mo} : CallS K .O [m] (rSortedPO K) fSortII := fun F H vs xs Qp Q s r ⟨ns, e, h⟩ q => by
  obtain ⟨v, x, rfl, ex, t⟩ := AL.one r
  cases ex.symm.trans e
  obtain ⟨a, ws, rfl, ha, rl⟩ := Tp.lst s t
  obtain ⟨e1, e2⟩ := pairs_of rl
  refine ⟨a, ws, pairAt F, rfl, SqL.of ha, fun x hx => ?_, fun ys p h1 h2 np => ?_⟩
  · obtain ⟨t, ht, hf, _⟩ := e2 x hx
    exact ⟨t, ht, s _ _ hf⟩
  have hz : ys.map (pairAt F) = sortII ns := by
    refine sortII_one ((h2.perm.map _).trans (by rw [e1]; exact (sortII_perm ns).symm)) ?_ (sortII_pw ns)
    rw [List.pairwise_map]
    refine h1.imp fun {x y} hxy => ?_
    have := SrtO.lexB_no.mp hxy
    unfold leII
    omega
  have hr := rl_pairs (K := K) (F := F) (vs := ys) fun v hv => by
    obtain ⟨_, _, _, hr⟩ := e2 v (h2.perm.mem_iff.mp hv)
    exact hr
  rw [hz] at hr
  exact q F _ _ (.lst ((sortII ns).map iiP)) (mv_new s np) (.inl ⟨p, _, rfl, np, same_free s np, upd_same, .l hr⟩) h
theorem aq_fSortII {xs : List P} {l : List (Int × Int)} [h : ML xs (Int × Int) iiP l] {Q : P → Prop} : (fSortII [.lst xs] Q) = Q (iil (sortII l)) := by
  rw [h.eq]
  unfold fSortII
  refine propext ⟨fun ⟨ns, e, q⟩ => ?_, fun q => ⟨l, rfl, q⟩⟩
  simp only [List.cons.injEq, P.lst.injEq, and_true] at e
  have := (List.map_inj_right fun x y e => ?_).mp e
  · rw [this]; exact q
  · simp only [iiP, P.tup.injEq, List.cons.injEq, P.int.injEq, and_true] at e
    exact Prod.ext e.1 e.2
end
end Pf
namespace Pf
open PySem PySem.Spec PyProof.Rows L2
instance (priority := high) ml_dk {α : Type} {d : List (Str × α)} : ML ((d.map fun p => (Sum.inr p.1 : Key)).map kP) Str P.str (d.map Prod.fst) := ⟨by rw [List.map_map, List.map_map]; rfl⟩
theorem aq_KOk {α : Type} {d : List (Str × α)} : (KOk (d.map fun p => (Sum.inr p.1 : Key))) = ∀ z ∈ d.map Prod.fst, SOk z := sok_keys
theorem mo_v : (Mo.v ≠ Mo.o) = True := eq_true (by decide)
theorem mo_b : (Mo.b ≠ Mo.o) = True := eq_true (by decide)
end Pf
namespace Pf
open PySem PySem.Spec PyProof.Rows L2
abbrev dI (d : List (Str × Int)) : P := dS P.int d
theorem dI_inj {d d' : List (Str × Int)} : (d.map (fun p => (Sum.inr p.1 : Key)) = d'.map (fun p => Sum.inr p.1) ∧ d.map (fun p => P.int p.2) = d'.map (fun p => P.int p.2)) = (d = d') := by
  refine propext ⟨fun ⟨h1, h2⟩ => ?_, fun h => by subst h; exact ⟨rfl, rfl⟩⟩
  refine List.ext_getElem? fun i => ?_
  have e1 := congrArg (·[i]?) h1
  have e2 := congrArg (·[i]?) h2
  simp only [List.getElem?_map] at e1 e2
  cases ea : d[i]? with
  | none =>
    rw [ea] at e1
    cases eb : d'[i]? with
    | none => rfl
    | some b => rw [eb] at e1; cases e1
  | some a =>
    rw [ea] at e1 e2
    cases eb : d'[i]? with
    | none => rw [eb] at e1; cases e1
    | some b =>
      rw [eb] at e1 e2
      have e1 : (some (Sum.inr a.1) : Option Key) = some (Sum.inr b.1) := e1
      have e2 : some (P.int a.2) = some (P.int b.2) := e2
      cases a
      cases b
      cases e1
      cases e2
      rfl
end Pf
namespace Pf
open PySem PySem.Spec PyProof.Rows L2
section
variable {X : L2.Cx}
/-- dicts that hold the same, locked or not -/
def rEqDR (b : Bool) : R2 := fun x y H Q => ∃ a c ks ls, x = .ref a ∧ y = .ref c ∧ Rd H a (.dK ks) ∧ Rd H c (.dK ls) ∧ ks.length = ls.length ∧ (∀ p ∈ ks, valV ls p.1 = some p.2 ∧ flatB p.2 = true) ∧ Q (.bl b) H
theorem op_eq_dictR (hu : X.A.units + 64 < cLine) : OpR X (compareOp .Eq) (rEqDR true) := by
  intro pins s σ H x y v u Q I rx ry h
  obtain ⟨a, b, ks, ls, rfl, rfl, ea, eb, hlen, hp, q⟩ := h
  obtain rfl : v = Value.ref a := rx
  obtain rfl : u = Value.ref b := ry
  obtain ⟨_, ya, va, ra, da⟩ := (show ObjOk X.prog X.w H s.heap a (.dK ks) from rd_of I.hok ea)
  obtain ⟨_, yb, vb, rb, db⟩ := (show ObjOk X.prog X.w H s.heap b (.dK ls) from rd_of I.hok eb)
  have hl : va.length = vb.length := by rw [← ra.length, ← rb.length]; exact hlen
  exact PySem.W.keq_eq (knd := mixKind X.prog X.w) (r := true) ya yb da db (by omega) (fun _ => hits_all rb ra hp) (fin_bl I q (by simp [hl]))
theorem op_ne_dictR (hu : X.A.units + 64 < cLine) : OpR X (compareOp .NotEq) (rEqDR false) := by
  intro pins s σ H x y v u Q I rx ry h
  obtain ⟨a, b, ks, ls, rfl, rfl, ea, eb, hlen, hp, q⟩ := h
  obtain rfl : v = Value.ref a := rx
  obtain rfl : u = Value.ref b := ry
  obtain ⟨_, ya, va, ra, da⟩ := (show ObjOk X.prog X.w H s.heap a (.dK ks) from rd_of I.hok ea)
  obtain ⟨_, yb, vb, rb, db⟩ := (show ObjOk X.prog X.w H s.heap b (.dK ls) from rd_of I.hok eb)
  have hl : va.length = vb.length := by rw [← ra.length, ← rb.length]; exact hlen
  exact PySem.W.keq_ne (knd := mixKind X.prog X.w) (r := true) ya yb da db (by omega) (fun _ => hits_all rb ra hp) (fin_bl I q (by simp [hl]))
end
section
variable {K : PySem.W.Frag}
theorem R.same {F : Hp} {v w : V} {x : P} (r : R K F v x) (r' : R K F w x) (h : flatP x = true) : v = w ∧ flatB v = true := by
  cases r <;> first | (cases h; done) | (cases r'; exact ⟨rfl, rfl⟩)
theorem RL.same {F : Hp} : ∀ {vs ws : List V} {xs : List P}, RL K F vs xs → RL K F ws xs → xs.all flatP = true → vs = ws ∧ ∀ v ∈ vs, flatB v = true
  | _, _, _, .nil, .nil, _ => ⟨rfl, fun v h => absurd h List.not_mem_nil⟩
  | _, _, _, .cons r rl, .cons r' rl', h => by
    rw [List.all_cons, Bool.and_eq_true] at h
    obtain ⟨e, hf⟩ := r.same r' h.1
    obtain ⟨e2, hf2⟩ := RL.same rl rl' h.2
    refine ⟨by rw [e, e2], fun u hu => ?_⟩
    rcases List.mem_cons.mp hu with rfl | hu
    · exact hf
    · exact hf2 u hu
theorem valV_zip : ∀ {ks : List Key} {vs : List V}, ks.Nodup → ∀ p ∈ ks.zip vs, valV (ks.zip vs) p.1 = some p.2
  | [], _, _, p, h => absurd h (by simp)
  | k :: ks, [], _, p, h => absurd h (by simp)
  | k :: ks, v :: vs, hn, p, h => by
    obtain ⟨h1, h2⟩ := List.nodup_cons.mp hn
    rw [List.zip_cons_cons] at h ⊢
    rcases List.mem_cons.mp h with rfl | h
    · exact valV_pos rfl
    · rw [valV_neg (show ¬ k = p.1 from fun e => h1 (e ▸ (List.of_mem_zip h).1))]
      exact valV_zip h2 p h
def fDEq (b : Bool) : PF2 := fun x y Q => ∃ ks xs, x = .dct ks xs ∧ y = .dct ks xs ∧ ks.Nodup ∧ xs.all flatP = true ∧ Q (.bl b)
theorem os_eqDR {b : Bool} : OpS K .V (rEqDR b) (fDEq b) := fun F H v w x y Qp Q s r r' ⟨ks, xs, e1, e2, hn, hf, h⟩ q => by
  subst e1
  subst e2
  obtain ⟨a, vs, rfl, ha, l, rl⟩ := Tp.dct s r
  obtain ⟨c, us, rfl, hc, l', rl'⟩ := Tp.dct s r'
  obtain ⟨e, hfv⟩ := RL.same rl rl' hf
  subst e
  exact ⟨a, c, _, _, rfl, rfl, ha, hc, rfl, fun p hp => ⟨valV_zip hn p hp, hfv _ (List.of_mem_zip hp).2⟩, q F H _ _ (.refl s) (R.bl _) h⟩
theorem aq_fDEq {b : Bool} {ks ks' : List Key} {xs xs' : List P} {d d' : List (Str × Int)} [h : ED P.int ks xs d] [h' : ED P.int ks' xs' d'] {Q : P → Prop} : (fDEq b (.dct ks xs) (.dct ks' xs') Q) = (d = d' ∧ (d.map Prod.fst).Nodup ∧ Q (.bl b)) := by
  rw [h.k, h.v, h'.k, h'.v]
  have hk : (d.map fun p => (Sum.inr p.1 : Key)).Nodup ↔ (d.map Prod.fst).Nodup := by
    rw [show (d.map fun p => (Sum.inr p.1 : Key)) = (d.map Prod.fst).map Sum.inr by rw [List.map_map]; rfl]
    unfold List.Nodup
    rw [List.pairwise_map]
    exact ⟨fun h => h.imp fun h e => h (congrArg _ e), fun h => h.imp fun h e => h (Sum.inr.inj e)⟩
  refine propext ⟨fun ⟨ks2, xs2, e1, e2, hn, hf, q⟩ => ?_, fun ⟨e, hn, q⟩ => ?_⟩
  · cases e1
    rw [P.dct.injEq, dI_inj] at e2
    exact ⟨e2.symm, hk.mp hn, q⟩
  · subst e
    exact ⟨_, _, rfl, rfl, hk.mpr hn, by rw [List.all_map]; exact List.all_eq_true.mpr fun _ _ => rfl, q⟩
end
end Pf

namespace Pf
open PySem PySem.Spec PyProof.Rows L2
def capU (t e m w : Int) : Int := capI (if e + m < t then e + m else t) e w
def fallP (rs : List (Int × Str)) (z : Str) : List (Int × Int) := sortII ((sheetsI rs z).map fun k => (-(gx rs k).1, k))
def takP (e m w : Int) : List (Int × Int) → Int → List Int
  | [], _ => []
  | p :: r, g => if m ≤ g ∨ capU (-p.1) e m w = 0 then [] else p.2 :: takP e m w r (g + capU (-p.1) e m w)
theorem fallP_mem {rs : List (Int × Str)} {z : Str} {p : Int × Int} (h : p ∈ fallP rs z) : (0 ≤ p.2 ∧ p.2 < rs.length) ∧ p.1 = -(gx rs p.2).1 := by
  obtain ⟨k, hk, rfl⟩ := List.mem_map.mp ((sortII_perm _).mem_iff.mp h)
  obtain ⟨j, r, rfl, hj, _⟩ := sheetsI_at hk
  have := (List.getElem?_eq_some_iff.mp hj).1
  exact ⟨⟨by show (0:Int) ≤ (j:Int); omega, by show (j:Int) < _; omega⟩, rfl⟩
theorem fallP_len {rs : List (Int × Str)} {z : Str} {n : Nat} (h : rs.length ≤ n) : (fallP rs z).length ≤ n := by
  unfold fallP
  rw [sortII_len, List.length_map]
  exact sheetsI_len h
theorem powI_lt {w : Int} (hw : 1 ≤ w) : ∀ n : Nat, (n : Int) < (w + 1) ^ n
  | 0 => by rw [Int.pow_zero]; decide
  | n + 1 => by
    have h := powI_lt hw n
    rw [Int.pow_succ]
    generalize (w + 1) ^ n = q at h ⊢
    have : q * 2 ≤ q * (w + 1) := Int.mul_le_mul_of_nonneg_left (by omega) (by omega)
    omega
theorem powI_mono {w : Int} (hw : 1 ≤ w) {a : Nat} : ∀ {b : Nat}, a ≤ b → (w + 1) ^ a ≤ (w + 1) ^ b
  | 0, h => by rw [show a = 0 by omega]; exact Int.le_refl _
  | b + 1, h => by
    by_cases e : a = b + 1
    · rw [e]; exact Int.le_refl _
    have h := powI_mono hw (b := b) (a := a) (by omega)
    have h2 := powI_lt hw b
    rw [Int.pow_succ]
    generalize (w + 1) ^ b = q at h h2 ⊢
    have : q * 1 ≤ q * (w + 1) := Int.mul_le_mul_of_nonneg_left (by omega) (by omega)
    omega
theorem capU_lo {t e m w : Int} (hm : 0 ≤ m) (h : t < e) : capU t e m w = 0 := by
  unfold capU
  rw [if_neg (by omega)]
  unfold capI
  rw [if_pos h]
theorem capU_hi {t e m w : Int} (hm : 0 ≤ m) (hw : 1 ≤ w) (h : e ≤ t) : 0 < capU t e m w ∧ (t ≤ e + m → capU t e m w = capI t e w) ∧ (e + m < t → m < capU t e m w ∧ m < capI t e w) := by
  unfold capU capI
  refine ⟨?_, fun h2 => by rw [if_neg (show ¬ e + m < t by omega)], fun h2 => ?_⟩
  · split
    · rw [if_neg (by omega)]
      have := powI_lt hw (e + m - e).toNat
      omega
    · rw [if_neg (by omega)]
      have := powI_lt hw (t - e).toNat
      omega
  · rw [if_pos h2, if_neg (by omega), if_neg (by omega)]
    have h3 := powI_lt hw (e + m - e).toNat
    have h4 := powI_mono hw (a := (e + m - e).toNat) (b := (t - e).toNat) (by omega)
    omega
theorem takP_sub {e m w : Int} : ∀ {l : List (Int × Int)} {g : Int}, (takP e m w l g).length ≤ l.length
  | [], _ => Nat.le_refl _
  | p :: r, g => by
    unfold takP
    split
    · exact Nat.zero_le _
    · exact Nat.succ_le_succ takP_sub
def takI (rs : List (Int × Str)) (e m w : Int) (z : Str) : List Int := takP e m w (fallP rs z) 0
theorem takI_len {rs : List (Int × Str)} {e m w : Int} {z : Str} {n : Nat} (h : rs.length ≤ n) : (takI rs e m w z).length ≤ n := Nat.le_trans takP_sub (fallP_len h)
def dm (d : List (Str × Int)) (z : Str) : Int := (dget d z).getD 0
def asideI (rs : List (Int × Str)) (e w : Int) (d : List (Str × Int)) : List Int := sortI ((d.map Prod.fst).flatMap fun z => takI rs e (dm d z) w z)
theorem flat_le {α β : Type} {f : α → List β} {n : Nat} : ∀ {l : List α}, (∀ a ∈ l, (f a).length ≤ n) → (l.flatMap f).length ≤ l.length * n
  | [], _ => by simp
  | a :: r, h => by
    rw [List.flatMap_cons, List.length_append, List.length_cons, Nat.add_mul, Nat.one_mul]
    have := h a List.mem_cons_self
    have := flat_le (f := f) (n := n) fun b hb => h b (List.mem_cons_of_mem _ hb)
    omega
/-- the demands below 0, in order -/
def negL (d : List (Str × Int)) : List Str := sortS ((d.map Prod.fst).filter fun z => decide (dm d z < 0))
theorem negL_eq {d : List (Str × Int)} : negL d = (sortS (d.map Prod.fst)).filter fun z => decide (dm d z < 0) :=
  sortedS_one ((sortS_perm _).trans ((sortS_perm _).filter _).symm) (sortS_pw _) ((sortS_pw _).filter _)
def DmR (R : Int → Prop) (d : List (Str × Int)) : Prop := (d.map Prod.fst).Nodup ∧ ∀ p ∈ d, SOk p.1 ∧ R p.2
theorem DmR.nil {R : Int → Prop} : DmR R [] := ⟨List.nodup_nil, fun p h => absurd h List.not_mem_nil⟩
theorem DmR.put {R : Int → Prop} {d : List (Str × Int)} {z : Str} {a : Int} (h : DmR R d) (hz : SOk z) (ha : R a) : DmR R (dput d z a) := by
  refine ⟨dput_nodup h.1, fun p hp => ?_⟩
  unfold dput at hp
  split at hp
  · obtain ⟨q, hq, rfl⟩ := List.mem_map.mp hp
    have := h.2 q hq
    split
    · exact ⟨this.1, ha⟩
    · exact this
  · rcases List.mem_append.mp hp with hp | hp
    · exact h.2 p hp
    · rw [List.mem_singleton.mp hp]; exact ⟨hz, ha⟩
theorem DmR.imp {R S : Int → Prop} {d : List (Str × Int)} (h : DmR R d) (f : ∀ x, R x → S x) : DmR S d := ⟨h.1, fun p hp => ⟨(h.2 p hp).1, f _ (h.2 p hp).2⟩⟩
theorem DmR.dm {R : Int → Prop} {d : List (Str × Int)} (h : DmR R d) : ∀ z ∈ d.map Prod.fst, R (dm d z) := fun z hz => by
  obtain ⟨a, ha⟩ := Option.isSome_iff_exists.mp (dget_mem.mpr hz)
  unfold Pf.dm
  rw [ha]
  exact (h.2 _ (dget_some ha)).2
theorem negL_some {d : List (Str × Int)} {z : Str} {a : Int} (h : dget d z = some a) (ha : a < 0) : negL d ≠ [] := fun e => by
  have h1 : z ∈ d.map Prod.fst := dget_mem.mp (by rw [h]; rfl)
  have : z ∈ negL d := sortS_mem.mpr (List.mem_filter.mpr ⟨h1, decide_eq_true (by unfold Pf.dm; rw [h]; exact ha)⟩)
  rw [e] at this
  exact absurd this List.not_mem_nil
end Pf
namespace Pf
open PySem PySem.Spec PyProof.Rows L2
end Pf

namespace Pf
open PySem PySem.Spec PyProof.Rows L2
section
variable {K : PySem.W.Frag} {W : WX} {k : Rk} {ro : Bool}
theorem ap_onTN {Q : Bool → Prop} : (onT .non Q) = Q false := rfl
theorem ap_onTL {xs : List P} {Q : Bool → Prop} : (onT (.lst xs) Q) = Q (!xs.isEmpty) := rfl
end
end Pf
namespace Pf
open PySem PySem.Spec PyProof.Rows L2
section
variable {K : PySem.W.Frag} {W : WX} {k : Rk} {ro : Bool}
end
end Pf
namespace Pf
open PySem PySem.Spec PyProof.Rows L2
section
variable {X : Cx}
end
end Pf
namespace Pf
open PySem PySem.Spec PyProof.Rows L2
section
variable {K : PySem.W.Frag} {W : WX} {k : Rk} {ro : Bool}
end
end Pf

namespace Pf
open PySem PySem.Spec PyProof.Rows L2
def capSU (ls : List Int) (e m w : Int) : Int := (ls.map fun l => capU l e m w).sum
def lvZ (rs : List (Int × Str)) (z : Str) : List (Int × Str) := rs.filter fun r => decide (r.2 = z)
def hgtL (sp : List Int) (e : Int) : List Int → P
  | [] => .non
  | h :: r => if cntM sp h < h + 1 - e then .tup [.str (Str.ofString "height"), .int h, .int (cntM sp h)] else hgtL sp e r
def recL (f : Str → Int) (d : List (Str × Int)) : List Str → Option P
  | [] => none
  | z :: r => if f z < dm d z then some (.tup [.str (Str.ofString "record"), .str z, .int (f z)]) else recL f d r
theorem hgtL_cons {sp : List Int} {e h : Int} {r : List Int} : hgtL sp e (h :: r) = if cntM sp h < h + 1 - e then .tup [.str (Str.ofString "height"), .int h, .int (cntM sp h)] else hgtL sp e r := rfl
theorem recL_cons {f : Str → Int} {d : List (Str × Int)} {z : Str} {r : List Str} : recL f d (z :: r) = if f z < dm d z then some (.tup [.str (Str.ofString "record"), .str z, .int (f z)]) else recL f d r := rfl
def totI (d : List (Str × Int)) : Int := ((d.map Prod.fst).map (dm d)).sum
def trP (rs : List (Int × Str)) (t e w : Int) (d : List (Str × Int)) : P :=
  if (rs.length : Int) < totI d then .tup [.str (Str.ofString "total"), .int (totI d)]
  else if capSU (rs.map Prod.fst) e rs.length w < rs.length then .tup [.str (Str.ofString "reach"), .int (capSU (rs.map Prod.fst) e rs.length w)]
  else (recL (fun z => capSU ((lvZ rs z).map Prod.fst) e (dm d z) w) d (sortS (d.map Prod.fst))).getD (hgtL (spareL (rs.map Prod.fst) (asideI rs e w d)) e (rgI e (t - e).toNat))
/-- the law's -/
def trQ (rs : List (Int × Str)) (t e w : Int) (d : List (Str × Int)) : P :=
  if (rs.length : Int) < totI d then .tup [.str (Str.ofString "total"), .int (totI d)]
  else if capS (rs.map Prod.fst) e w < rs.length then .tup [.str (Str.ofString "reach"), .int (capS (rs.map Prod.fst) e w)]
  else (recL (fun z => capS ((lvZ rs z).map Prod.fst) e w) d (sortS (d.map Prod.fst))).getD (hgtL (spareL (rs.map Prod.fst) (asideI rs e w d)) e (rgI e (t - e).toNat))
theorem capSU_cmp {e m w : Int} (hm : 0 ≤ m) (hw : 1 ≤ w) : ∀ (ls : List Int), 0 ≤ capSU ls e m w ∧ capSU ls e m w ≤ capS ls e w ∧ (capSU ls e m w < m → capSU ls e m w = capS ls e w)
  | [] => ⟨Int.le_refl _, Int.le_refl _, fun _ => rfl⟩
  | x :: r => by
    obtain ⟨h0, h1, h2⟩ := capSU_cmp (e := e) hm hw r
    have e1 : capSU (x :: r) e m w = capU x e m w + capSU r e m w := by unfold capSU; rw [List.map_cons, List.sum_cons]
    have e2 : capS (x :: r) e w = capI x e w + capS r e w := capS_cons
    rw [e1, e2]
    by_cases hx : x < e
    · have a1 := capU_lo (w := w) hm hx
      have a2 : capI x e w = 0 := by unfold capI; rw [if_pos hx]
      exact ⟨by omega, by omega, fun h => by omega⟩
    · obtain ⟨b1, b2, b3⟩ := capU_hi (t := x) (e := e) hm hw (by omega)
      by_cases hx2 : x ≤ e + m
      · have := b2 hx2
        exact ⟨by omega, by omega, fun h => by omega⟩
      · have := b3 (by omega)
        have hle : capU x e m w ≤ capI x e w := by
          unfold capU
          rw [if_pos (by omega)]
          exact capI_mono hw (by omega)
        exact ⟨by omega, by omega, fun h => by omega⟩
theorem recL_eq {f g : Str → Int} {d : List (Str × Int)} (h : ∀ z, (f z < dm d z ↔ g z < dm d z) ∧ (f z < dm d z → f z = g z)) : ∀ l, recL f d l = recL g d l
  | [] => rfl
  | z :: r => by
    unfold recL
    by_cases hz : f z < dm d z
    · rw [if_pos hz, if_pos ((h z).1.mp hz), (h z).2 hz]
    · rw [if_neg hz, if_neg (fun k => hz ((h z).1.mpr k))]
      exact recL_eq h r
theorem trQ_eq {rs : List (Int × Str)} {t e w : Int} {d : List (Str × Int)} (hw : 1 ≤ w) (hd : ∀ z, 0 ≤ dm d z) : trQ rs t e w d = trP rs t e w d := by
  unfold trQ trP
  obtain ⟨h0, h1, h2⟩ := capSU_cmp (e := e) (m := (rs.length : Int)) (by omega) hw (rs.map Prod.fst)
  rw [recL_eq (f := fun z => capS ((lvZ rs z).map Prod.fst) e w) (g := fun z => capSU ((lvZ rs z).map Prod.fst) e (dm d z) w) fun z => by
    obtain ⟨h0, h1, h2⟩ := capSU_cmp (e := e) (m := dm d z) (hd z) hw ((lvZ rs z).map Prod.fst)
    exact ⟨⟨fun h => by show _ < _; omega, fun h => by have := h2 h; show _ < _; omega⟩, fun h => (h2 (by omega)).symm⟩]
  split
  · rfl
  · by_cases hc : capSU (rs.map Prod.fst) e rs.length w < rs.length
    · have := h2 hc
      rw [if_pos hc, if_pos (by omega), this]
    · rw [if_neg hc, if_neg (by omega)]
theorem cnt_two {rs : List (Int × Str)} {as : List Int} {h : Int} : (((rgI 0 rs.length).filter fun k => decide (k ∉ as ∧ (gx rs k).1 ≤ h)).length : Int) = cntM (spareL (rs.map Prod.fst) as) h := by
  unfold cntM
  rw [← spareL_range, show (rs.map Prod.fst).length = rs.length from List.length_map _, List.filter_map, List.length_map, List.filter_filter]
  refine congrArg Nat.cast (congrArg List.length (List.filter_congr fun k hk => ?_))
  have hk := rgI_mem.mp hk
  show decide _ = (decide (gx (rs.map Prod.fst) k ≤ h) && decide _)
  rw [gx_fst (by omega) (by omega), Bool.and_comm, ← Bool.decide_and]
theorem cntR_zero {rs : List (Int × Str)} {z : Str} : cntR rs z = 0 ↔ z ∉ rs.map Prod.snd := by
  refine ⟨fun h hm => ?_, cntR_none⟩
  obtain ⟨r, hr, rfl⟩ := List.mem_map.mp hm
  unfold cntR at h
  rw [List.length_eq_zero_iff, List.filter_eq_nil_iff] at h
  exact h r hr (decide_eq_true rfl)
theorem InB.cell {ds ss : List Int} (h : InB ds ss) {k : Int} (h0 : 0 ≤ k) (h1 : k < (ss.length : Int)) : 0 ≤ gx ds k ∧ gx ds k < gx ss k := by
  refine h.b h0 ?_
  rw [gx_nn h0, List.getElem?_eq_getElem (by omega)]
  rfl
theorem wf_one {n : Nat} {s t : Int} (hs : 0 ≤ s ∧ s < (n : Int)) (ht : 0 ≤ t ∧ t < (n : Int)) : wfB n s [t] = true :=
  wfB_iff.mpr ⟨by show 0 < 1; decide, ascB_iff.mpr fun j hj => absurd hj (by show ¬ j + 1 < 1; omega), fun i hi => by
    simp only [List.mem_cons, List.not_mem_nil, or_false] at hi
    rcases hi with rfl | rfl
    · exact hs
    · exact ht⟩
end Pf
namespace Pf
open PySem PySem.Spec PyProof.Rows L2
inductive Rsn where
  | tot (n : Int)
  | rch (n : Int)
  | rcd (z : Str) (n : Int)
  | hgt (h n : Int)
def rsP : Rsn → P
  | .tot n => .tup [.str (Str.ofString "total"), .int n]
  | .rch n => .tup [.str (Str.ofString "reach"), .int n]
  | .rcd z n => .tup [.str (Str.ofString "record"), .str z, .int n]
  | .hgt h n => .tup [.str (Str.ofString "height"), .int h, .int n]
theorem rsn_total_reach : (Str.ofString "total" = Str.ofString "reach") = False := eq_false (by decide +kernel)
theorem rsn_total_record : (Str.ofString "total" = Str.ofString "record") = False := eq_false (by decide +kernel)
theorem rsn_total_height : (Str.ofString "total" = Str.ofString "height") = False := eq_false (by decide +kernel)
theorem rsn_reach_total : (Str.ofString "reach" = Str.ofString "total") = False := eq_false (by decide +kernel)
theorem rsn_reach_record : (Str.ofString "reach" = Str.ofString "record") = False := eq_false (by decide +kernel)
theorem rsn_reach_height : (Str.ofString "reach" = Str.ofString "height") = False := eq_false (by decide +kernel)
theorem rsn_record_total : (Str.ofString "record" = Str.ofString "total") = False := eq_false (by decide +kernel)
theorem rsn_record_reach : (Str.ofString "record" = Str.ofString "reach") = False := eq_false (by decide +kernel)
theorem rsn_record_height : (Str.ofString "record" = Str.ofString "height") = False := eq_false (by decide +kernel)
theorem rsn_height_total : (Str.ofString "height" = Str.ofString "total") = False := eq_false (by decide +kernel)
theorem rsn_height_reach : (Str.ofString "height" = Str.ofString "reach") = False := eq_false (by decide +kernel)
theorem rsn_height_record : (Str.ofString "height" = Str.ofString "record") = False := eq_false (by decide +kernel)
theorem rs_inj {a b : Rsn} : (rsP a = rsP b) = (a = b) := by
  refine propext ⟨fun h => ?_, fun h => by rw [h]⟩
  cases a <;> cases b <;> simp only [rsP, P.tup.injEq, List.cons.injEq, P.str.injEq, P.int.injEq, and_true, true_and, reduceCtorEq, false_and, and_false, rsn_total_reach, rsn_total_record, rsn_total_height, rsn_reach_total, rsn_reach_record, rsn_reach_height, rsn_record_total, rsn_record_reach, rsn_record_height, rsn_height_total, rsn_height_reach, rsn_height_record] at h
  · rw [h]
  · rw [h]
  · rw [h.1, h.2]
  · rw [h.1, h.2]
end Pf
namespace Pf
open PySem PySem.Spec PyProof.Rows L2
end Pf

namespace Pf
open PySem PySem.Spec PyProof.Rows L2
section
variable {X : Cx} {n : Nat} {f C : Addr} {fd : FuncData} {ps : List Str} {spn : Nat → Sp} {E : XK} {A1 : Around} {pins : List (Addr × Obj)} {σ : L2.St} {H : Hp} {s : Shared}
variable {fi fl : Addr} {fdI fdL : FuncData} {psI psL : List Str} {spL : Nat → Sp} {EI EL : XK} {g : Str}
end
end Pf
namespace Pf
open PySem PySem.Spec PyProof.Rows L2
section
variable {K : PySem.W.Frag} {W : WX} {k : Rk} {ro : Bool}
end
end Pf
namespace Pf
open PySem PySem.Spec PyProof.Rows L2
section
variable {K : PySem.W.Frag} {W : WX} {k : Rk} {ro : Bool}
theorem map_dropLast' {α : Type} {f : α → P} {l : List α} : (l.map f).dropLast = l.dropLast.map f := (List.map_dropLast ..).symm
end
end Pf

namespace Pf
open PySem PySem.Spec PyProof.Rows L2
section
variable {M : Model} {A : Around} {R : GenEnd} {Y : Protocol} {n : Nat} {s₀ : Shared} {c : Code} {fs : List Frame} {s : Shared} {env : Env}
  {K : Flow → Sem PySem.Fin} {H : Value → Sem PySem.Fin} {gd : Bool → Bool} {lv : List Value → List Value}
end
section
variable {prog : Program} {w : World} {A : Around} {R : GenEnd} {Y : Protocol} {n : Nat} {s₀ : Shared} {fs : List Frame} {s : Shared} {env : Env}
end
section
variable {X : Cx} {tg iter : Expr} {body : List Stmt} {wi : TI} {g : TG} {tb : TGn} {pos : Pos}
end
end Pf

namespace Pf
open PySem PySem.Spec PyProof.Rows L2
structure GPE where
  nx : List P → PEnv → Prop
  bk : List P → PEnv → Prop
  ct : List P → PEnv → Prop
  ex : PEnv → XP
abbrev WG := GPE → List P → PEnv → Prop
section
variable {K : PySem.W.Frag} {W : WX}
def GOk (K : PySem.W.Frag) (F0 H0 : Hp) (Dp : GPE) (D : GEnds) : Prop :=
  (∀ σ F H env vs xs, Good K F0 H0 σ F H env → RL K F vs xs → Dp.nx xs env → D.nx vs σ H) ∧
  (∀ σ F H env vs xs, Good K F0 H0 σ F H env → RL K F vs xs → Dp.bk xs env → D.bk vs σ H) ∧
  (∀ σ F H env vs xs, Good K F0 H0 σ F H env → RL K F vs xs → Dp.ct xs env → D.ct vs σ H)
theorem GOk.base {F0 F1 H0 : Hp} {Dp : GPE} {D : GEnds} (e : Ext H0 F0 F1) (d : GOk K F0 H0 Dp D) : GOk K F1 H0 Dp D :=
  ⟨fun σ F H env vs xs g => d.1 σ F H env vs xs (g.back e), fun σ F H env vs xs g => d.2.1 σ F H env vs xs (g.back e), fun σ F H env vs xs g => d.2.2 σ F H env vs xs (g.back e)⟩
/-- a generator def's promise: the list of all that it hands out -/
abbrev PSpG := List P → (List P → Prop) → XP → Prop
variable {Pg : Program} {w : World} {mg : Str → Option Value} {base : Heap} {x qual : Str} {st : Stmt} {f : Addr} {fd : FuncData} {N ps : List Str} {kk : Nat} {ms : List Mo} {p : PSpG} {b : WG}
end
section
variable {X : Cx} {kk n : Nat} {f : Addr} {fd : FuncData} {ps ks : List Str} {sp : SpG} {x nm : Str} {p p2 pos pos2 : Pos} {e : Expr} {es : List Expr} {kws : List Keyword} {t tk : TA} {g : List Value → List Value → List Value} {gV : List V → List V → List V} {E : L2.St → XK}
structure PGenS (X : Cx) (k : Nat) (e : Expr) (tg : TGen) (E : L2.St → XK) : Prop where
  run : ∀ (pins : List (Addr × Obj)) (s : Shared) (σ : L2.St) (H : Hp) (cont : List V → Hp → Prop), Inv X pins σ H s → tg σ H cont → wpAny (model X.prog X.w) X.A (eval e X.env)
    (fun u s' => ∃ H1 sc ex, Inv X pins σ H1 sc ∧ ExOk X pins ex ∧ GMade X.prog X.w k X.stack H1 sc ex cont (E σ) u s') X.xe s
end
end Pf
namespace Pf
open PySem PySem.Spec PyProof.Rows L2
section
variable {K : PySem.W.Frag} {W : WX}
end
end Pf
namespace Pf
open PySem PySem.Spec PyProof.Rows L2
section
variable {K : PySem.W.Frag} {W : WX}
end
section
variable {α : Type} {enc : α → P} {l : List α} {zs : List P} {g : P → PEnv → (PEnv → Prop) → Prop} {b : WG} {D : GPE} {acc : List P} {env : PEnv}
end
end Pf
namespace Pf
open PySem PySem.Spec PyProof.Rows L2
section
variable {K : PySem.W.Frag} {W : WX}
end
end Pf
namespace Pf
open PySem PySem.Spec PyProof.Rows L2
end Pf
namespace Pf
open PySem PySem.Spec PyProof.Rows L2

end Pf
namespace Pf
open PySem PySem.Spec PyProof.Rows L2
section
variable {K : PySem.W.Frag} {W : WX} {ro : Bool}
theorem map_eraseIdx' {α : Type} {f : α → P} {l : List α} {k : Nat} : (l.map f).eraseIdx k = (l.eraseIdx k).map f := by
  rw [List.eraseIdx_eq_take_drop_succ, List.eraseIdx_eq_take_drop_succ, List.map_append, List.map_take, List.map_drop]
end
end Pf
namespace Pf
open PySem PySem.Spec PyProof.Rows L2
section
variable {K : PySem.W.Frag} {W : WX}
end
end Pf
namespace Pf
open PySem PySem.Spec PyProof.Rows L2

end Pf
namespace Pf
open PySem PySem.Spec PyProof.Rows L2
section
variable {K : PySem.W.Frag} {W : WX}
def wDisp1 (wk wv : WE) : WE := fun env Q X => wk env (fun x => wv env (fun y => onKey x fun k => Q (.dct [k] [y])) X) X
theorem se_disp1 {tk tv : TE} {wk wv : WE} (hk : SE K W .V tk wk) (hv : SE K W .V tv wv) : SE K W .O (tDisp [(tk, tv)]) (wDisp1 wk wv) := fun F0 H0 σ F H env Qp Xp Q g hw hx q p np => by
  have m0 : Mv F H F (upd H p (.dK [])) := mv_new g.fh np
  refine hk F0 H0 σ F _ env _ Xp _ (g.mv m0) hw (hx.mv m0) fun F1 H1 v x m1 r1 h1 => ?_
  refine hv F0 H0 σ F1 H1 env _ Xp _ ((g.mv m0).mv m1) h1 ((hx.mv m0).mv m1) fun F2 H2 w y m2 r2 h2 => ?_
  obtain ⟨k, rfl, h2⟩ := onKey_of (K := K) (F := F1) (H := H1) (.inl r1) h2
  have m := m0.trans (m1.trans m2)
  have hp : H2 p = some (.dK []) := (m1.trans m2).s _ _ upd_same
  have nf : F2 p = none := ((m1.trans m2).e.2 _ _ upd_same).trans (same_free g.fh np)
  refine ⟨hp, [(k, w)], rfl, by simp, ?_⟩
  have mk : Mv F H F2 (upd H2 p (.dK [(k, w)])) := ⟨m.e, fun b u e => by rw [upd_ne (ne_of_none e np)]; exact m.s _ _ e, same_put m.fh nf⟩
  exact q F2 _ (.ref p) (.dct [k] [y]) mk (.inl ⟨p, _, rfl, np, nf, upd_same, [w], rfl, rfl, .cons r2 .nil⟩) h2
theorem ap_disp1 {wk wv : WE} {env : PEnv} {Q : P → Prop} {X : XP} : (wDisp1 wk wv env Q X) = (wk env (fun x => wv env (fun y => onKey x fun k => Q (.dct [k] [y])) X) X) := rfl
end
end Pf
namespace Pf
open PySem PySem.Spec PyProof.Rows L2

end Pf
namespace Pf
open PySem PySem.Spec PyProof.Rows L2
section
variable {K : PySem.W.Frag} {W : WX}
variable {X : Cx} {kx vx tg iter : Expr} {ifs : List Expr} {scope : Scope} {own : List (Str × Nat)} {pos : Pos} {wi : TI}
end
end Pf
namespace Pf
open PySem PySem.Spec PyProof.Rows L2
section
variable {α β : Type} {xs : List P} {enc : α → P} {l : List α} {g : P → PEnv → (PEnv → Prop) → Prop} {tt : WT} {tk tv : WE} {vs : List Nat} {env : PEnv} {Q : P → Prop}
end
end Pf
namespace Pf
open PySem PySem.Spec PyProof.Rows L2

end Pf
namespace Pf
open PySem PySem.Spec PyProof.Rows L2
end Pf
namespace Pf
open PySem PySem.Spec PyProof.Rows L2
section
variable {K : PySem.W.Frag} {W : WX}
end
end Pf
namespace Pf
open PySem PySem.Spec PyProof.Rows L2

end Pf
namespace Pf
open PySem PySem.Spec PyProof.Rows L2

end Pf
namespace Pf
open PySem PySem.Spec PyProof.Rows L2
section
variable {K : PySem.W.Frag} {W : WX}
theorem aq_lenSet {xs : List P} {ns : List Int} [h : EL P.int xs ns] {Q : List Int → Prop} : (∃ ms : List Int, P.lst xs = il ms ∧ ms.length ≤ 4000 ∧ Q ms) = (ns.length ≤ 4000 ∧ Q ns) := by
  rw [h.eq]
  refine propext ⟨fun ⟨ms, e, h1, h2⟩ => ?_, fun ⟨h1, h2⟩ => ⟨ns, rfl, h1, h2⟩⟩
  have e2 := P.lst.inj e
  rw [int_inj] at e2
  subst e2
  exact ⟨h1, h2⟩
end
end Pf

namespace Pf
open PySem PySem.Spec PyProof.Rows L2
theorem logOk_app {w : Int} {es : List (Int × List Int)} : ∀ {ds : List (Int × List Int)} {rs : List (Int × Str)}, logOk rs w ds → logOk (aftL rs ds) w es → logOk rs w (ds ++ es)
  | [], _, _, h => h
  | d :: ds, rs, h, h2 => ⟨h.1, logOk_app h.2 h2⟩
theorem alB_mono {rs : List (Int × Str)} {s w w' : Int} {ts : List Int} (h : alB rs s ts w = true) (hw : w ≤ w') : alB rs s ts w' = true := by
  obtain ⟨h1, h2, h3⟩ := alB_iff.mp h
  exact alB_iff.mpr ⟨h1, by omega, h3⟩
theorem logOk_mono {w w' : Int} (hw : w ≤ w') : ∀ {ds : List (Int × List Int)} {rs : List (Int × Str)}, logOk rs w ds → logOk rs w' ds
  | [], _, _ => trivial
  | d :: ds, rs, h => ⟨alB_mono h.1 hw, logOk_mono hw h.2⟩
def stsL (rs : List (Int × Str)) (ds : List (Int × List Int)) : List (List (Int × Str)) := (List.range (ds.length + 1)).map fun i => aftL rs (ds.take i)
theorem dm_shD {rs : List (Int × Str)} {z : Str} : (dget (shD rs) z).getD 0 = (cntR rs z : Int) := by
  rw [shD_get]
  split
  · rfl
  · rename_i h
    rw [cntR_none h]; rfl
theorem aftL_rc {w : Int} : ∀ {ds : List (Int × List Int)} {rs : List (Int × Str)}, logOk rs w ds → (∀ r ∈ rs, isRec r.2 = true) → ∀ r ∈ aftL rs ds, isRec r.2 = true
  | [], _, _, h => h
  | d :: ds, rs, hl, h => by
    have h2 : ∀ r ∈ aftR rs d.1 d.2, isRec r.2 = true := aftR_rc hl.1 h
    exact aftL_rc (ds := ds) (rs := aftR rs d.1 d.2) hl.2 h2
theorem logOk_take {w : Int} : ∀ {ds : List (Int × List Int)} {rs : List (Int × Str)} (i : Nat), logOk rs w ds → logOk rs w (ds.take i)
  | [], _, i, h => by rw [List.take_nil]; trivial
  | d :: ds, rs, 0, h => trivial
  | d :: ds, rs, i + 1, h => ⟨h.1, logOk_take i h.2⟩
theorem cntR_le {rs : List (Int × Str)} {z : Str} : cntR rs z ≤ rs.length := List.length_filter_le _ _
end Pf

namespace Pf
open PySem PySem.Spec PyProof.Rows L2
theorem lg_inj {a b : List (List (Int × List Int))} : (List.map lgP a = List.map lgP b) = (a = b) :=
  propext (List.map_inj_right fun x y e => by simpa [dd_inj] using e)
instance de_lg : DE lgP 3 := ⟨fun a b => eq_ml⟩
instance ve_lg {xs : List P} {l : List (Int × List Int)} [h : EL ddP xs l] : VE lgP (.lst xs) l := ⟨by rw [h.eq]⟩
theorem sum_nn' {α : Type} {f : α → Int} {l : List α} (h : ∀ x ∈ l, 0 ≤ f x) : 0 ≤ (l.map f).sum := by
  have := sum_le2 (f := fun _ => (0 : Int)) (g := f) h
  have e : (l.map fun _ => (0 : Int)).sum = 0 := by
    clear h this
    induction l with
    | nil => rfl
    | cons a l ih => rw [List.map_cons, List.sum_cons, ih]; rfl
  omega
theorem sum_ge_len {α : Type} {f : α → Int} {l : List α} (h : ∀ x ∈ l, 1 ≤ f x) : (l.length : Int) ≤ (l.map f).sum := by
  induction l with
  | nil => exact Int.le_refl _
  | cons a l ih =>
    have h1 := h a List.mem_cons_self
    have h2 := ih fun x hx => h x (List.mem_cons_of_mem _ hx)
    rw [List.map_cons, List.sum_cons, List.length_cons]
    omega
theorem sum_lt2 {α : Type} {f g : α → Int} {l : List α} (h : ∀ x ∈ l, f x ≤ g x) {y : α} (hy : y ∈ l) (hlt : f y + 1 ≤ g y) : (l.map f).sum + 1 ≤ (l.map g).sum := by
  induction l with
  | nil => cases hy
  | cons a l ih =>
    have h1 := h a List.mem_cons_self
    rw [List.map_cons, List.sum_cons, List.map_cons, List.sum_cons]
    rcases List.mem_cons.mp hy with rfl | hy
    · have := sum_le2 fun x hx => h x (List.mem_cons_of_mem _ hx)
      omega
    · have := ih (fun x hx => h x (List.mem_cons_of_mem _ hx)) hy
      omega
theorem sum_const {α : Type} {c : Int} {l : List α} : (l.map fun _ => c).sum = (l.length : Int) * c := by
  induction l with
  | nil => simp
  | cons a l ih => rw [List.map_cons, List.sum_cons, ih, List.length_cons, Int.natCast_add, Int.add_mul]; omega
/-- two readings of indexes that differ in a few places -/
theorem sum_two {n : Nat} {J : List Int} (hJ : J.Nodup) (hin : ∀ i ∈ J, 0 ≤ i ∧ i < (n : Int)) {f g : Int → Int} (hs : ∀ i, 0 ≤ i → i < (n : Int) → i ∉ J → f i = g i) :
    ((rgI 0 n).map f).sum + (J.map g).sum = ((rgI 0 n).map g).sum + (J.map f).sum := by
  have hp : (rgI 0 n).Perm (J ++ (rgI 0 n).filter fun i => decide (i ∉ J)) := by
    refine (List.perm_ext_iff_of_nodup (rgI_pw.imp fun h => by omega) ?_).mpr fun i => ?_
    · refine List.nodup_append.mpr ⟨hJ, (rgI_pw.imp fun h => by omega : (rgI 0 n).Nodup).filter _, fun a ha b hb => ?_⟩
      have := (List.mem_filter.mp hb).2
      intro e
      subst e
      exact of_decide_eq_true this ha
    · rw [List.mem_append, List.mem_filter, decide_eq_true_iff]
      constructor
      · intro h
        by_cases hj : i ∈ J
        · exact .inl hj
        · exact .inr ⟨h, hj⟩
      · rintro (h | h)
        · have := hin i h
          exact rgI_mem.mpr ⟨by omega, by omega⟩
        · exact h.1
  have e1 := perm_sum (hp.map f)
  have e2 := perm_sum (hp.map g)
  rw [List.map_append, List.sum_append] at e1 e2
  have e3 : ((rgI 0 n).filter fun i => decide (i ∉ J)).map f = ((rgI 0 n).filter fun i => decide (i ∉ J)).map g := List.map_congr_left fun i hi => by
    obtain ⟨h1, h2⟩ := List.mem_filter.mp hi
    have := rgI_mem.mp h1
    exact hs i (by omega) (by omega) (of_decide_eq_true h2)
  rw [e3] at e1
  omega
theorem setR_get {m : List (Int × Str)} {r : Int × Str} {is : List Int} (h : ∀ i ∈ is, 0 ≤ i ∧ i < (m.length : Int)) {j : Int} (h0 : 0 ≤ j) (h1 : j < (m.length : Int)) : gx (setR m r is) j = if j ∈ is then r else gx m j := by
  induction is generalizing m with
  | nil => rw [if_neg (by simp)]; rfl
  | cons i is ih =>
    have hi := h i List.mem_cons_self
    unfold setR
    rw [ih (fun k hk => by rw [List.length_set]; exact h k (List.mem_cons_of_mem _ hk)) (by rw [List.length_set]; exact h1)]
    by_cases hj : j ∈ is
    · rw [if_pos hj, if_pos (List.mem_cons_of_mem _ hj)]
    · rw [if_neg hj, gx_nn h0, gx_nn h0]
      by_cases e : j = i
      · subst e
        rw [if_pos List.mem_cons_self, List.getElem?_set_self (by omega)]
        rfl
      · rw [if_neg (fun q => (List.mem_cons.mp q).elim e hj), List.getElem?_set_ne (by omega)]
theorem aftR_get {rs : List (Int × Str)} {s : Int} {ts : List Int} (h : wfB rs.length s ts = true) {j : Int} (h0 : 0 ≤ j) (h1 : j < (rs.length : Int)) : gx (aftR rs s ts) j = if j ∈ s :: ts then ((gx rs s).1 - 1, (gx rs s).2) else gx rs j :=
  setR_get (wfB_iff.mp h).2.2 h0 h1
end Pf
namespace Pf
open PySem PySem.Spec PyProof.Rows L2
section
variable {e c w l : Int}
end
end Pf
namespace Pf
open PySem PySem.Spec PyProof.Rows L2
def fntI (rs : List (Int × Str)) (e : Int) : List Int := (rgI 0 rs.length).filter fun i => decide ((gx rs i).1 < e)
structure FulOk (rs : List (Int × Str)) (e w : Int) (i : Nat) (st : List Int × List (Int × List Int)) : Prop where
  k : ∃ k : Nat, st.1 = (fntI rs e).drop k ∧ st.2.flatMap (·.2) = (fntI rs e).take k
  nd : (st.2.map Prod.fst).Nodup
  dd : ∀ d ∈ st.2, (0 ≤ d.1 ∧ d.1 < (i : Int)) ∧ e < (gx rs d.1).1 ∧ d.2 ≠ [] ∧ (d.2.length : Int) ≤ w ∧ d.2.Pairwise (· < ·) ∧ (∀ t ∈ d.2, t ∈ fntI rs e) ∧ (st.1 ≠ [] → (d.2.length : Int) = w)
  src : st.1 ≠ [] → ∀ j : Nat, j < i → e < (gx rs (j : Int)).1 → (j : Int) ∈ st.2.map Prod.fst
end Pf
namespace Pf
open PySem PySem.Spec PyProof.Rows L2
end Pf
namespace Pf
open PySem PySem.Spec PyProof.Rows L2
end Pf
namespace Pf
open PySem PySem.Spec PyProof.Rows L2
end Pf
namespace Pf
open PySem PySem.Spec PyProof.Rows L2
end Pf
namespace Pf
open PySem PySem.Spec PyProof.Rows L2
end Pf
namespace Pf
open PySem PySem.Spec PyProof.Rows L2
end Pf
namespace Pf
open PySem PySem.Spec PyProof.Rows L2
section
variable {X : Cx}
end
end Pf
namespace Pf
open PySem PySem.Spec PyProof.Rows L2
end Pf
namespace Pf
open PySem PySem.Spec PyProof.Rows L2
section
variable {g : P → PEnv → (PEnv → Prop) → Prop} {tt : WT} {te : WE} {vs : List Nat} {env : PEnv} {Q : P → Prop} {xs : List P} {α : Type} {enc : α → P} {l : List α}
end
end Pf
namespace Pf
open PySem PySem.Spec PyProof.Rows L2
end Pf
namespace Pf
open PySem PySem.Spec PyProof.Rows L2
end Pf
namespace Pf
open PySem PySem.Spec PyProof.Rows L2
end Pf

namespace Pf
open PySem PySem.Spec PyProof.Rows L2
mutual
def subL : P → List (List P)
  | .lst xs => xs :: subLs xs
  | .tup xs => subLs xs
  | .dct _ xs => subLs xs
  | .dtt _ xs => subLs xs
  | .ins _ _ xs => subLs xs
  | .slf _ _ _ xs => subLs xs
  | .exc _ _ _ _ xs => subLs xs
  | .scr xs => [xs.map P.int]
  | _ => []
def subLs : List P → List (List P)
  | [] => []
  | x :: xs => subL x ++ subLs xs
end
section
variable {K : PySem.W.Frag}
def DescB (K : PySem.W.Frag) (G : Hp) (L : List (List P)) : Prop := ∀ b vs, G b = some (.lst vs) → ∃ ys, ys ∈ L ∧ RL K G vs ys
def joinH (A B : Hp) : Hp := fun b => match A b with
  | some o => some o
  | none => B b
theorem join_l {A B : Hp} : Same A (joinH A B) := fun b o e => by unfold joinH; rw [e]
theorem join_r {A B F : Hp} (ha : Same A F) (hb : Same B F) : Same B (joinH A B) := fun b o e => by
  unfold joinH
  cases ea : A b with
  | none => exact e
  | some o2 =>
    have h1 := ha _ _ ea
    rw [hb _ _ e] at h1
    exact h1.symm
theorem join_f {A B F : Hp} (ha : Same A F) (hb : Same B F) : Same (joinH A B) F := fun b o e => by
  unfold joinH at e
  cases ea : A b with
  | none => rw [ea] at e; exact hb _ _ e
  | some o2 => rw [ea] at e; cases e; exact ha _ _ ea
theorem join_at {A B : Hp} {b : Addr} {o : HO} (h : joinH A B b = some o) : A b = some o ∨ B b = some o := by
  unfold joinH at h
  cases ea : A b with
  | none => rw [ea] at h; exact .inr h
  | some o2 => rw [ea] at h; exact .inl h
theorem DescB.join {A B F : Hp} {L M : List (List P)} (ha : Same A F) (hb : Same B F) (da : DescB K A L) (db : DescB K B M) : DescB K (joinH A B) (L ++ M) := fun b vs h => by
  rcases join_at h with h | h
  · obtain ⟨ys, hy, r⟩ := da b vs h
    exact ⟨ys, List.mem_append_left _ hy, r.mono join_l⟩
  · obtain ⟨ys, hy, r⟩ := db b vs h
    exact ⟨ys, List.mem_append_right _ hy, r.mono (join_r ha hb)⟩
theorem DescB.none {L : List (List P)} : DescB K (fun _ => none) L := fun _ _ e => by cases e
theorem same_none {F : Hp} : Same (fun _ => none) F := fun _ _ e => by cases e
def oneH (a : Addr) (o : HO) : Hp := fun b => if b = a then some o else none
theorem desc_add {G F : Hp} {a : Addr} {o : HO} {L M : List (List P)} (hG : Same G F) (hF : F a = some o) (d : DescB K G L) (hl : ∀ vs, o = .lst vs → ∃ ys, ys ∈ M ∧ RL K G vs ys) (hs : ∀ y, y ∈ L → y ∈ M) :
    ∃ G', Same G G' ∧ Same G' F ∧ G' a = some o ∧ DescB K G' M := by
  have h1 : Same (oneH a o) F := fun b u e => by
    unfold oneH at e
    split at e
    · rename_i hb
      cases e
      rw [hb]; exact hF
    · cases e
  refine ⟨joinH (oneH a o) G, join_r h1 hG, join_f h1 hG, ?_, fun b vs h => ?_⟩
  · exact join_l a o (by unfold oneH; rw [if_pos rfl])
  · rcases join_at h with h | h
    · unfold oneH at h
      split at h
      · cases h
        obtain ⟨ys, hy, r⟩ := hl vs rfl
        exact ⟨ys, hy, r.mono (join_r h1 hG)⟩
      · cases h
    · obtain ⟨ys, hy, r⟩ := d b vs h
      exact ⟨ys, hs _ hy, r.mono (join_r h1 hG)⟩
theorem rl_ints {F : Hp} : ∀ {xs : List Int}, RL K F (xs.map V.int) (xs.map P.int)
  | [] => .nil
  | x :: xs => .cons (.int x) rl_ints
/-- what is frozen can do with few cells -/
theorem min_rd {F : Hp} {a : Addr} {u : HO} {L : List (List P)} {G : Hp} (hG : Same G F) (d : DescB K G L) (h : Rd F a u) (hu : ∀ vs, u ≠ .lst vs) : ∃ G', Same G G' ∧ Same G' F ∧ Rd G' a u ∧ DescB K G' L := by
  rcases h with h | ⟨o, h⟩
  · obtain ⟨G', s1, s2, e, d'⟩ := desc_add (M := L) hG h d (fun vs e => absurd e (hu vs)) fun _ h => h
    exact ⟨G', s1, s2, .inl e, d'⟩
  · obtain ⟨G', s1, s2, e, d'⟩ := desc_add (M := L) hG h d (fun vs e => by cases e) fun _ h => h
    exact ⟨G', s1, s2, .inr ⟨o, e⟩, d'⟩
mutual
theorem min_R {F : Hp} : ∀ {v : V} {x : P}, R K F v x → ∃ G, Same G F ∧ R K G v x ∧ DescB K G (subL x)
  | _, _, .non => ⟨fun _ => none, same_none, .non, .none⟩
  | _, _, .bl b => ⟨fun _ => none, same_none, .bl b, .none⟩
  | _, _, .int n => ⟨fun _ => none, same_none, .int n, .none⟩
  | _, _, .str h => ⟨fun _ => none, same_none, .str h, .none⟩
  | _, _, .adr a => ⟨fun _ => none, same_none, .adr a, .none⟩
  | _, _, .ty a => ⟨fun _ => none, same_none, .ty a, .none⟩
  | _, _, .exc0 a C => ⟨fun _ => none, same_none, .exc0 a C, .none⟩
  | _, _, .tup h r => by
    obtain ⟨G, s, q, d⟩ := min_RL r
    obtain ⟨G', s1, s2, e, d'⟩ := desc_add s h d (fun _ e => by cases e) (fun _ h => h)
    exact ⟨G', s2, .tup e (q.mono s1), by rw [subL]; exact d'⟩
  | _, _, .lst (xs := xs) h r => by
    obtain ⟨G, s, q, d⟩ := min_RL r
    obtain ⟨G', s1, s2, e, d'⟩ := desc_add (M := xs :: subLs xs) s h d (fun _ e => by cases e; exact ⟨xs, List.mem_cons_self, q⟩) (fun _ h => List.mem_cons_of_mem _ h)
    exact ⟨G', s2, .lst e (q.mono s1), by rw [subL]; exact d'⟩
  | _, _, .rng h => by
    obtain ⟨G', s1, s2, e, d'⟩ := desc_add (K := K) (M := []) same_none h (DescB.none (L := [])) (fun _ e => by cases e) (fun _ h => h)
    exact ⟨G', s2, .rng e, fun b vs hb => by obtain ⟨_, hy, _⟩ := d' b vs hb; cases hy⟩
  | _, _, .dct h l r => by
    obtain ⟨G, s, q, d⟩ := min_RL r
    obtain ⟨G', s1, s2, e, d'⟩ := min_rd s d h (fun _ e => by cases e)
    exact ⟨G', s2, .dct e l (q.mono s1), by rw [subL]; exact d'⟩
  | _, _, .dtt h l r => by
    obtain ⟨G, s, q, d⟩ := min_RL r
    obtain ⟨G', s1, s2, e, d'⟩ := min_rd s d h (fun _ e => by cases e)
    exact ⟨G', s2, .dtt e l (q.mono s1), by rw [subL]; exact d'⟩
  | _, _, .ins h e1 e2 r => by
    obtain ⟨G, s, q, d⟩ := min_RL r
    obtain ⟨G', s1, s2, e, d'⟩ := desc_add s h d (fun _ e => by cases e) (fun _ h => h)
    exact ⟨G', s2, .ins e e1 e2 (q.mono s1), by rw [subL]; exact d'⟩
  | _, _, .slf h e1 e2 r => by
    obtain ⟨G, s, q, d⟩ := min_RL r
    obtain ⟨G', s1, s2, e, d'⟩ := desc_add s h d (fun _ e => by cases e) (fun _ h => h)
    exact ⟨G', s2, .slf e e1 e2 (q.mono s1), by rw [subL]; exact d'⟩
  | _, _, .exc1 h e1 e2 r => by
    obtain ⟨G, s, q, d⟩ := min_RL r
    obtain ⟨G', s1, s2, e, d'⟩ := desc_add s h d (fun _ e => by cases e) (fun _ h => h)
    exact ⟨G', s2, .exc1 e e1 e2 (q.mono s1), by rw [subL]; exact d'⟩
  | _, _, .scr (xs := xs) h => by
    rcases h with (h | ⟨o, h⟩) | h
    · obtain ⟨G', s1, s2, e, d'⟩ := desc_add (K := K) (M := [xs.map P.int]) same_none h (DescB.none (L := [])) (fun _ e => by cases e; exact ⟨_, List.mem_cons_self, rl_ints⟩) (fun _ h => by cases h)
      exact ⟨G', s2, .scr (.inl (.inl e)), by rw [subL]; exact d'⟩
    · obtain ⟨G', s1, s2, e, d'⟩ := desc_add (K := K) (M := [xs.map P.int]) same_none h (DescB.none (L := [])) (fun _ e => by cases e) (fun _ h => by cases h)
      exact ⟨G', s2, .scr (.inl (.inr ⟨o, e⟩)), by rw [subL]; exact d'⟩
    · exact ⟨fun _ => none, same_none, .scr (.inr h), .none⟩
theorem min_RL {F : Hp} : ∀ {vs : List V} {xs : List P}, RL K F vs xs → ∃ G, Same G F ∧ RL K G vs xs ∧ DescB K G (subLs xs)
  | _, _, .nil => ⟨fun _ => none, same_none, .nil, .none⟩
  | _, _, .cons h r => by
    obtain ⟨G, s, q, d⟩ := min_R h
    obtain ⟨G2, s2, q2, d2⟩ := min_RL r
    exact ⟨joinH G G2, join_f s s2, .cons (q.mono join_l) (q2.mono (join_r s s2)), by rw [subLs]; exact d.join s s2 d2⟩
end
end
end Pf
namespace Pf
open PySem PySem.Spec PyProof.Rows L2
section
variable {K : PySem.W.Frag} {F0 H0 F H : Hp} {σ : L2.St} {env : PEnv}
theorem DescB.imp {G : Hp} {L M : List (List P)} (d : DescB K G L) (h : ∀ y, y ∈ L → y ∈ M) : DescB K G M := fun b vs e => by
  obtain ⟨ys, hy, r⟩ := d b vs e
  exact ⟨ys, h _ hy, r⟩
end
end Pf
namespace Pf
open PySem PySem.Spec PyProof.Rows L2
section
variable {K : PySem.W.Frag} {F0 H0 F H : Hp} {σ : L2.St} {env : PEnv}
end
section
variable {K : PySem.W.Frag} {W : WX} {k : Rk} {ro : Bool} {L : List (List P)}
end
end Pf
namespace Pf
open PySem PySem.Spec PyProof.Rows L2
def kdP : P → Nat
  | .int _ => 0
  | .str _ => 1
  | .tup _ => 2
  | .lst _ => 3
  | _ => 9
mutual
def incP : P → P → Bool
  | .tup xs, .tup ys => incPs xs ys
  | x, y => decide (kdP x < 9) && decide (kdP y < 9) && decide (kdP x ≠ kdP y)
def incPs : List P → List P → Bool
  | [], [] => false
  | [], _ :: _ => true
  | _ :: _, [] => true
  | x :: xs, y :: ys => incP x y || incPs xs ys
end
theorem kdP_R {K : PySem.W.Frag} {F : Hp} {v : V} {x y : P} (hx : kdP x < 9) (hy : kdP y < 9) (hn : kdP x ≠ kdP y) (r : R K F v x) (r' : R K F v y) : False := by
  cases r <;> cases r' <;> first
    | exact absurd hx (Nat.lt_irrefl 9)
    | exact absurd hy (Nat.lt_irrefl 9)
    | exact absurd rfl hn
    | (rename_i h1 _ _ _ h2 _; rw [h1] at h2; cases h2; done)
    | (rename_i h1 _ _ _ _ h2; rw [h1] at h2; cases h2; done)
    | (simp_all; done)
    | fail
mutual
theorem incP_R {K : PySem.W.Frag} {F : Hp} : ∀ {v : V} {x y : P}, incP x y = true → R K F v x → R K F v y → False
  | v, x, y, h, r, r' => by
    by_cases ht : (∃ xs, x = .tup xs) ∧ ∃ ys, y = .tup ys
    · obtain ⟨⟨xs, rfl⟩, ys, rfl⟩ := ht
      rw [incP] at h
      cases r with
      | tup h1 r1 =>
        cases r' with
        | tup h2 r2 =>
          rw [h1] at h2
          cases h2
          exact incPs_R h r1 r2
    · rw [incP] at h
      · rw [Bool.and_eq_true, Bool.and_eq_true, decide_eq_true_iff, decide_eq_true_iff, decide_eq_true_iff] at h
        exact kdP_R h.1.1 h.1.2 h.2 r r'
      · intro xs ys e1 e2
        exact ht ⟨⟨xs, e1⟩, ys, e2⟩
theorem incPs_R {K : PySem.W.Frag} {F : Hp} : ∀ {vs : List V} {xs ys : List P}, incPs xs ys = true → RL K F vs xs → RL K F vs ys → False
  | _, _, _, h, .nil, .nil => by rw [incPs] at h; cases h
  | _, _, _, h, .cons a r, .cons b r' => by
    rw [incPs, Bool.or_eq_true] at h
    exact h.elim (fun h => incP_R h a b) fun h => incPs_R h r r'
end
class IncE {α β : Type} (enc : α → P) (enc' : β → P) : Prop where
  inc : ∀ a b, incP (enc a) (enc' b) = true
end Pf
namespace Pf
open PySem PySem.Spec PyProof.Rows L2
instance inc_is : IncE P.int P.str := ⟨fun _ _ => rfl⟩
instance inc_si : IncE P.str P.int := ⟨fun _ _ => rfl⟩
instance inc_ir : IncE P.int rowP := ⟨fun _ _ => rfl⟩
instance inc_ri : IncE rowP P.int := ⟨fun _ _ => rfl⟩
instance inc_sr : IncE P.str rowP := ⟨fun _ _ => rfl⟩
instance inc_rs : IncE rowP P.str := ⟨fun _ _ => rfl⟩
instance inc_dr : IncE ddP rowP := ⟨fun _ _ => rfl⟩
instance inc_rd : IncE rowP ddP := ⟨fun _ _ => rfl⟩
instance inc_lr : IncE lgP rowP := ⟨fun _ _ => rfl⟩
instance inc_rl : IncE rowP lgP := ⟨fun _ _ => rfl⟩
instance inc_dl : IncE ddP lgP := ⟨fun _ _ => rfl⟩
instance inc_ld : IncE lgP ddP := ⟨fun _ _ => rfl⟩
instance inc_di : IncE ddP P.int := ⟨fun _ _ => rfl⟩
instance inc_id : IncE P.int ddP := ⟨fun _ _ => rfl⟩
instance inc_iir : IncE iiP rowP := ⟨fun _ _ => rfl⟩
/-- items without lists -/
class NoLs {α : Type} (enc : α → P) : Prop where
  no : ∀ a, subL (enc a) = []
theorem subLs_map {α : Type} {enc : α → P} [h : NoLs enc] : ∀ {l : List α}, subLs (l.map enc) = []
  | [] => by rw [List.map_nil, subLs]
  | a :: l => by rw [List.map_cons, subLs, h.no, subLs_map]; rfl
theorem subL_int {n : Int} : subL (.int n) = [] := by first | rfl | (rw [subL] <;> (intro h; cases h)) | (simp [subL])
theorem subL_str {n : Str} : subL (.str n) = [] := by first | rfl | (rw [subL] <;> (intro h; cases h)) | (simp [subL])
theorem subL_bl {n : Bool} : subL (.bl n) = [] := by first | rfl | (rw [subL] <;> (intro h; cases h)) | (simp [subL])
theorem subL_tup {xs : List P} : subL (.tup xs) = subLs xs := by rw [subL]
theorem subLs_nil : subLs [] = [] := by rw [subLs]
theorem subLs_cons {x : P} {xs : List P} : subLs (x :: xs) = subL x ++ subLs xs := by rw [subLs]
instance nol_i : NoLs P.int := ⟨fun _ => subL_int⟩
instance nol_s : NoLs P.str := ⟨fun _ => subL_str⟩
instance nol_b : NoLs P.bl := ⟨fun _ => subL_bl⟩
instance nol_tl : NoLs tl := ⟨fun _ => by rw [subL_tup, subLs_map]⟩
instance nol_r : NoLs rowP := ⟨fun _ => by rw [subL_tup, subLs_cons, subL_int, subLs_cons, subL_str, subLs_nil]; rfl⟩
instance nol_ii : NoLs iiP := ⟨fun _ => by rw [subL_tup, subLs_cons, subL_int, subLs_cons, subL_int, subLs_nil]; rfl⟩
instance nol_d : NoLs ddP := ⟨fun _ => by rw [subL_tup, subLs_cons, subL_int, subLs_cons, subL_tup, subLs_map, subLs_nil]; rfl⟩
section
variable {K : PySem.W.Frag} {H : Hp}
end
section
variable {Pg : Program} {w : World} {K : PySem.W.Frag} {mg : Str → Option Value} {base : Heap} {x qual : Str} {st : Stmt} {f : Addr} {fd : FuncData} {N ps : List Str} {kk : Nat} {ms : List Mo} {p : PSp} {ro : Bool} {b : List (List P) → WS}
end
section
variable {K : PySem.W.Frag} {W : WX} {k : Rk} {ro : Bool} {L : List (List P)}
end
end Pf
namespace Pf
open PySem PySem.Spec PyProof.Rows L2
section
variable {K : PySem.W.Frag} {W : WX} {k : Rk} {ro : Bool} {L : List (List P)}
end
end Pf

namespace Pf
open PySem PySem.Spec PyProof.Rows L2
end Pf

namespace Pf
open PySem PySem.Spec PyProof.Rows L2
section
variable {prog : Program} {w : World} {A : Around} {E : Value → Shared → Prop} {s : Shared}
end
section
variable {prog : Program} {w : World} {A : Around} {E : Value → Shared → Prop} {s : Shared}
end
section
variable {X : Cx}
end
end Pf
namespace Pf
open PySem PySem.Spec PyProof.Rows L2
section
variable {K : PySem.W.Frag} {W : WX} {ro : Bool}
end
end Pf
namespace Pf
open PySem PySem.Spec PyProof.Rows L2
section
variable {X : Cx} {o : Expr} {p pos apos mpos : Pos} {td : TE}
end
section
variable {K : PySem.W.Frag} {W : WX} {ro : Bool}
end
end Pf

namespace Pf
open PySem PySem.Spec PyProof.Rows L2
def takV (e m w : Int) : List Int → Int → List Int
  | [], _ => []
  | x :: r, g => if m ≤ g ∨ capU (-x) e m w = 0 then [] else x :: takV e m w r (g + capU (-x) e m w)
theorem takP_take {e m w : Int} : ∀ (l : List (Int × Int)) (g : Int), ∃ n : Nat, takP e m w l g = (l.take n).map Prod.snd ∧ takV e m w (l.map Prod.fst) g = (l.take n).map Prod.fst
  | [], g => ⟨0, rfl, rfl⟩
  | p :: r, g => by
    by_cases h : m ≤ g ∨ capU (-p.1) e m w = 0
    · refine ⟨0, ?_, ?_⟩
      · show (if _ then _ else _) = _
        rw [if_pos h]; rfl
      · show (if _ then _ else _) = _
        rw [if_pos h]; rfl
    · obtain ⟨n, h1, h2⟩ := takP_take (e := e) (m := m) (w := w) r (g + capU (-p.1) e m w)
      refine ⟨n + 1, ?_, ?_⟩
      · show (if _ then _ else _) = _
        rw [if_neg h, h1]; rfl
      · show (if _ then _ else _) = _
        rw [if_neg h, h2]; rfl
def ngL (rs : List (Int × Str)) (z : Str) : List Int := sortI ((lvZ rs z).map fun r => -r.1)
theorem fallP_ng {rs : List (Int × Str)} {z : Str} : (fallP rs z).map Prod.fst = ngL rs z := by
  refine sorted_one ?_ ?_ (sortI_pw _)
  · unfold fallP ngL
    refine ((sortII_perm _).map Prod.fst).trans (List.Perm.trans (List.Perm.of_eq ?_) (sortI_perm _).symm)
    unfold lvZ
    rw [← sheetsI_rows, List.map_map, List.map_map]
    rfl
  · unfold fallP
    rw [List.pairwise_map]
    refine (sortII_pw _).imp fun {p q} h => ?_
    unfold leII at h
    omega
theorem takI_ng {rs : List (Int × Str)} {e m w : Int} {z : Str} : (takI rs e m w z).map (fun k => -(gx rs k).1) = takV e m w (ngL rs z) 0 := by
  obtain ⟨n, h1, h2⟩ := takP_take (e := e) (m := m) (w := w) (fallP rs z) 0
  rw [← fallP_ng, h2]
  unfold takI
  rw [h1, List.map_map]
  refine List.map_congr_left fun p hp => ?_
  exact (fallP_mem (List.mem_of_mem_take hp)).2.symm
theorem takI_sub {rs : List (Int × Str)} {e m w : Int} {z : Str} {k : Int} (h : k ∈ takI rs e m w z) : k ∈ sheetsI rs z := by
  obtain ⟨n, h1, _⟩ := takP_take (e := e) (m := m) (w := w) (fallP rs z) 0
  unfold takI at h
  rw [h1] at h
  obtain ⟨p, hp, rfl⟩ := List.mem_map.mp h
  have hp := (sortII_perm _).mem_iff.mp (List.mem_of_mem_take hp)
  obtain ⟨k, hk, rfl⟩ := List.mem_map.mp hp
  exact hk
theorem sheetsI_nd {rs : List (Int × Str)} {z : Str} : (sheetsI rs z).Nodup := by
  rw [← sheetsI_rg]
  exact (rgI_pw.imp fun h => Int.ne_of_lt h).filter _
theorem takI_nd {rs : List (Int × Str)} {e m w : Int} {z : Str} : (takI rs e m w z).Nodup := by
  obtain ⟨n, h1, _⟩ := takP_take (e := e) (m := m) (w := w) (fallP rs z) 0
  unfold takI
  rw [h1]
  have h : ((fallP rs z).map Prod.snd).Nodup := by
    unfold fallP
    refine (((sortII_perm _).map Prod.snd).nodup_iff).mpr ?_
    rw [List.map_map]
    show ((sheetsI rs z).map fun k => k).Nodup
    rw [List.map_id']
    exact sheetsI_nd
  rw [List.map_take]
  exact h.sublist (List.take_sublist _ _)
def tkA (rs : List (Int × Str)) (e w : Int) (d : List (Str × Int)) : List Int := (d.map Prod.fst).flatMap fun z => takV e (dm d z) w (ngL rs z) 0
theorem aside_nd {rs : List (Int × Str)} {e w : Int} {d : List (Str × Int)} (hd : (d.map Prod.fst).Nodup) : (asideI rs e w d).Nodup := by
  unfold asideI
  refine ((sortI_perm _).nodup_iff).mpr ?_
  refine List.pairwise_flatMap.mpr ⟨fun z _ => takI_nd, hd.imp fun {a b} hab x hx y hy e => hab ?_⟩
  subst e
  obtain ⟨j, r, e1, e2, e3⟩ := sheetsI_at (takI_sub hx)
  obtain ⟨j', r', e1', e2', e3'⟩ := sheetsI_at (takI_sub hy)
  have : j = j' := by omega
  subst this
  rw [e2] at e2'
  cases e2'
  rw [← e3, ← e3']
theorem aside_rg {rs : List (Int × Str)} {e w : Int} {d : List (Str × Int)} {k : Int} (h : k ∈ asideI rs e w d) : k ∈ rgI 0 rs.length := by
  obtain ⟨z, _, hz⟩ := List.mem_flatMap.mp ((sortI_perm _).mem_iff.mp h)
  obtain ⟨j, r, rfl, e2, _⟩ := sheetsI_at (takI_sub hz)
  have := (List.getElem?_eq_some_iff.mp e2).1
  exact rgI_mem.mpr ⟨by omega, by omega⟩
theorem len_split {α : Type} (p q : α → Bool) (l : List α) : ((l.filter fun a => !p a && q a).length : Int) = (l.filter q).length - (l.filter fun a => p a && q a).length := by
  induction l with
  | nil => rfl
  | cons a l ih =>
    rw [List.filter_cons, List.filter_cons, List.filter_cons]
    cases p a <;> cases q a <;> simp <;> omega
/-- how many spare sheets are no sharper than h -/
theorem spare_cnt {rs : List (Int × Str)} {e w : Int} {d : List (Str × Int)} (hd : (d.map Prod.fst).Nodup) (h : Int) :
    cntM (spareL (rs.map Prod.fst) (asideI rs e w d)) h = cntM (rs.map Prod.fst) h - ((tkA rs e w d).filter fun x => decide (-x ≤ h)).length := by
  have h1 := cnt_two (rs := rs) (as := asideI rs e w d) (h := h)
  have h2 := cnt_two (rs := rs) (as := []) (h := h)
  rw [spareL_nil] at h2
  rw [← h1, ← h2]
  have h3 : ((rgI 0 rs.length).filter fun k => decide (k ∈ asideI rs e w d)).Perm (asideI rs e w d) :=
    (List.perm_ext_iff_of_nodup ((rgI_pw.imp fun h => Int.ne_of_lt h).filter _) (aside_nd hd)).mpr fun k =>
      ⟨fun hk => of_decide_eq_true (List.mem_filter.mp hk).2, fun hk => List.mem_filter.mpr ⟨aside_rg hk, decide_eq_true hk⟩⟩
  have h4 : ((rgI 0 rs.length).filter fun k => decide (k ∈ asideI rs e w d) && decide ((gx rs k).1 ≤ h)).length = ((tkA rs e w d).filter fun x => decide (-x ≤ h)).length := by
    have e1 : ((rgI 0 rs.length).filter fun k => decide (k ∈ asideI rs e w d) && decide ((gx rs k).1 ≤ h)) = ((rgI 0 rs.length).filter fun k => decide (k ∈ asideI rs e w d)).filter fun k => decide ((gx rs k).1 ≤ h) := by
      rw [List.filter_filter]
      exact List.filter_congr fun k _ => Bool.and_comm _ _
    rw [e1, (h3.filter _).length_eq]
    have e2 : (asideI rs e w d).Perm ((d.map Prod.fst).flatMap fun z => takI rs e (dm d z) w z) := sortI_perm _
    rw [(e2.filter _).length_eq]
    have e3 : ((d.map Prod.fst).flatMap fun z => takI rs e (dm d z) w z).map (fun k => -(gx rs k).1) = tkA rs e w d := by
      unfold tkA
      rw [List.map_flatMap]
      exact congrArg (fun f => (d.map Prod.fst).flatMap f) (funext fun z => takI_ng)
    rw [← e3, List.filter_map, List.length_map]
    refine congrArg _ (List.filter_congr fun k _ => ?_)
    show decide _ = decide (- -(gx rs k).1 ≤ h)
    rw [Int.neg_neg]
  have h5 := len_split (fun k => decide (k ∈ asideI rs e w d)) (fun k => decide ((gx rs k).1 ≤ h)) (rgI 0 rs.length)
  rw [h4] at h5
  have e5 : ((rgI 0 rs.length).filter fun k => decide (k ∉ asideI rs e w d ∧ (gx rs k).1 ≤ h)) = (rgI 0 rs.length).filter fun k => !decide (k ∈ asideI rs e w d) && decide ((gx rs k).1 ≤ h) :=
    List.filter_congr fun k _ => by rw [Bool.decide_and, decide_not]
  have e6 : ((rgI 0 rs.length).filter fun k => decide (k ∉ ([] : List Int) ∧ (gx rs k).1 ≤ h)) = (rgI 0 rs.length).filter fun k => decide ((gx rs k).1 ≤ h) :=
    List.filter_congr fun k _ => by simp
  rw [e5, e6, h5]
end Pf

namespace Pf
open PySem PySem.Spec PyProof.Rows L2 HotX L2H
section
variable {prog : Program} {w : World} {A : Around} {E : Value → Shared → Prop} {s : Shared}
theorem list_end_hot {it l x1 : Addr} {i : Nat} {items : Array Value} {Q : Option Value → Shared → Prop} (hot : HotAt A x1 s.heap) (hne : x1 ≠ it)
    (hit : s.heap.IsListIter it l i) (hl : s.heap.IsList l items) (hx : items[i]? = none)
    (hQ : ∀ h', (∀ b o, b ≠ it → s.heap.get? b = some o → h'.get? b = some o) → Q none { s with heap := h' }) : wpAny (model prog w) A (pyNext (.ref it)) Q E s := by
  obtain ⟨o, ho, hc, hd⟩ := id hit
  obtain ⟨ol, hol, _, nl, hdl⟩ := hl
  obtain ⟨hh, o1, vs1, h1, d1, c1⟩ := hot
  unfold pyNext
  refine wpAny_bind (wpAny_attempt (wpAny_callSpecial?_slot (name := Str.ofString "__next__") hit.typeIs slot_listiter_next
    (wpAny_call_entry slot_listiter_next hit.typeIs entry_listiter_next ?_ (args_listiter_next _))))
  show wpAny _ _ (field (.ref it) 0 >>= _) _ _ s
  refine wpAny_bind (wpAny_field ho hd (x := .ref l) rfl ?_)
  show wpAny _ _ (if (Value.ref l == Value.none) = true then _ else _) _ _ s
  rw [if_neg (show ¬ ((Value.ref l == Value.none) = true) from Bool.false_ne_true)]
  show wpAny _ _ (field (.ref it) 1 >>= _) _ _ s
  refine wpAny_bind (wpAny_field ho hd (x := .int i 0) rfl ?_)
  show wpAny _ _ (seqItems? (.ref l) >>= _) _ _ s
  refine wpAny_bind (wpAny_seqItems hol hdl ?_)
  simp only [Int.toNat_natCast, hx]
  refine wpAny_bind (wpAny_rule (wpAny_bind (wpAny_setField ho hd (by simp) ?_)))
  have k1 : ∀ (f : Obj → Obj) b u, b ≠ it → s.heap.get? b = some u → (s.heap.update it f).get? b = some u := fun f b u hb e => (Heap.get?_update_other _ _ (Ne.symm hb)).trans e
  show wpAny _ _ (newExc (.type "StopIteration") [] >>= _) _ _ _
  refine wpAny_bind ?_
  simp only [newExc, newTuple]
  refine wpAny_bind (wpAny_newObj_type ?_ (by size_fits))
  refine wpAny_bind (m := firstArgMember _ _) (wpAny_of_eq (a := Value.none) (by first | rfl | (simp only [firstArgMember]; rfl)) ?_)
  refine wpAny_newObj_type ?_ (by size_fits)
  have hx1 := k1 (Obj.mapFields (·.setIfInBounds 0 .none)) x1 o1 hne h1
  refine raiseNew_hot ⟨hh, o1, vs1, Heap.get?_push_of_some _ (Heap.get?_push_of_some _ hx1), d1, c1⟩ (Nat.ne_of_lt (Heap.lt_size (Heap.get?_push_of_some _ hx1))) (Heap.get?_push_size _ rfl) rfl (by first | (simp; done) | (simp; omega) | (simp only [Array.size_append]; simp; omega)) ?_
  refine wpAny_bind (wpAny_isInstance (T := "StopIteration") (b := true) ⟨_, Heap.get?_update_self _ (Heap.get?_push_size _ rfl) rfl, rfl⟩ isSubtype_stop ?_)
  refine wpAny_pure (hQ _ fun b u hb e => ?_)
  have e1 := k1 (Obj.mapFields (·.setIfInBounds 0 .none)) b u hb e
  rw [Heap.get?_update_other _ _ (Nat.ne_of_gt (Heap.lt_size (Heap.get?_push_of_some _ e1)))]
  exact Heap.get?_push_of_some _ (Heap.get?_push_of_some _ e1)
end
end Pf
namespace Pf
open PySem PySem.Spec PyProof.Rows L2 HotX L2H
/-- a walk that runs while p's object is handled; p is among the pins -/
structure TurnP (P : Program) (w : World) (K : PySem.W.Frag) (tg : Expr) (J : It) (fp : List Addr) (it : Addr) (tn : Nat → Heap → Prop) : Prop where
  mem : it ∈ fp
  obj : ∀ i h, tn i h → ∀ b ∈ fp, ∃ o, h.get? b = some o ∧ ∀ v, o.data ≠ .cell v
  keep : ∀ i h h', tn i h → (∀ b ∈ fp, ∀ o, h.get? b = some o → h'.get? b = some o) → tn i h'
  item : ∀ (X : Cx) (p : Addr × Obj), X.prog = P → X.w = w → X.K = K → Hot1 X.A p → ∀ (i : Nat) (pins : List (Addr × Obj)) (s : Shared) (σ : L2.St) (H : Hp) (E : Value → Shared → Prop), p ∈ X.pn ++ pins → Inv X pins σ H s → (∀ b ∈ fp, FpOk X pins H b) → tn i s.heap → J.go i H →
    wpAny (model P w) X.A (pyNext (.ref it)) (fun r s1 => ∃ u : Value, r = some u ∧ wpAny (model P w) X.A (letOwnedTupleGo tg (.ref it) u) (fun _ s2 => ∃ (x : V) (H' : Hp), Inv X pins σ H' s2 ∧ RelV x u ∧ J.yld i H x H' ∧ tn (i + 1) s2.heap ∧ ∀ b ∈ fp, H' b = none) E s1) E s
  done : ∀ (X : Cx) (p : Addr × Obj), X.prog = P → X.w = w → X.K = K → Hot1 X.A p → ∀ (i : Nat) (pins : List (Addr × Obj)) (s : Shared) (σ : L2.St) (H : Hp) (E : Value → Shared → Prop), p ∈ X.pn ++ pins → Inv X pins σ H s → (∀ b ∈ fp, FpOk X pins H b) → tn i s.heap → J.stop i H →
    wpAny (model P w) X.A (pyNext (.ref it)) (fun r s1 => r = none ∧ Inv X pins σ H s1) E s
  self : ∀ (A : Around) (i : Nat) (s : Shared) (Q : Value → Shared → Prop) (E : Value → Shared → Prop), tn i s.heap → Q (.ref it) s → wpAny (model P w) A (pyIter (.ref it)) Q E s
theorem turnP_list {P : Program} {w : World} {K : PySem.W.Frag} {tg : Expr} (a it : Addr) : TurnP P w K tg (Itl K a) [it] it (fun i h => h.IsListIter it a i) where
  mem := by simp
  obj := fun i h st b hb => by
    have e : b = it := by simpa using hb
    subst e
    obtain ⟨o, e, c, d⟩ := st
    exact ⟨o, e, fun v z => by rw [d] at z; cases z⟩
  keep := fun i h h' st k => st.at fun o e => k it (by simp) o e
  item := by
    intro X p hP hw hK hc i pins s σ H E hp I hf st hg
    subst hP hw hK
    obtain ⟨xs, x, hq, hx⟩ := hg
    obtain ⟨its, rv, p', hz⟩ := I.list hq
    obtain ⟨u, hu, ru⟩ := rv.get hx
    obtain ⟨f0, f1, f2, f3, f4, f5⟩ := hf it (by simp)
    refine wpAny_pyNext_list_item st p'.isList (x := u) (by simpa using hu) fun h' st' sb => ?_
    have I1 : Inv X pins σ H { s with heap := h' } := I.turned (t' := s.toks) (fun b o hb e => (sb.2 b hb).trans e) f0 f1 f3 f4 f5
    obtain ⟨o, e, c, d⟩ := id st'
    exact ⟨u, rfl, go_of (s := { s with heap := h' }) e c d (by decide) ⟨x, H, I1, ru, ⟨rfl, fun ys hy => by rw [I.list_inj hy hq]; exact hx⟩, st', fun b hb => (hf b hb).1⟩⟩
  done := by
    intro X p hP hw hK hc i pins s σ H E hp I hf st hg
    subst hP hw hK
    obtain ⟨xs, hq, hx⟩ := hg
    obtain ⟨its, rv, p', hz⟩ := I.list hq
    obtain ⟨f0, f1, f2, f3, f4, f5⟩ := hf it (by simp)
    have hl := rv.length
    obtain ⟨hh, v1, e1, c1⟩ := hc
    exact list_end_hot ⟨hh, p.2, v1, (I.pin p hp).1, e1, c1⟩ (f5 p hp) st p'.isList (by simp; omega) fun h' eb => ⟨rfl, I.turned (t' := s.toks) (fun b o hb e => eb b o hb e) f0 f1 f3 f4 f5⟩
  self := fun _ _ _ _ _ st h => wpAny_pyIter_listiter st h
end Pf
namespace Pf
open PySem PySem.Spec PyProof.Rows L2 HotX L2H
def PIEP (X : Cx) (pins : List (Addr × Obj)) (σ : L2.St) (tg : Expr) (R : It → Hp → Prop) (itv : Value) (s2 : Shared) : Prop :=
  ∃ (it : Addr) (fp : List Addr) (tn : Nat → Heap → Prop) (J : It) (H' : Hp), itv = .ref it ∧ Inv X pins σ H' s2 ∧ TurnP X.prog X.w X.K tg J fp it tn ∧ tn 0 s2.heap ∧ (∀ b ∈ fp, FpOk X pins H' b) ∧ R J H'
structure PIP (X : Cx) (tg iter : Expr) (wi : TI) : Prop where
  run : ∀ (pins : List (Addr × Obj)) (s : Shared) (σ : L2.St) (H : Hp) (R : It → Hp → Prop), Inv X pins σ H s → wi σ H R →
    wpAny (model X.prog X.w) X.A (eval iter X.env) (fun v s1 => wpAny (model X.prog X.w) X.A (pyIter v) (PIEP X pins σ tg R) X.xe s1) X.xe s
section
variable {X : Cx} {tg : Expr}
theorem pi_listP {l : Expr} {tl : TE} (hl : PE X l tl) : PIP X tg l (iList X.K tl) := by
  refine ⟨fun pins s σ H R I h => ?_⟩
  refine thn (hl.run pins s σ H _ I h) fun v s1 ⟨x, H1, I1, r1, q1⟩ => ?_
  obtain ⟨a, e, ⟨xs, hq⟩, q⟩ := q1
  subst e
  cases r1
  obtain ⟨its, rv, p, hz⟩ := I1.list hq
  refine wpAny_pyIter_list p.isList ?_
  refine ⟨s1.heap.objs.size, [s1.heap.objs.size], _, _, H1, rfl, I1.kept (t' := s1.toks) fun b o e => Heap.get?_push_of_some _ e, turnP_list a _, ⟨_, Heap.get?_push_size _ rfl, rfl, rfl⟩, fun b hb => ?_, q⟩
  have e : b = s1.heap.objs.size := by simpa using hb
  subst e
  exact I1.fpOk (Nat.le_refl _) (I1.hok.fresh (Nat.le_refl _))
/-- a list comprehension where p's object is handled -/
theorem lc_coreP {pins : List (Addr × Obj)} {s : Shared} {σ : L2.St} {H : Hp} {Q : VK} {elt iter : Expr} {ifs : List Expr} {scope : Scope} {own : List (Str × Nat)} {pos pos' : Pos} {wi : TI} {g : TG} {tt : TT} {te : TE} {use : Option (Value → Sem Unit)} {Qf : Value → Shared → Prop} {p : Addr × Obj}
    (hot : Hot1 X.A p) (hp : p ∈ X.pn) (hN : X.N.Nodup) (I : Inv X pins σ H s) (hi : PIP X tg iter wi) (ok : BlkOk X.N X.env.scope scope own)
    (hg : ∀ (s : Shared) (H : Hp) (C : Addr) (cl : List (Str × Addr)) (fp : List Addr), PG (X.blk s H scope (compEnvC scope cl C X.env) fp) tg g) (ht : ∀ (s : Shared) (H : Hp) (C : Addr) (cl : List (Str × Addr)) (fp : List Addr), PTs (X.blk s H scope (compEnvC scope cl C X.env) fp) ifs tt)
    (he : ∀ (s : Shared) (H : Hp) (C : Addr) (cl : List (Str × Addr)) (fp : List Addr), PE (X.blk s H scope (compEnvC scope cl C X.env) fp) elt te) (hs : ∀ x, foldedSetIterable iter X.env x = pure x)
    (h : tLc wi g tt te (own.map (·.2)) σ H Q)
    (hRR : ∀ D C s' m H', Inv X pins σ H' s' → Q (.ref D) H' → s'.heap.Ns C m → FpOk X pins H' C → compPost (model X.prog X.w) X.A X.xe use Qf (.ref D) C (.ok .next) s') :
    wpAny (model X.prog X.w) X.A (comprehension (.ListComp elt [⟨tg, iter, ifs, 0⟩] scope pos) scope X.env pos' (newList []) false (eval iter X.env) use) Qf X.xe s := by
  have hp2 : p ∈ X.pn ++ pins := List.mem_append_left _ hp
  have hfree : ∀ y ∈ scope.names, y.2 = .free → ∃ c, X.env.cells.lookup y.1 = some c := fun y hy e =>
    (ok.free y hy e).elim (fun k => I.ok.has _ (.inl k)) fun k => I.ok.has _ (.inr k)
  refine wpAny_comprehension_free (use := use) rfl hs (closure_ok hfree) ok.kind (fun y hy e => by rw [ok.uniq y hy, e])
    (thn (hi.run pins s σ H _ I h) fun xv s1 hx => thn hx fun itv s2 h2 => ?_)
  obtain ⟨it, fp, tn, J, H2, e, I2, T, st2, f2, q⟩ := h2
  subst e
  refine wpAny_newObj_type (newEnv_comp ?_) (by show 0 ≤ sizeLine; decide)
  have hDn : H2 s2.heap.objs.size = none := I2.hok.fresh (Nat.le_refl _)
  obtain ⟨W, ⟨m0, w0⟩, turn⟩ := q s2.heap.objs.size hDn
  have sz : ∀ b ∈ fp, b < s2.heap.objs.size := fun b hb => by
    obtain ⟨o, e, _⟩ := T.obj _ _ st2 b hb
    exact Heap.lt_size e
  have npf : ∀ b ∈ fp, p.1 ≠ b := fun b hb => (f2 b hb).2.2.2.2.2 p hp2
  generalize hD : s2.heap.objs.size = D at hDn w0 turn sz
  generalize hs3 : ({ s2 with heap := s2.heap.push { cls := .type "list", data := .seq ([] : List Value).toArray } } : Shared) = s3
  have h3 : s3.heap = s2.heap.push { cls := .type "list", data := .seq ([] : List Value).toArray } := by rw [← hs3]
  have I3 : Inv X pins σ (upd H2 D (.lst [])) s3 := by
    rw [← hs3]
    refine I2.laid (t' := s2.toks) (fun b o e => Heap.get?_push_of_some _ e) (Nat.le_of_eq hD) ⟨Nat.zero_le _, [], 0, .nil, ?_⟩
    rw [← hD]
    exact Heap.get?_push_size _ rfl
  have f3 : ∀ b ∈ fp, FpOk X pins (upd H2 D (.lst [])) b ∧ b < s3.heap.objs.size := fun b hb => by
    have hlt := sz b hb
    refine ⟨⟨?_, (f2 b hb).2⟩, by rw [h3, Heap.size_push, hD]; exact Nat.lt_succ_of_lt hlt⟩
    rw [upd_ne (Nat.ne_of_lt hlt)]
    exact (f2 b hb).1
  have st3 : tn 0 s3.heap := T.keep _ _ _ st2 fun b _ o e => by rw [h3]; exact Heap.get?_push_of_some _ e
  have I4 := block_start I3 ok hN f3
  have pinP := I3.pin p hp2
  have pg := hg s3 (upd H2 D (.lst [])) s3.heap.objs.size (cellsFrom (s3.heap.objs.size + 1) scope.names (cloFrom X.env.cells scope.names [])) fp
  have pt := ht s3 (upd H2 D (.lst [])) s3.heap.objs.size (cellsFrom (s3.heap.objs.size + 1) scope.names (cloFrom X.env.cells scope.names [])) fp
  have pe := he s3 (upd H2 D (.lst [])) s3.heap.objs.size (cellsFrom (s3.heap.objs.size + 1) scope.names (cloFrom X.env.cells scope.names [])) fp
  show codeAny _ _ (.compStart (.ListComp elt [⟨tg, iter, ifs, 0⟩] scope pos) 0 (.ref it) (.ref D) (compEnvC scope (cellsFrom (s3.heap.objs.size + 1) scope.names (cloFrom X.env.cells scope.names [])) s3.heap.objs.size X.env)) (compPost (model X.prog X.w) X.A X.xe use Qf (.ref D) s3.heap.objs.size) { s3 with heap := pushCells (s3.heap.push { cls := .type "dict", data := .dict #[] }) scope.names }
  generalize hce : compEnvC scope (cellsFrom (s3.heap.objs.size + 1) scope.names (cloFrom X.env.cells scope.names [])) s3.heap.objs.size X.env = ce at I4 pg pt pe ⊢
  have cL : ce.locals = s3.heap.objs.size := by subst hce; rfl
  generalize hH3 : upd H2 D (.lst []) = H3 at I3 I4 pg pt pe w0 f3 pinP
  generalize hs4 : ({ s3 with heap := pushCells (s3.heap.push { cls := .type "dict", data := .dict #[] }) scope.names } : Shared) = s4 at I4 ⊢
  have k4 : ∀ b o, s3.heap.get? b = some o → s4.heap.get? b = some o := fun b o e => by rw [← hs4]; exact pushCells_keeps _ _ _ _ (Heap.get?_push_of_some _ e)
  have st4 : tn 0 s4.heap := T.keep _ _ _ st3 fun b _ o e => k4 b o e
  have I5 : Inv (X.blk s3 H3 scope ce fp) [p] (wipe σ (own.map (·.2))) H3 s4 := I4.pins_of fun q hq => by
    obtain rfl : q = p := by simpa using hq
    refine ⟨k4 _ _ pinP.1, pinP.2.1, ?_, fun hm => ?_, pinP.2.2.2.2⟩
    · show q.1 ≠ ce.locals
      rw [cL]
      exact Nat.ne_of_lt (Heap.lt_size pinP.1)
    · have hm : q.1 ∈ frs X.stack := hm
      exact (List.mem_cons.mp (I3.stkSub q.1 hm)).elim pinP.2.2.1 pinP.2.2.2.1
  have stat : ∀ {σ' : L2.St} {H' : Hp} {s' : Shared}, Inv (X.blk s3 H3 scope ce fp) [p] σ' H' s' → (∀ b ∈ fp, H' b = none) → ∀ b ∈ fp, FpOk (X.blk s3 H3 scope ce fp) [p] H' b := fun {σ' H' s'} I' hn b hb =>
    ⟨hn b hb, (I'.ok.exf b hb).1, I'.ok.exfs b hb, .inl hb, fun x c e => (I'.ok.exf b hb).2 x c e, fun q hq => by
      obtain rfl : q = p := by simpa using (show q ∈ ([] : List (Addr × Obj)) ++ [p] from hq)
      exact npf b hb⟩
  have hpb : p ∈ (X.blk s3 H3 scope ce fp).pn ++ [p] := List.mem_append_right _ List.mem_cons_self
  have loop : codeAny (model X.prog X.w) X.A (.compLoop (.ListComp elt [⟨tg, iter, ifs, 0⟩] scope pos) 0 (.ref it) (.ref D) ce) (compPost (model X.prog X.w) X.A X.xe use Qf (.ref D) s3.heap.objs.size) s4 := by
    refine compLoop_any (fun n s' => ∃ i H', Inv (X.blk s3 H3 scope ce fp) [p] (wipe σ (own.map (·.2))) H' s' ∧ tn i s'.heap ∧ (∀ b ∈ fp, H' b = none) ∧ W i n H') ?_ m0 ⟨0, H3, I5, st4, fun b hb => (f3 b hb).1.1, w0⟩
    rintro n s5 ⟨i, H5, J5, st5, n5, w5⟩
    rcases turn i n H5 w5 with ⟨stop, qq⟩ | ⟨go, Nx, hNx, step⟩
    · refine thnF (T.done (X.blk s3 H3 scope ce fp) p rfl rfl rfl hot i [p] s5 _ H5 (fun _ _ => False) hpb J5 (stat J5 n5) st5 stop) fun r s6 ⟨hr, J6⟩ => ?_
      subst hr
      have J7 : Inv X pins σ H5 s6 := I3.call' (ch := fp) J6.os J6.base J6.hok J6.bare fun b hb => ⟨(f3 b hb).1.2.2.2.1, (f3 b hb).1.2.1, (f3 b hb).1.2.2.2.2.1, (f3 b hb).1.2.2.2.2.2⟩
      have nC : H5 s3.heap.objs.size = none := by
        have z : H5 ce.locals = none := J6.free
        rwa [cL] at z
      obtain ⟨m, hn, _⟩ := J6.loc
      have hn : s6.heap.Ns ce.locals m := hn
      rw [cL] at hn
      exact hRR D s3.heap.objs.size s6 m H5 J7 qq hn (I3.fpOk (Nat.le_refl _) nC)
    · refine thnF (T.item (X.blk s3 H3 scope ce fp) p rfl rfl rfl hot i [p] s5 _ H5 (fun _ _ => False) hpb J5 (stat J5 n5) st5 go) fun r s6 ⟨u, hr, h6⟩ => ?_
      subst hr
      refine thnF h6 fun _ s7 ⟨x, H7, J7, r7, y7, st7, n7⟩ => ?_
      have J7' := J7.pinned (stat J7 n7) (T.obj _ _ st7)
      refine thnF (pg.run _ s7 _ H7 x u _ J7' r7 (step x H7 y7)) fun _ s8 ⟨σ8, H8, J8, hw8, q8⟩ => ?_
      refine thnF (pt.run _ s8 σ8 H8 _ J8 q8) fun b s9 ⟨H9, J9, q9⟩ => ?_
      have fin : ∀ {s' : Shared} {H' : Hp}, Inv (X.blk s3 H3 scope ce fp) ([p] ++ pinsAt fp s7.heap) σ8 H' s' → Nx H' → ∃ m, m < n ∧ ∃ i H', Inv (X.blk s3 H3 scope ce fp) [p] (wipe σ (own.map (·.2))) H' s' ∧ tn i s'.heap ∧ (∀ b ∈ fp, H' b = none) ∧ W i m H' := fun {s' H'} J' nx => by
        obtain ⟨m', hm, w'⟩ := hNx H' nx
        have pin' : ∀ b ∈ fp, ∀ o, s7.heap.get? b = some o → s'.heap.get? b = some o ∧ H' b = none := fun b hb o e =>
          let z := J'.pin (b, o) (List.mem_append_right _ (List.mem_append_right _ (mem_pinsAt hb e)))
          ⟨z.1, z.2.1⟩
        have hl : (wipe σ (own.map (·.2))).length = σ8.length := by rw [← hw8, wipe_length]
        refine ⟨m', hm, i + 1, H', (J'.unpinned (pins := [p])).weak hl (fun j v e => ?_), T.keep _ _ _ st7 fun b hb o e => (pin' b hb o e).1, fun b hb => ?_, w'⟩
        · rw [← hw8] at e
          exact (wipe_some e).1
        · obtain ⟨o, e, _⟩ := T.obj _ _ st7 b hb
          exact (pin' b hb o e).2
      cases b with
      | false =>
        simp only [Bool.false_eq_true, if_false] at q9 ⊢
        exact fin J9 q9
      | true =>
        simp only [if_true] at q9 ⊢
        refine thnF (pe.run _ s9 σ8 H9 _ J9 q9) fun z s10 ⟨yv, H10, J10, r10, acc, hD10, hz10, nx⟩ => ?_
        exact app_ok (X := X.blk s3 H3 scope ce fp) J10 hD10 hz10 r10 fun s11 J11 => fin J11 nx
  exact codeAny_compStart_list loop (T.self X.A 0 _ _ _ st4 loop)
/-- as a value -/
theorem pe_lcP {elt iter : Expr} {ifs : List Expr} {scope : Scope} {own : List (Str × Nat)} {pos : Pos} {wi : TI} {g : TG} {tt : TT} {te : TE} (hc : HotC X) (hN : X.N.Nodup) (hi : PIP X tg iter wi) (ok : BlkOk X.N X.env.scope scope own)
    (hg : ∀ (s : Shared) (H : Hp) (C : Addr) (cl : List (Str × Addr)) (fp : List Addr), PG (X.blk s H scope (compEnvC scope cl C X.env) fp) tg g) (ht : ∀ (s : Shared) (H : Hp) (C : Addr) (cl : List (Str × Addr)) (fp : List Addr), PTs (X.blk s H scope (compEnvC scope cl C X.env) fp) ifs tt)
    (he : ∀ (s : Shared) (H : Hp) (C : Addr) (cl : List (Str × Addr)) (fp : List Addr), PE (X.blk s H scope (compEnvC scope cl C X.env) fp) elt te) (hs : ∀ x, foldedSetIterable iter X.env x = pure x := by intro _; rfl) :
    PE X (.ListComp elt [⟨tg, iter, ifs, 0⟩] scope pos) (tLc wi g tt te (own.map (·.2))) := by
  refine ⟨fun pins s σ H Q I h => ?_⟩
  obtain ⟨p, hot, hp⟩ := hc
  rw [eval_ListComp]
  refine lc_coreP hot hp hN I hi ok hg ht he hs h fun D C s' m H' I' q hn f => ⟨m, hn, fun h'' sb => ?_⟩
  obtain ⟨f0, f1, f2, f3, f4, f5⟩ := f
  exact ⟨.ref D, H', I'.turned (t' := s'.toks) (fun b o hb e => (sb.2 b hb).trans e) f0 f1 f3 f4 f5, rfl, q⟩
end
end Pf
namespace Pf
open PySem PySem.Spec PyProof.Rows L2 HotX L2H
section
variable {X : Cx} {e : Expr} {es : List Expr} {ta : TA} {p pos : Pos}
theorem mk_endN {pins : List (Addr × Obj)} {σ : L2.St} {H1 H2 : Hp} {Q : XK} {hp hp2 h2 : Heap} {g1 g2 : Array GenState} {d1 d2 : Drawn} {t1 t2 : Nat} {os1 os2 : OsState} {a C d : Addr} {fs : List (Str × V)} (T : Raises X (.ref C)) (I1 : Inv X pins σ H1 ⟨hp, g1, d1, t1, os1⟩)
    (ha : hp.objs.size ≤ a) (k : ∀ b o, hp.get? b = some o → hp2.get? b = some o) (un : Un (frs X.stack) [] (upd H1 a (exo a C none)) H2 hp2 h2) (hok : HOk X.prog X.w H2 h2) (ho : os2 = os1) (hb : AllBare g2)
    (ea : H2 a = some (exo a C (some d))) (ed : H2 d = some (exd d fs)) (hd1 : H1 d = none) (q : Q (.ref C) (some d) (upd (del H2 a) d (.xd fs))) : L2N.MkP X pins σ Q (.ref a) ⟨h2, g2, d2, t2, os2⟩ := by
  obtain ⟨t0, G, J, kG, ge, hoe, na⟩ := mk_end0 (d2 := d2) (t2 := t2) I1 ha k un hok ho hb ea ed hd1
  exact ⟨a, _, _, ⟨G, g2, d2, t2, os2⟩, _, .ref C, some d, rfl, J, kG, ge, hoe, ⟨rfl, rfl, fun vs e => by cases e; rfl⟩, rfl, rfl, na, rfl, hb, T, q⟩
theorem pmk_oexN {CX : CXT} {x : Str} {C fI : Addr} {k : Nat} {fd : FuncData} {ps : List Str} {sp : Sp} {ds : List Value} {dvs : List V} (T : OexC X.K C) (iC : PySem.W.findIn X.K (.ref C) "__init__" = some (some (.ref fI))) (tI : PySem.W.typeIn X.K (.ref fI) = some (.type "function"))
    (F1 : FnOk X.prog X.w X.K X.mg X.base CX k fI fd ps sp) (hr : Room (k + 1) X.A) (hb : Binds X.K fd ps ds) (hd : Vals dvs ds) (hx : Passes CX X (fun _ _ _ => False)) (hg : Gl X x) (hm : X.mg x = some (.ref C)) (ha : PA X (e :: es) ta)
    (hdb : (x == ("__debug__" : Str)) = false := by decide) (he : starEach (e :: es) X.env = (false, eval e X.env) :: starEach es X.env := by rfl) (hpl : (backTo pos (starEach es X.env)).any (·.1) = false := by rfl) :
    L2N.PMk X (.Call (.Name x p) (e :: es) [] pos) (tMkO C sp dvs ta) := by
  intro pins s σ H Q I h
  obtain ⟨nm, q, N, bs, bm, sn, sub, ab, col, dd, k0, k1, k2, k3, k5, hC, hbm⟩ := T.cls
  refine wpAny_Call_Name_kw (ld_glob I hg hm ?_ hdb)
  refine PySem.W.callWith_K (h₀ := X.base) I.ok.mod.kin T.kC (thn (ha.run pos pins s σ H _ I h) fun us s1 ⟨vs, H1, I1, r1, hz, q1⟩ => ⟨I1.kIn, ?_⟩) he hpl
  show wpAny _ _ (call (.ref C) us) _ _ _
  obtain ⟨hp, g, dr, tk, os⟩ := s1
  have hsz : hp.objs.size ≤ hp.objs.size + 1 := Nat.le_succ _
  have hq := q1 (hp.objs.size + 1) (I1.hok.fresh hsz)
  have kk : ∀ b o, hp.get? b = some o → ((hp.push (PySem.W.kdv_tup us)).push (PySem.HandSPX.excO C hp.objs.size)).get? b = some o := fun b o e => Heap.get?_push_of_some _ (Heap.get?_push_of_some _ e)
  have hget : ((hp.push (PySem.W.kdv_tup us)).push (PySem.HandSPX.excO C hp.objs.size)).get? (hp.objs.size + 1) = some (PySem.HandSPX.excO C hp.objs.size) := by heap_get
  have I2 : Inv X pins σ (upd H1 (hp.objs.size + 1) (exo (hp.objs.size + 1) C none)) ⟨(hp.push (PySem.W.kdv_tup us)).push (PySem.HandSPX.excO C hp.objs.size), g, dr, tk, os⟩ := I1.laid (t' := tk) kk hsz (exo_ok hget)
  have r2 : Vals (V.ref (hp.objs.size + 1) :: (vs ++ dvs)) (Value.ref (hp.objs.size + 1) :: (us ++ ds)) := .cons rfl (r1.append hd)
  have hl : (Value.ref (hp.objs.size + 1) :: us ++ ds).length = ps.length := by
    have e := r2.length
    rw [F1.len _ _ _ _ hq] at e
    exact e.symm
  have hus : us.length ≤ sizeLine := by
    rw [← Paired.length r1, sizeLine_eq]
    omega
  refine wpAny_call (PySem.HandSPX.call_own F.excBase_ValueError (fun Y => PySem.HandSPX.refsVE_contains Y bm hbm) (I1.kIn _ _ hC) (PySem.W.looks_findIn I1.kIn iC) (fun self => PySem.W.bind_fn I1.kIn self tI) hus
    (codeAny_mono (F1.run _ X.stack _ _ ⟨Value.ref (hp.objs.size + 1) :: us, []⟩ (Value.ref (hp.objs.size + 1) :: (us ++ ds)) _ _ (fun _ _ _ => False) (hr.make C us []) (I2.env0.make C us []) (hb _ (Value.ref (hp.objs.size + 1) :: us) I2.kIn hl) r2 hq) fun r s' hq' => ?_))
  cases r with
  | error er => exact hx pins σ _ _ er s' I2 hq'
  | ok fl =>
    cases fl with
    | ret u =>
      obtain ⟨v, H2, os2, bare2, un2, hok2, rv, ev, d, fs, ea, ed, hd1, q2⟩ := hq'
      subst ev
      obtain ⟨h2, g2, d2, t2, os'⟩ := s'
      exact ⟨rv, mk_endN (raises_own T.exC T.tyC) I1 hsz kk un2 hok2 os2 bare2 ea ed hd1 q2⟩
    | next => exact False.elim hq'
    | brk => exact False.elim hq'
    | cont => exact False.elim hq'
end
section
variable {X : Cx} {i : Nat} {n xn : Str} {c : Value} {np pos' pos2 : Pos} {b₀ : Stmt} {suite body : List Stmt} {tb : WX → List (Addr × Obj) → (Value → Shared → Prop) → TS} {ts : Addr → Obj → Value → Option Addr → List (Addr × Obj) → TS} {Wout : WX}
theorem ps_try_asN (hs : X.stack = X.env :: X.outer) (hf : X.env.frame = some X.env.locals) (hN : X.N.Nodup) (hi : X.N[i]? = some n) (hln : X.env.kindOf n = some .local) (hc : Names X xn c) (tk : L2N.Takes X Wout)
    (hb : ∀ (W : WX) (pn : List (Addr × Obj)) (xe : Value → Shared → Prop), L2N.Takes (X.tr pn xe) W → PassesOwn (model X.prog X.w) X.A X.env xe → PSs (X.tr pn xe) body (tb W pn xe))
    (hsu : ∀ (a : Addr) (oe : Obj) (cls : Value) (d : Option Addr) (pn : List (Addr × Obj)), L2N.Zn cls d oe → (∃ vs, oe.data = .fields vs) → PSs (X.suite a ((a, oe) :: pn)) (b₀ :: suite) (ts a oe cls d pn)) :
    PS X (.Try body [.ExceptHandler (some (.Name xn np)) (some n) (b₀ :: suite) pos'] [] [] pos2)
      (fun D σ H => ∀ pn xe, tb (wAs X.K c i (fun a cls d D σ H => ∀ oe pn, ts a oe cls d pn D σ H) Wout D) pn xe D σ H) :=
  L2N.ps_try_as (tb := fun W D σ H => ∀ pn xe, tb W pn xe D σ H) (ts := fun a cls d D σ H => ∀ oe pn, ts a oe cls d pn D σ H) hs hf hN hi hln hc tk
    (fun W pn xe tk' po => ⟨fun pins s σ H D I h => (hb W pn xe tk' po).run pins s σ H D I (h pn xe)⟩)
    (fun a oe cls d pn hz hf' => ⟨fun pins s σ H D I h => (hsu a oe cls d pn hz hf').run pins s σ H D I (h oe pn)⟩)
end
end Pf
namespace Pf
open PySem PySem.Spec PyProof.Rows L2 HotX L2H
/-- isinstance(e, c), e the caught error whose object is pinned -/
theorem call_isP {X : Cx} {p : Addr × Obj} {cls : Value} {d : Option Addr} (hp : p ∈ X.pn) (hz : Zc cls d p.2) (hf : ∃ vs, p.2.data = .fields vs) : CallR X (.builtin "isinstance") (rIsD X.K p.1 cls d) := by
  intro pins s σ H xs us Q I r h
  obtain ⟨D, dd, fs, c, cv, b, rfl, rfl, rfl, hd, C, hcv, e, q⟩ := h
  cases r with
  | cons rx rr =>
    cases rr with
    | cons rt rr =>
      cases rr
      cases rx
      have ec := hcv.eq rt
      subst ec
      obtain ⟨hget, _⟩ := I.pin p (List.mem_append.mpr (.inl hp))
      obtain ⟨vs, hv⟩ := hf
      have hx : ObjOk X.prog X.w H s.heap dd (.xd fs) := I.hok dd _ hd
      obtain ⟨mA, hns, _⟩ := hx
      obtain ⟨od, ho, _⟩ := lookIn_ns hns
      have J : PySem.W.InstAt s.heap p.1 p.2 D (some od) := ⟨hget, hz.1, by unfold PySem.W.notCls; rw [hv] <;> rfl, by rw [hz.2]; exact ho⟩
      exact PySem.W.kia_one (PySem.W.pf_kitD C.hg C.hk C.hs C.hd C.ha C.hn C.ht C.hm) I.kIn J e (fun z => nomatch z) fun tk => ⟨.bl b, H, I.kept (t' := tk) fun _ _ z => z, rfl, q⟩
/-- a def that is handed the caught error, called within the suite; C the error's class -/
structure FnWX (Pg : Program) (w : World) (K : PySem.W.Frag) (mg : Str → Option Value) (base : Heap) (kk : Nat) (f : Addr) (fd : FuncData) (ps : List Str) (C : Addr) (sp : Addr → Option Addr → Sp) : Prop where
  len : ∀ a d vs H Q E, sp a d vs H Q E → vs.length = ps.length
  run : ∀ (A : Around) (out : List Env) (s : Shared) (H : Hp) (ar : Args) (us : List Value) (vs : List V) (Q : VK) (E : XK) (p : Addr × Obj) (d : Option Addr), L2H.RoomH kk A → L2H.Hot1 A p → L2H.PinOk out H s p → Zc (.ref C) d p.2 → (∃ vs, p.2.data = .fields vs) → Env0 Pg w K mg base A out s H →
    BindsTo s fd ar (ps.zip us) → Vals vs us → sp p.1 d vs H Q E → codeAny (model Pg w) A (.call (.ref f) ar) (CR CX0 out Pg w H s Q E) s
section
variable {K : PySem.W.Frag} {Pg : Program} {w : World} {mg : Str → Option Value} {base : Heap} {x qual : Str} {st : Stmt} {f : Addr} {fd : FuncData} {N ps : List Str} {kk : Nat} {C : Addr}
theorem fnWX_of {sp : Addr → Option Addr → Sp} (F : Fun K x qual st f fd) (S : FnScope N ps (defScope st)) (ln : ∀ a d vs H Q E, sp a d vs H Q E → vs.length = ps.length)
    (hbody : ∀ (cdv : Value) (A : Around) (out : List Env) (s : Shared) (H : Hp) (vs : List V) (Q : VK) (E : XK) (p : Addr × Obj) (d : Option Addr), L2H.RoomH kk (A.deeper (envOfC qual (defScope st) s.heap.objs.size f cdv)) → L2H.HotC (L2H.cxH CX0 Pg w K mg base N qual (defScope st) f cdv A out s H E p) → Zc (.ref C) d p.2 → (∃ vs, p.2.data = .fields vs) → sp p.1 d vs H Q E →
      ∃ t, PSs (L2H.cxH CX0 Pg w K mg base N qual (defScope st) f cdv A out s H E p) (defBody st) t ∧ t { nx := fun _ H' => Q .non H', rt := Q } (L2.start N vs) H) : FnWX Pg w K mg base (kk + 1) f fd ps C sp := by
  refine ⟨ln, fun A out s H ar us vs Q E p d room hot pin hz hf e0 hb rl hsp => ?_⟩
  obtain ⟨oc, od, kV, doc, pm, an, cdv, ct, osl, rfl, lk, hcd⟩ := F.ex
  have hlen := ln _ _ _ _ _ _ hsp
  have KX := e0.mod.kin.keeps (h' := s.heap) fun b o e => (e0.bs b o e).1
  have kinds : ∀ y ∈ ps.zip us, (defScope st).names.lookup y.1 = some .local ∨ ((defScope st).names.lookup y.1 = some .cell ∧ ((cellsFrom (s.heap.objs.size + 1) (defScope st).names []).lookup y.1).isSome = true) := fun ⟨n, v⟩ hy =>
    (S.par n (List.of_mem_zip hy).1).elim (fun q => .inl q) fun q => .inr ⟨q, PySem.W.cellsFrom_some _ _ _ (.inl q)⟩
  refine codeAny_call_function room.depth (KX _ _ lk) rfl S.co S.gen rfl (PySem.W.codeRec_of KX hcd) (hb _ _ _ _ (wpAny_newFunctionEnv_cells S.kind kinds fun env he s1 y => ?_))
  subst he
  refine ⟨(e0.mod.nolimit.keeps (h' := s.heap) fun b o e => (e0.bs b o e).1).keeps y.toInCall.keep, codeAny_func ?_⟩
  obtain ⟨t, ht, hq⟩ := hbody cdv A out s H vs Q E p d (room.deeper _) ⟨p, ⟨hot.1, hot.2⟩, List.mem_cons_self⟩ hz hf hsp
  have I := L2H.inv_startH (CX := CX0) (P := Pg) (w := w) (A := A) (E := E) (qual := qual) (f := f) (cd := cdv) S pin e0 hlen rl y
  refine wpAny_mono (ht.run [] s1 (L2.start N vs) H _ I hq) (fun fl s' hs => ?_) (fun _ _ z => z)
  cases fl with
  | ret u => obtain ⟨v, σ', H', J, rv, q⟩ := hs; exact ⟨v, H', J.os, J.bare, J.base, J.hok, rv, q⟩
  | next => obtain ⟨σ', H', J, q⟩ := hs; exact ⟨.non, H', J.os, J.bare, J.base, J.hok, rfl, q⟩
  | brk => exact hs.elim fun _ z => z.elim fun _ z => z.2.elim
  | cont => exact hs.elim fun _ z => z.elim fun _ z => z.2.elim
theorem fn_simWX {ms : List Mo} {ro : Bool} {p : Addr → Option Addr → PSp} {b : Addr → Option Addr → WS} (F : Fun K x qual st f fd) (S : FnScope N ps (defScope st)) (hm : ms.length = ps.length)
    (hbody : ∀ (cdv : Value) (A : Around) (outer : List Env) (s : Shared) (H : Hp) (E : XK) (pp : Addr × Obj) (d : Option Addr), L2H.RoomH kk (A.deeper (envOfC qual (defScope st) s.heap.objs.size f cdv)) → L2H.HotC (L2H.cxH CX0 Pg w K mg base N qual (defScope st) f cdv A outer s H E pp) → Zc (.ref C) d pp.2 → (∃ vs, pp.2.data = .fields vs) →
      ∃ t, PSs (L2H.cxH CX0 Pg w K mg base N qual (defScope st) f cdv A outer s H E pp) (defBody st) t ∧ SS K noW ro t (b pp.1 d))
    (hX : ∀ a d xs Q X, p a d xs Q X → p a d xs Q noX) (hp : ∀ a d xs Q, p a d xs Q noX → b a d (endsP ro Q noX) (startP N ms xs)) : FnWX Pg w K mg base (kk + 1) f fd ps C (fun a d => spOf K ms ro (p a d)) := by
  refine fnWX_of F S (fun a d vs H Q E ⟨F1, xs, Qp, Xp, s, al, _⟩ => ?_) fun cdv A outer s H vs Q E pp d hr hc hz hf ⟨F1, xs, Qp, Xp, sm, al, hq, q, _⟩ => ?_
  · obtain ⟨l1, l2⟩ := al.lens
    rw [l2, ← l1, hm]
  · obtain ⟨t, ht, sim⟩ := hbody cdv A outer s H E pp d hr hc hz hf
    exact ⟨t, ht, sim F1 H _ F1 H _ _ _ (good_start sm al) (hp _ _ xs Qp (hX _ _ _ _ _ hq)) (ends_ok q) fun _ _ _ _ _ _ _ _ _ _ z => z⟩
end
section
variable {X : Cx} {kk : Nat} {f : Addr} {fd : FuncData} {ps : List Str} {C : Addr} {sp : Addr → Option Addr → Sp} {y : Str} {p pos : Pos} {e : Expr} {es : List Expr} {t : TA} {a : Addr} {oe : Obj} {d : Option Addr} {pn : List (Addr × Obj)}
/-- such a call, in the suite: C is the caught error's class -/
def tCallX (cls : Value) (C : Addr) (t : TE) : TE := fun σ H Q => cls = .ref C ∧ t σ H Q
theorem pe_callWX {E : XK} {cls : Value} (hz : L2N.Zn cls d oe) (hf : ∃ vs, oe.data = .fields vs) (F : FnWX X.prog X.w X.K X.mg X.base kk f fd ps C sp) (hr : Room kk X.A) (hg : Gl X y) (hm : X.mg y = some (.ref f)) (hk : PySem.W.keepIn X.K (.ref f) = true) (hb : Binds X.K fd ps [])
    (ha : PA (X.suite a ((a, oe) :: pn)) (e :: es) t) (hdb : (y == ("__debug__" : Str)) = false := by decide) (he : starEach (e :: es) X.env = (false, eval e X.env) :: starEach es X.env := by rfl) (hpl : (backTo pos (starEach es X.env)).any (·.1) = false := by rfl) :
    PE (X.suite a ((a, oe) :: pn)) (.Call (.Name y p) (e :: es) [] pos) (tCallX cls C (tCall (sp a d) [] E t)) := by
  refine ⟨fun pins s0 σ H Q I0 ⟨ec, h⟩ => ?_⟩
  subst ec
  refine wpAny_Call_Name_kw (ld_glob I0 hg hm (PySem.W.callWith_K (h₀ := X.base) I0.ok.mod.kin hk (thn (ha.run pos pins s0 σ H _ I0 h) fun us s ⟨vs, H1, I, r, q⟩ => ⟨I.kIn, ?_⟩) he hpl) hdb)
  have q : sp a d (vs ++ []) H1 Q E := q
  rw [List.append_nil] at q
  show wpAny _ _ (call (.ref f) us) _ _ _
  have hl : us.length = ps.length := by rw [← r.length]; exact F.len _ _ _ _ _ _ q
  have hbb := hb s us I.kIn (by rw [List.append_nil]; exact hl)
  rw [List.append_nil] at hbb
  have P1 := I.pin (a, oe) (List.mem_append_left _ List.mem_cons_self)
  have pin : L2H.PinOk X.stack H1 s (a, oe) := ⟨P1.1, P1.2.1, fun hm => (List.mem_cons.mp (I.stkSub a hm)).elim P1.2.2.1 P1.2.2.2.1, P1.2.2.2.2⟩
  have hot : L2H.Hot1 (X.suite a ((a, oe) :: pn)).A (a, oe) := by
    obtain ⟨vs, hv⟩ := hf
    exact ⟨rfl, vs, hv, hz.2.2 vs hv⟩
  refine wpAny_call (codeAny_mono (F.run (X.suite a ((a, oe) :: pn)).A X.stack s H1 ⟨us, []⟩ us vs Q E (a, oe) d ⟨hr.dp, hr.un⟩ hot pin hz.zc hf I.env0 hbb r q) fun z s' hz => ?_)
  cases z with
  | error er => exact False.elim hz
  | ok fl =>
    cases fl with
    | ret u => exact I.after hz
    | next => exact hz.elim
    | brk => exact hz.elim
    | cont => exact hz.elim
end
section
variable {K : PySem.W.Frag} {W : WX} {m : Rk} {t : TE} {w : WE} {C : Addr}
theorem se_callX (h : SE K W m t w) : SE K W m (tCallX (.ref C) C t) w := fun F0 H0 σ F H env Qp Xp Q g hw hx q => ⟨rfl, h F0 H0 σ F H env Qp Xp Q g hw hx q⟩
end
section
variable {K : PySem.W.Frag} {Pg : Program} {w : World} {mg : Str → Option Value} {base : Heap} {x qual : Str} {st : Stmt} {f : Addr} {fd : FuncData} {N ps : List Str} {kk : Nat} {ms : List Mo} {ro : Bool} {p : PSp} {b : WS}
/-- as fn_simX, in the L2N family -/
theorem fn_simXN (F : Fun K x qual st f fd) (S : FnScope N ps (defScope st)) (hm : ms.length = ps.length)
    (hbody : ∀ (cdv : Value) (A : Around) (outer : List Env) (s : Shared) (H : Hp) (E : XK), Room kk (A.deeper (envOfC qual (defScope st) s.heap.objs.size f cdv)) → ∃ t, PSs (cxOf (L2N.CX Pg w) Pg w K mg base N qual (defScope st) f cdv A outer s H E) (defBody st) t ∧ SS K (fun cls d _ H => E cls d H) ro t b)
    (hp : ∀ xs Q X, p xs Q X → b (endsP ro Q X) (startP N ms xs)) : FnOk Pg w K mg base (L2N.CX Pg w) (kk + 1) f fd ps (spOf K ms ro p) := by
  obtain ⟨oc, od, kV, doc, pm, an, cdv, ct, osl, rfl, lk, hcd⟩ := F.ex
  refine fn_of lk hcd S (fun vs H Q E ⟨F1, xs, Qp, Xp, s, al, _⟩ => ?_) fun A outer s H vs Q E hr ⟨F1, xs, Qp, Xp, sm, al, hq, q, qx⟩ => ?_
  · obtain ⟨l1, l2⟩ := al.lens
    rw [l2, ← l1, hm]
  · obtain ⟨t, ht, sim⟩ := hbody cdv A outer s H E hr
    exact ⟨t, ht, sim F1 H _ F1 H _ _ _ (good_start sm al) (hp xs Qp Xp hq) (ends_ok q) fun σ F' H' env C d ns ys g f h => qx F' H' C d ns ys g.m f h⟩
end
section
variable {X : Cx} {elt tg iter : Expr} {ifs : List Expr} {scope : Scope} {own : List (Str × Nat)} {pos : Pos} {wi : TI}
theorem pe_lcPX {g : BkG} {tt : BkT} {te : BkE} (hc : HotC X) (hN : X.N.Nodup) (hi : PIP X tg iter wi) (ok : BlkOk X.N X.env.scope scope own)
    (hg : ∀ s H C cl fp, PG (X.blk s H scope (compEnvC scope cl C X.env) fp) tg (g s H C cl fp)) (ht : ∀ s H C cl fp, PTs (X.blk s H scope (compEnvC scope cl C X.env) fp) ifs (tt s H C cl fp)) (he : ∀ s H C cl fp, PE (X.blk s H scope (compEnvC scope cl C X.env) fp) elt (te s H C cl fp))
    (hs : ∀ x, foldedSetIterable iter X.env x = pure x := by intro _; rfl) : PE X (.ListComp elt [⟨tg, iter, ifs, 0⟩] scope pos) (tLc wi (allG g) (allT tt) (allE te) (own.map (·.2))) :=
  pe_lcP hc hN hi ok (fun s H C cl fp => ⟨fun pins s1 σ H1 v u Q I r h => (hg s H C cl fp).run pins s1 σ H1 v u Q I r (h s H C cl fp)⟩)
    (fun s H C cl fp => ⟨fun pins s1 σ H1 Q I h => (ht s H C cl fp).run pins s1 σ H1 Q I (h s H C cl fp)⟩) (fun s H C cl fp => ⟨fun pins s1 σ H1 Q I h => (he s H C cl fp).run pins s1 σ H1 Q I (h s H C cl fp)⟩) hs
end
def unbl : P → Bool
  | .bl b => b
  | _ => false
theorem lcBl {xs : List P} {g : P → PEnv → (PEnv → Prop) → Prop} {tt : WT} {te : WE} {vs : List Nat} {env : PEnv} {Q : P → Prop} (h : xs = (xs.map unbl).map P.bl) (hl : xs.length ≤ 1000000)
    (hs : ∀ (b : Bool) (Q : P → Prop) (Q0 : Prop), (if b = true then Q (.bl b) else Q0) → g (.bl b) (wipeP env vs) fun e => tt e (fun c => if c = true then te e Q noX' else Q0) noX')
    (hd : Q (.lst (((xs.map unbl).filter fun b => decide (b = true)).map P.bl))) : LcB xs g tt te vs env Q := by
  haveI : ML xs Bool P.bl (xs.map unbl) := ⟨h⟩
  exact lcMf (l := xs.map unbl) (c := fun b => b = true) (ci := fun _ => inferInstance) (f := P.bl) (by rw [List.length_map]; exact hl) (fun b _ Q Q0 h => hs b Q Q0 h) hd
theorem takes0N {X : Cx} : L2N.Takes X (fun _ _ _ _ => False) := fun _ _ x => by
  obtain ⟨_, _, _, _, _, _, _, _, _, _, _, _, _, _, _, _, z⟩ := x
  exact z.elim
end Pf

namespace Pf
open PySem PySem.Spec PyProof.Rows L2
/-- the caps of the chosen sheets -/
def chA (rs : List (Int × Str)) (A : Int → Bool) (p : Str → Bool) (e w : Int) : Int := ((rgI 0 rs.length).map fun k => if A k = true ∧ p (gx rs k).2 = true then capI (gx rs k).1 e w else 0).sum
/-- the sheets that are not chosen and no sharper -/
def spA (rs : List (Int × Str)) (A : Int → Bool) (h : Int) : Int := ((rgI 0 rs.length).map fun k => if A k = false ∧ (gx rs k).1 ≤ h then (1 : Int) else 0).sum
def eqS (z : Str) : Str → Bool := fun y => decide (y = z)
def enuf (rs : List (Int × Str)) (e w : Int) (f : Str → Int) : Prop := ∃ A : Int → Bool, (∀ z, f z ≤ chA rs A (eqS z) e w) ∧ ∀ h, e ≤ h → h < maxI (rs.map Prod.fst) → h + 1 - e ≤ spA rs A h
theorem gap_pw {a : Nat → Int} {n : Nat} (h : ∀ j : Nat, j + 1 < n → a j < a (j + 1)) {i : Nat} : ∀ d : Nat, i + d + 1 < n + 0 → a i < a (i + d + 1)
  | 0, hd => h i (by omega)
  | d + 1, hd => by
    have h1 := gap_pw h (i := i) d (by omega)
    have h2 := h (i + d + 1) (by omega)
    have : i + (d + 1) + 1 = i + d + 1 + 1 := by omega
    rw [this]
    omega
theorem ascB_nd {ts : List Int} (h : ascB ts = true) : ts.Nodup := by
  have h1 := ascB_iff.mp h
  refine List.pairwise_iff_getElem.mpr fun i j hi hj hij => ?_
  have h2 := gap_pw (a := fun j => gx ts (j : Int)) (n := ts.length) (fun j hj => by have := h1 j hj; rw [show ((j : Int) + 1) = ((j + 1 : Nat) : Int) by omega] at this; exact this) (i := i) (j - i - 1) (by omega)
  rw [show i + (j - i - 1) + 1 = j by omega] at h2
  have h2 : gx ts (i : Int) < gx ts (j : Int) := h2
  rw [gx_get hi, gx_get hj] at h2
  omega
theorem al_nd {rs : List (Int × Str)} {s w : Int} {ts : List Int} (h : alB rs s ts w = true) : (s :: ts).Nodup := by
  obtain ⟨h1, _, h3⟩ := alB_iff.mp h
  refine List.nodup_cons.mpr ⟨fun hs => ?_, ascB_nd (wfB_iff.mp h1).2.1⟩
  have := h3 s hs
  omega
theorem enuf_deed {rs : List (Int × Str)} {s e w : Int} {ts : List Int} (hw : 1 ≤ w) (ha : alB rs s ts w = true) (A' : Int → Bool) :
    ∃ A : Int → Bool, (∀ p, chA (aftR rs s ts) A' p e w ≤ chA rs A p e w) ∧ ((∀ h, e ≤ h → h < maxI ((aftR rs s ts).map Prod.fst) → h + 1 - e ≤ spA (aftR rs s ts) A' h) → ∀ h, e ≤ h → h < maxI (rs.map Prod.fst) → h + 1 - e ≤ spA rs A h) := by
  have hnd := al_nd ha
  obtain ⟨hwf, htw, hlt⟩ := alB_iff.mp ha
  have hin := (wfB_iff.mp hwf).2.2
  have htp := (wfB_iff.mp hwf).1
  have hlen : (aftR rs s ts).length = rs.length := aftR_len
  have hget : ∀ j : Int, 0 ≤ j → j < (rs.length : Int) → gx (aftR rs s ts) j = if j ∈ s :: ts then ((gx rs s).1 - 1, (gx rs s).2) else gx rs j := fun j h0 h1 => aftR_get hwf h0 h1
  have hsn : s ∉ ts := (List.nodup_cons.mp hnd).1
  have hb := hin s List.mem_cons_self
  generalize hv : (gx rs s).1 = v at *
  generalize hy : (gx rs s).2 = y at *
  generalize hB : (s :: ts).any A' = B
  refine ⟨fun k => if k ∈ s :: ts then decide (k = s) && B else A' k, fun p => ?_, fun hh h he hm => ?_⟩
  · have key := sum_two (n := rs.length) hnd hin (f := fun k => if A' k = true ∧ p (gx (aftR rs s ts) k).2 = true then capI (gx (aftR rs s ts) k).1 e w else 0)
      (g := fun k => if (if k ∈ s :: ts then decide (k = s) && B else A' k) = true ∧ p (gx rs k).2 = true then capI (gx rs k).1 e w else 0) (fun i g0 g1 gj => by
        try dsimp only
        rw [hget i g0 g1, if_neg gj, if_neg gj])
    have eF : ∀ i ∈ s :: ts, (fun k => if A' k = true ∧ p (gx (aftR rs s ts) k).2 = true then capI (gx (aftR rs s ts) k).1 e w else 0) i = (fun k => if A' k = true ∧ p y = true then capI (v - 1) e w else 0) i := fun i hi => by
      have := hin i hi
      try dsimp only
      rw [hget i this.1 this.2, if_pos hi]
    have eG : ∀ i ∈ s :: ts, (fun k => if (if k ∈ s :: ts then decide (k = s) && B else A' k) = true ∧ p (gx rs k).2 = true then capI (gx rs k).1 e w else 0) i = (fun k => if k = s ∧ B = true ∧ p y = true then capI v e w else 0) i := fun i hi => by
      try dsimp only
      rw [if_pos hi]
      by_cases hs : i = s
      · subst hs
        rw [hv, hy, decide_eq_true rfl, Bool.true_and]
        simp only [true_and]
      · rw [decide_eq_false hs, Bool.false_and, if_neg (by simp), if_neg (fun q => hs q.1)]
    rw [List.map_congr_left eF, List.map_congr_left eG] at key
    have hc0 : 0 ≤ capI (v - 1) e w := capI_nn (by omega)
    have hc1 : 0 ≤ capI v e w := capI_nn (by omega)
    have hc2 : (w + 1) * capI (v - 1) e w ≤ capI v e w := by
      by_cases hl : e ≤ v - 1
      · unfold capI
        rw [if_neg (by omega), if_neg (by omega), show (v - e).toNat = (v - 1 - e).toNat + 1 by omega, Int.pow_succ, Int.mul_comm]
        exact Int.le_refl _
      · have : capI (v - 1) e w = 0 := by unfold capI; rw [if_pos (by omega)]
        rw [this, Int.mul_zero]
        exact hc1
    have eS : ((s :: ts).map fun k => if k = s ∧ B = true ∧ p y = true then capI v e w else 0).sum = if B = true ∧ p y = true then capI v e w else 0 := by
      rw [List.map_cons, List.sum_cons]
      have : (ts.map fun k => if k = s ∧ B = true ∧ p y = true then capI v e w else 0) = ts.map fun _ => (0 : Int) := List.map_congr_left fun t ht => if_neg fun (q : t = s ∧ B = true ∧ p y = true) => hsn (q.1 ▸ ht)
      rw [this, sum_const, Int.mul_zero, Int.add_zero]
      simp only [true_and]
    have eT : ((s :: ts).map fun k => if A' k = true ∧ p y = true then capI (v - 1) e w else 0).sum ≤ if B = true ∧ p y = true then capI v e w else 0 := by
      by_cases hc : B = true ∧ p y = true
      · rw [if_pos hc]
        refine Int.le_trans (sum_le2 (g := fun _ => capI (v - 1) e w) fun k _ => ?_) ?_
        · split
          · exact Int.le_refl _
          · exact hc0
        · rw [sum_const, List.length_cons]
          refine Int.le_trans (Int.mul_le_mul_of_nonneg_right (c := capI (v - 1) e w) (by omega : ((ts.length + 1 : Nat) : Int) ≤ w + 1) hc0) hc2
      · rw [if_neg hc]
        have : ((s :: ts).map fun k => if A' k = true ∧ p y = true then capI (v - 1) e w else 0) = (s :: ts).map fun _ => (0 : Int) := List.map_congr_left fun t ht => if_neg fun q => hc ⟨by rw [← hB]; exact List.any_eq_true.mpr ⟨t, ht, q.1⟩, q.2⟩
        rw [this, sum_const, Int.mul_zero]
        exact Int.le_refl _
    rw [eS] at key
    unfold chA
    rw [hlen]
    try dsimp only
    omega
  · have eG : ∀ (h : Int) , ∀ i ∈ s :: ts, (fun k => if (if k ∈ s :: ts then decide (k = s) && B else A' k) = false ∧ (gx rs k).1 ≤ h then (1 : Int) else 0) i = (fun k => if (k = s → B = false) ∧ (gx rs k).1 ≤ h then (1 : Int) else 0) i := fun h i hi => by
      try dsimp only
      rw [if_pos hi]
      by_cases hs : i = s
      · subst hs
        rw [decide_eq_true rfl, Bool.true_and]
        simp only [true_implies]
      · rw [decide_eq_false hs, Bool.false_and]
        simp only [hs, false_implies]
    have hts : ∀ h, v - 1 ≤ h → (ts.length : Int) ≤ ((ts).map fun k => if (k = s → B = false) ∧ (gx rs k).1 ≤ h then (1 : Int) else 0).sum := fun h hvh => sum_ge_len fun t ht => by
      have := hlt t ht
      rw [if_pos ⟨fun q => absurd (q ▸ ht) hsn, by omega⟩]
      exact Int.le_refl _
    have hsv : v - 1 ≤ maxI ((aftR rs s ts).map Prod.fst) := by
      refine le_maxI (List.mem_map.mpr ⟨gx (aftR rs s ts) s, gx_mem ⟨by omega, by rw [hlen]; omega⟩, ?_⟩)
      rw [hget s hb.1 hb.2, if_pos List.mem_cons_self]
    by_cases hc : h = v - 1
    · subst hc
      have hJ : 1 ≤ ((s :: ts).map fun k => if (k = s → B = false) ∧ (gx rs k).1 ≤ v - 1 then (1 : Int) else 0).sum := by
        rw [List.map_cons, List.sum_cons]
        have := hts (v - 1) (Int.le_refl _)
        have h0 : (0 : Int) ≤ if (s = s → B = false) ∧ (gx rs s).1 ≤ v - 1 then (1 : Int) else 0 := by split <;> decide
        omega
      have key := sum_two (n := rs.length) hnd hin (f := fun k => if A' k = false ∧ (gx (aftR rs s ts) k).1 ≤ v - 2 then (1 : Int) else 0)
        (g := fun k => if k ∈ s :: ts then (if (k = s → B = false) ∧ (gx rs k).1 ≤ v - 1 then (1 : Int) else 0) else if A' k = false ∧ (gx rs k).1 ≤ v - 2 then (1 : Int) else 0) (fun i g0 g1 gj => by
          try dsimp only
          rw [hget i g0 g1, if_neg gj, if_neg gj])
      have eF : ∀ i ∈ s :: ts, (fun k => if A' k = false ∧ (gx (aftR rs s ts) k).1 ≤ v - 2 then (1 : Int) else 0) i = (fun _ => 0) i := fun i hi => by
        have := hin i hi
        try dsimp only
        rw [hget i this.1 this.2, if_pos hi, if_neg (fun q => by have := q.2; try dsimp only at this; omega)]
      have eG2 : ∀ i ∈ s :: ts, (fun k => if k ∈ s :: ts then (if (k = s → B = false) ∧ (gx rs k).1 ≤ v - 1 then (1 : Int) else 0) else if A' k = false ∧ (gx rs k).1 ≤ v - 2 then (1 : Int) else 0) i = (fun k => if (k = s → B = false) ∧ (gx rs k).1 ≤ v - 1 then (1 : Int) else 0) i := fun i hi => by
        try dsimp only
        rw [if_pos hi]
      rw [List.map_congr_left eF, List.map_congr_left eG2, sum_const, Int.mul_zero] at key
      have hle : ((rgI 0 rs.length).map fun k => if k ∈ s :: ts then (if (k = s → B = false) ∧ (gx rs k).1 ≤ v - 1 then (1 : Int) else 0) else if A' k = false ∧ (gx rs k).1 ≤ v - 2 then (1 : Int) else 0).sum ≤ spA rs (fun k => if k ∈ s :: ts then decide (k = s) && B else A' k) (v - 1) := by
        refine sum_le2 fun k _ => ?_
        by_cases hk : k ∈ s :: ts
        · rw [if_pos hk]
          have := eG (v - 1) k hk
          try dsimp only at this
          rw [this]
          exact Int.le_refl _
        · rw [if_neg hk]
          simp only [if_neg hk]
          by_cases hq : A' k = false ∧ (gx rs k).1 ≤ v - 2
          · rw [if_pos hq, if_pos ⟨hq.1, by have := hq.2; omega⟩]
            exact Int.le_refl _
          · rw [if_neg hq]
            split <;> decide
      by_cases h2 : e ≤ v - 2
      · have := hh (v - 2) h2 (by omega)
        unfold spA at this
        rw [hlen] at this
        omega
      · have h0 := sum_nn' (l := rgI 0 rs.length) (f := fun k => if A' k = false ∧ (gx (aftR rs s ts) k).1 ≤ v - 2 then (1 : Int) else 0) (fun k _ => by split <;> decide)
        omega
    · have hm' : h < maxI ((aftR rs s ts).map Prod.fst) := by
        by_cases hvh : v ≤ h
        · obtain ⟨r, hr, e1⟩ := List.mem_map.mp (maxI_mem (l := rs.map Prod.fst) (by rw [List.length_map]; omega))
          obtain ⟨j, hj⟩ := List.mem_iff_getElem?.mp hr
          have hjl := (List.getElem?_eq_some_iff.mp hj).1
          have hgj := gx_nat hj
          have hnj : ((j : Nat) : Int) ∉ s :: ts := fun q => by
            rcases List.mem_cons.mp q with q | q
            · rw [q] at hgj
              rw [← hgj] at e1
              omega
            · have := hlt _ q
              rw [hgj] at this
              omega
          have : gx (aftR rs s ts) (j : Int) = r := by rw [hget _ (by omega) (by omega), if_neg hnj, hgj]
          have : r.1 ≤ maxI ((aftR rs s ts).map Prod.fst) := le_maxI (List.mem_map.mpr ⟨_, gx_mem (l := aftR rs s ts) (i := (j : Int)) ⟨by omega, by rw [hlen]; omega⟩, by rw [this]⟩)
          omega
        · omega
      have h1 := hh h he hm'
      have key := sum_two (n := rs.length) hnd hin (f := fun k => if A' k = false ∧ (gx (aftR rs s ts) k).1 ≤ h then (1 : Int) else 0)
        (g := fun k => if (if k ∈ s :: ts then decide (k = s) && B else A' k) = false ∧ (gx rs k).1 ≤ h then (1 : Int) else 0) (fun i g0 g1 gj => by
          try dsimp only
          rw [hget i g0 g1, if_neg gj, if_neg gj])
      have eF : ∀ i ∈ s :: ts, (fun k => if A' k = false ∧ (gx (aftR rs s ts) k).1 ≤ h then (1 : Int) else 0) i = (fun k => if A' k = false ∧ v - 1 ≤ h then (1 : Int) else 0) i := fun i hi => by
        have := hin i hi
        try dsimp only
        rw [hget i this.1 this.2, if_pos hi]
      rw [List.map_congr_left eF, List.map_congr_left (eG h)] at key
      have hle : ((s :: ts).map fun k => if A' k = false ∧ v - 1 ≤ h then (1 : Int) else 0).sum ≤ ((s :: ts).map fun k => if (k = s → B = false) ∧ (gx rs k).1 ≤ h then (1 : Int) else 0).sum := by
        by_cases hvh : v ≤ h
        · have h3 := hts h (by omega)
          rw [List.map_cons (f := fun k => if (k = s → B = false) ∧ (gx rs k).1 ≤ h then (1 : Int) else 0), List.sum_cons]
          have hone : ∀ l : List Int, (l.map fun k => if A' k = false ∧ v - 1 ≤ h then (1 : Int) else 0).sum ≤ (l.length : Int) := fun l => by
            have := sum_le2 (l := l) (f := fun k => if A' k = false ∧ v - 1 ≤ h then (1 : Int) else 0) (g := fun _ => 1) fun k _ => by split <;> decide
            rw [sum_const] at this
            omega
          cases hBB : B with
          | false =>
            have := hone (s :: ts)
            rw [List.length_cons] at this
            rw [if_pos ⟨fun _ => rfl, by omega⟩]
            rw [hBB] at h3
            omega
          | true =>
            rw [hBB] at hB
            obtain ⟨t, ht, hAt⟩ := List.any_eq_true.mp hB
            have := sum_lt2 (l := s :: ts) (f := fun k => if A' k = false ∧ v - 1 ≤ h then (1 : Int) else 0) (g := fun _ => 1) (fun k _ => by split <;> decide) ht (by rw [if_neg (fun q => by rw [hAt] at q; exact absurd q.1 (by decide))]; decide)
            rw [sum_const, List.length_cons] at this
            rw [if_neg (fun q => absurd (q.1 rfl) (by decide))]
            rw [hBB] at h3
            omega
        · have : ((s :: ts).map fun k => if A' k = false ∧ v - 1 ≤ h then (1 : Int) else 0) = (s :: ts).map fun _ => (0 : Int) := List.map_congr_left fun t ht => if_neg fun q => by omega
          rw [this, sum_const, Int.mul_zero]
          exact sum_nn' fun k _ => by split <;> decide
      unfold spA at h1 ⊢
      rw [hlen] at h1
      try dsimp only
      omega
end Pf
namespace Pf
open PySem PySem.Spec PyProof.Rows L2
theorem enuf_log {e w : Int} {f : Str → Int} (hw : 1 ≤ w) : ∀ {ds : List (Int × List Int)} {rs : List (Int × Str)}, logOk rs w ds → enuf (aftL rs ds) e w f → enuf rs e w f
  | [], _, _, h => h
  | d :: ds, rs, hl, h => by
    obtain ⟨A', h1, h2⟩ := enuf_log hw hl.2 h
    obtain ⟨A, a1, a2⟩ := enuf_deed (e := e) hw hl.1 A'
    exact ⟨A, fun z => Int.le_trans (h1 z) (a1 _), a2 h2⟩
theorem sum_fil {α : Type} {c : α → Prop} [DecidablePred c] {f : α → Int} : ∀ l : List α, (l.map fun r => if c r then f r else 0).sum = ((l.filter fun r => decide (c r)).map f).sum
  | [] => rfl
  | a :: l => by
    rw [List.map_cons, List.sum_cons, sum_fil l, List.filter_cons]
    by_cases h : c a
    · rw [if_pos h, if_pos (decide_eq_true h), List.map_cons, List.sum_cons]
    · rw [if_neg h, if_neg (by simpa using h), Int.zero_add]
theorem chA_all {rs : List (Int × Str)} {e w : Int} : chA rs (fun _ => true) (fun _ => true) e w = capS (rs.map Prod.fst) e w := by
  unfold chA capS
  simp only [and_self, if_true]
  rw [List.map_map]
  conv => rhs; rw [← rgI_gx (ls := rs)]
  rw [List.map_map]
  rfl
theorem chA_rec {rs : List (Int × Str)} {z : Str} {e w : Int} : chA rs (fun _ => true) (eqS z) e w = capS ((lvZ rs z).map Prod.fst) e w := by
  unfold chA capS eqS lvZ
  simp only [true_and, decide_eq_true_eq]
  have : ((rgI 0 rs.length).map fun k => if (gx rs k).2 = z then capI (gx rs k).1 e w else 0) = rs.map fun r => if r.2 = z then capI r.1 e w else 0 := by
    conv => rhs; rw [← rgI_gx (ls := rs)]
    rw [List.map_map]
    rfl
  rw [this, sum_fil, List.map_map]
  rfl
theorem chA_mono {rs : List (Int × Str)} {A : Int → Bool} {p q : Str → Bool} {e w : Int} (hw : 0 ≤ w) (h : ∀ z, p z = true → q z = true) : chA rs A p e w ≤ chA rs (fun _ => true) q e w :=
  sum_le2 fun k _ => by
    by_cases hc : A k = true ∧ p (gx rs k).2 = true
    · rw [if_pos hc, if_pos ⟨rfl, h _ hc.2⟩]; exact Int.le_refl _
    · rw [if_neg hc]
      split
      · exact capI_nn hw
      · exact Int.le_refl _
theorem capS_aft {rs : List (Int × Str)} {s e w : Int} {ts : List Int} (hw : 1 ≤ w) (ha : alB rs s ts w = true) : capS ((aftR rs s ts).map Prod.fst) e w ≤ capS (rs.map Prod.fst) e w := by
  obtain ⟨A, h, _⟩ := enuf_deed (e := e) hw ha (fun _ => true)
  rw [← chA_all, ← chA_all]
  exact Int.le_trans (h _) (chA_mono (by omega) fun _ h => h)
theorem capS_log {e w : Int} (hw : 1 ≤ w) : ∀ {ds : List (Int × List Int)} {rs : List (Int × Str)}, logOk rs w ds → capS ((aftL rs ds).map Prod.fst) e w ≤ capS (rs.map Prod.fst) e w
  | [], _, _ => Int.le_refl _
  | _ :: ds, _, hl => Int.le_trans (capS_log hw (ds := ds) hl.2) (capS_aft hw hl.1)
theorem capI_self {e w : Int} : capI e e w = 1 := by unfold capI; rw [if_neg (by omega), Int.sub_self]; exact Int.pow_zero _
theorem capS_lev {ls : List Int} {e w : Int} (h : ∀ l ∈ ls, l = e) : capS ls e w = (ls.length : Int) := by
  unfold capS
  rw [List.map_congr_left (g := fun _ => (1 : Int)) fun l hl => by rw [h l hl]; exact capI_self, sum_const, Int.mul_one]
theorem lvZ_len {rs : List (Int × Str)} {z : Str} : (lvZ rs z).length = cntR rs z := rfl
theorem enuf_lev {rs : List (Int × Str)} {e w : Int} {f : Str → Int} (h0 : 0 < rs.length) (hl : ∀ r ∈ rs, r.1 = e) (hf : ∀ z, f z ≤ (cntR rs z : Int)) : enuf rs e w f :=
  ⟨fun _ => true, fun z => by
    rw [chA_rec, capS_lev (fun l hl2 => by
      obtain ⟨r, hr, rfl⟩ := List.mem_map.mp hl2
      exact hl r (List.mem_filter.mp hr).1), List.length_map, lvZ_len]
    exact hf z, fun h he hm => by
    obtain ⟨r, hr, e1⟩ := List.mem_map.mp (maxI_mem (l := rs.map Prod.fst) (by rw [List.length_map]; exact h0))
    have := hl r hr
    omega⟩
def takC (e m w : Int) : List (Int × Int) → Int → List (Int × Int)
  | [], _ => []
  | p :: r, g => if m ≤ g ∨ capU (-p.1) e m w = 0 then [] else p :: takC e m w r (g + capU (-p.1) e m w)
theorem takC_cons {e m w g : Int} {p : Int × Int} {r : List (Int × Int)} : takC e m w (p :: r) g = if m ≤ g ∨ capU (-p.1) e m w = 0 then [] else p :: takC e m w r (g + capU (-p.1) e m w) := rfl
theorem takC_V {e m w : Int} : ∀ (l : List (Int × Int)) (g : Int), takV e m w (l.map Prod.fst) g = (takC e m w l g).map Prod.fst
  | [], _ => rfl
  | p :: r, g => by
    rw [takC_cons]
    show (if _ then _ else _) = _
    by_cases h : m ≤ g ∨ capU (-p.1) e m w = 0
    · rw [if_pos h, if_pos h]; rfl
    · rw [if_neg h, if_neg h, takC_V r]; rfl
theorem cap_or {t e m w g S : Int} (hm : 0 ≤ m) (hw : 1 ≤ w) (hg : 0 ≤ g) (hS : 0 ≤ S) (h : m ≤ g + (capI t e w + S)) : m ≤ g + capU t e m w + S ∧ 0 ≤ g + capU t e m w := by
  by_cases ht : t < e
  · have h1 := capU_lo (w := w) hm ht
    have h2 : capI t e w = 0 := by unfold capI; rw [if_pos ht]
    omega
  · obtain ⟨b1, b2, b3⟩ := capU_hi (t := t) (e := e) hm hw (by omega)
    by_cases hx : t ≤ e + m
    · have := b2 hx; omega
    · have := b3 (by omega); omega
theorem takC_len {e m w : Int} (hm : 0 ≤ m) (hw : 1 ≤ w) : ∀ (l : List (Int × Int)) (g : Int) (j : Nat), 0 ≤ g → m ≤ g + ((l.take j).map fun p => capI (-p.1) e w).sum → (takC e m w l g).length ≤ j
  | [], _, _, _, _ => Nat.zero_le _
  | p :: r, g, 0, hg, h => by
    have h : m ≤ g + 0 := h
    rw [takC_cons, if_pos (.inl (by omega))]
    exact Nat.le_refl _
  | p :: r, g, j + 1, hg, h => by
    rw [takC_cons]
    split
    · exact Nat.zero_le _
    · rw [List.take_succ_cons, List.map_cons, List.sum_cons] at h
      have h2 := cap_or hm hw hg (sum_nn' fun q _ => capI_nn (by omega)) h
      exact Nat.succ_le_succ (takC_len hm hw r _ j h2.2 h2.1)
theorem pre_le {α : Type} {f : α → Int} {p : α} (hp : 0 ≤ f p) : ∀ {r : List α} (c : Nat), (∀ q ∈ r, f q ≤ f p) → ((r.take c).map f).sum ≤ (((p :: r).take c).map f).sum
  | r, 0, _ => Int.le_refl _
  | r, c + 1, h => by
    rw [List.take_succ_cons, List.map_cons, List.sum_cons, List.take_add_one, List.map_append, List.sum_append]
    cases hc : r[c]? with
    | none =>
      show _ + 0 ≤ _
      omega
    | some q =>
      have := h q (List.mem_of_getElem? hc)
      show _ + (f q + 0) ≤ _
      omega
theorem pre_A {A : Int → Bool} {f : Int × Int → Int} (hf : ∀ p, 0 ≤ f p) : ∀ {l : List (Int × Int)}, l.Pairwise (fun p q => f q ≤ f p) → (l.map fun p => if A p.2 = true then f p else 0).sum ≤ ((l.take (l.filter fun p => A p.2).length).map f).sum
  | [], _ => Int.le_refl _
  | p :: r, h => by
    obtain ⟨h1, h2⟩ := List.pairwise_cons.mp h
    have ih := pre_A (A := A) hf h2
    rw [List.map_cons, List.sum_cons, List.filter_cons]
    by_cases hA : A p.2 = true
    · rw [if_pos hA, if_pos hA, List.length_cons, List.take_succ_cons, List.map_cons, List.sum_cons]
      omega
    · rw [if_neg hA, if_neg hA, Int.zero_add]
      exact Int.le_trans ih (pre_le (hf p) _ h1)
theorem tak_cnt {e m w h : Int} {A : Int → Bool} (hm : 0 ≤ m) (hw : 1 ≤ w) : ∀ (l : List (Int × Int)) (g : Int), l.Pairwise (fun p q => p.1 ≤ q.1) → 0 ≤ g → m ≤ g + (l.map fun p => if A p.2 = true then capI (-p.1) e w else 0).sum →
    ((takC e m w l g).filter fun p => decide (-p.1 ≤ h)).length ≤ (l.filter fun p => A p.2 && decide (-p.1 ≤ h)).length
  | [], _, _, _, _ => Nat.le_refl _
  | p :: r, g, hp, hg, hmm => by
    obtain ⟨h1, h2⟩ := List.pairwise_cons.mp hp
    by_cases hh : -p.1 ≤ h
    · have e1 : ((p :: r).filter fun p => A p.2 && decide (-p.1 ≤ h)) = (p :: r).filter fun p => A p.2 := List.filter_congr fun q hq => by
        rw [decide_eq_true, Bool.and_true]
        rcases List.mem_cons.mp hq with rfl | hq
        · exact hh
        · have := h1 q hq; omega
      rw [e1]
      refine Nat.le_trans (List.length_filter_le _ _) (takC_len hm hw _ _ _ hg ?_)
      have hpw : (p :: r).Pairwise (fun p q => capI (-q.1) e w ≤ capI (-p.1) e w) := hp.imp fun {a b} hab => capI_mono hw (by omega)
      have := pre_A (A := A) (f := fun p : Int × Int => capI (-p.1) e w) (fun p => capI_nn (by omega)) hpw
      omega
    · rw [takC_cons]
      split
      · exact Nat.zero_le _
      · rw [List.filter_cons_of_neg (p := fun p : Int × Int => decide (-p.1 ≤ h)) (by simpa using hh), List.filter_cons_of_neg (p := fun p : Int × Int => A p.2 && decide (-p.1 ≤ h)) (by simp [hh])]
        rw [List.map_cons, List.sum_cons] at hmm
        have hS : 0 ≤ (r.map fun p => if A p.2 = true then capI (-p.1) e w else 0).sum := sum_nn' fun q _ => by
          split
          · exact capI_nn (by omega)
          · exact Int.le_refl _
        have hc : 0 ≤ capI (-p.1) e w := capI_nn (by omega)
        have h3 : m ≤ g + (capI (-p.1) e w + (r.map fun p => if A p.2 = true then capI (-p.1) e w else 0).sum) := by
          split at hmm <;> omega
        have h4 := cap_or hm hw hg hS h3
        exact tak_cnt hm hw r _ h2 h4.2 h4.1
theorem one_key {y : Str} : ∀ {l : List Str}, l.Nodup → (l.map fun z => if y = z then (1 : Int) else 0).sum ≤ 1
  | [], _ => (by decide : (0 : Int) ≤ 1)
  | z :: l, h => by
    obtain ⟨h1, h2⟩ := List.nodup_cons.mp h
    rw [List.map_cons, List.sum_cons]
    by_cases hz : y = z
    · subst hz
      have : (l.map fun z => if y = z then (1 : Int) else 0) = l.map fun _ => (0 : Int) := List.map_congr_left fun x hx => if_neg fun (q : y = x) => h1 (q ▸ hx)
      rw [this, sum_const, if_pos rfl, Int.mul_zero]
      decide
    · rw [if_neg hz, Int.zero_add]
      exact one_key h2
theorem sum_add2 {α : Type} {f g : α → Int} : ∀ {l : List α}, (l.map fun x => f x + g x).sum = (l.map f).sum + (l.map g).sum
  | [] => rfl
  | a :: l => by
    rw [List.map_cons, List.sum_cons, List.map_cons, List.sum_cons, List.map_cons, List.sum_cons, sum_add2]
    omega
theorem cnt_keys {α : Type} {κ : α → Str} {keys : List Str} (hk : keys.Nodup) : ∀ L : List α, (keys.map fun z => ((L.filter fun k => decide (κ k = z)).length : Int)).sum ≤ (L.length : Int)
  | [] => by
    have : (keys.map fun z => ((([] : List α).filter fun k => decide (κ k = z)).length : Int)) = keys.map fun _ => (0 : Int) := rfl
    rw [this, sum_const, Int.mul_zero]
    exact Int.le_refl _
  | a :: L => by
    have ih := cnt_keys (κ := κ) hk L
    have h1 := one_key (y := κ a) hk
    have : (keys.map fun z => (((a :: L).filter fun k => decide (κ k = z)).length : Int)) = keys.map fun z => (if κ a = z then (1 : Int) else 0) + ((L.filter fun k => decide (κ k = z)).length : Int) := List.map_congr_left fun z _ => by
      rw [List.filter_cons]
      by_cases hz : κ a = z
      · rw [if_pos (decide_eq_true hz), if_pos hz, List.length_cons]; omega
      · rw [if_neg (by simpa using hz), if_neg hz]; omega
    rw [this, sum_add2, List.length_cons]
    omega
theorem tot_le {rs : List (Int × Str)} {d : List (Str × Int)} (hd : (d.map Prod.fst).Nodup) (h : ∀ z, dm d z ≤ (cntR rs z : Int)) : totI d ≤ (rs.length : Int) :=
  Int.le_trans (sum_le2 fun z _ => h z) (cnt_keys (κ := Prod.snd) hd rs)
theorem len_flat {α : Type} {f : Str → List α} {c : α → Bool} : ∀ {l : List Str}, (((l.flatMap f).filter c).length : Int) = (l.map fun z => (((f z).filter c).length : Int)).sum
  | [] => rfl
  | z :: l => by
    rw [List.flatMap_cons, List.filter_append, List.length_append, List.map_cons, List.sum_cons, ← len_flat]
    omega
theorem recL_none {f : Str → Int} {d : List (Str × Int)} : ∀ {l : List Str}, (∀ z ∈ l, dm d z ≤ f z) → recL f d l = none
  | [], _ => rfl
  | z :: l, h => by
    have := h z List.mem_cons_self
    rw [recL_cons, if_neg (by omega)]
    exact recL_none fun y hy => h y (List.mem_cons_of_mem _ hy)
theorem hgtL_none {sp : List Int} {e : Int} : ∀ {l : List Int}, (∀ h ∈ l, h + 1 - e ≤ cntM sp h) → hgtL sp e l = .non
  | [], _ => rfl
  | h :: l, k => by
    have := k h List.mem_cons_self
    rw [hgtL_cons, if_neg (by omega)]
    exact hgtL_none fun y hy => k y (List.mem_cons_of_mem _ hy)
theorem enuf_none {rs : List (Int × Str)} {e w : Int} {d : List (Str × Int)} (hw : 1 ≤ w) (hd : (d.map Prod.fst).Nodup) (h0 : ∀ z, 0 ≤ dm d z) (hs : enuf rs e w (dm d)) (hT : totI d ≤ (rs.length : Int)) (hR : (rs.length : Int) ≤ capS (rs.map Prod.fst) e w) :
    trP rs (maxI (rs.map Prod.fst)) e w d = .non := by
  obtain ⟨A, a1, a2⟩ := hs
  rw [← trQ_eq hw h0]
  unfold trQ
  rw [if_neg (by omega), if_neg (by omega), recL_none fun z _ => Int.le_trans (a1 z) (by rw [← chA_rec]; exact chA_mono (by omega) fun _ h => h)]
  refine hgtL_none fun h hh => ?_
  have hh := rgI_mem.mp hh
  have h1 := a2 h (by omega) (by omega)
  rw [spare_cnt hd]
  have h2 : (((tkA rs e w d).filter fun x => decide (-x ≤ h)).length : Int) ≤ (((rgI 0 rs.length).filter fun k => A k && decide ((gx rs k).1 ≤ h)).length : Int) := by
    unfold tkA
    rw [len_flat]
    refine Int.le_trans (sum_le2 (g := fun z => ((((rgI 0 rs.length).filter fun k => A k && decide ((gx rs k).1 ≤ h)).filter fun k => decide ((gx rs k).2 = z)).length : Int)) fun z _ => ?_) (cnt_keys (κ := fun k => (gx rs k).2) hd _)
    rw [← fallP_ng, takC_V, List.filter_map, List.length_map]
    have hpw : (fallP rs z).Pairwise (fun p q => p.1 ≤ q.1) := (sortII_pw _).imp fun {p q} h => by unfold leII at h; omega
    have hperm : (fallP rs z).Perm ((sheetsI rs z).map fun k => (-(gx rs k).1, k)) := sortII_perm _
    have hsum : ((fallP rs z).map fun p => if A p.2 = true then capI (-p.1) e w else 0).sum = chA rs A (eqS z) e w := by
      rw [perm_sum (hperm.map _), List.map_map]
      unfold chA eqS
      have e1 : ((rgI 0 rs.length).map fun k => if A k = true ∧ decide ((gx rs k).2 = z) = true then capI (gx rs k).1 e w else 0) = (rgI 0 rs.length).map fun k => if (gx rs k).2 = z then (if A k = true then capI (gx rs k).1 e w else 0) else 0 := List.map_congr_left fun k _ => by
        by_cases c1 : (gx rs k).2 = z
        · rw [if_pos c1]; simp only [c1, decide_true, and_true]
        · rw [if_neg c1, if_neg (fun q => c1 (of_decide_eq_true q.2))]
      rw [e1, sum_fil, sheetsI_rg]
      refine congrArg _ (List.map_congr_left fun k _ => ?_)
      show (if A k = true then capI (- -(gx rs k).1) e w else 0) = _
      rw [Int.neg_neg]
    have key := tak_cnt (e := e) (m := dm d z) (w := w) (h := h) (A := A) (h0 z) hw (fallP rs z) 0 hpw (Int.le_refl _) (by rw [hsum, Int.zero_add]; exact a1 z)
    have e2 : ((fallP rs z).filter fun p => A p.2 && decide (-p.1 ≤ h)).length = (((rgI 0 rs.length).filter fun k => A k && decide ((gx rs k).1 ≤ h)).filter fun k => decide ((gx rs k).2 = z)).length := by
      rw [(hperm.filter _).length_eq, List.filter_map, List.length_map, ← sheetsI_rg, List.filter_filter, List.filter_filter]
      refine congrArg _ (List.filter_congr fun k _ => ?_)
      show (A k && decide (- -(gx rs k).1 ≤ h) && decide _) = (decide _ && (A k && decide _))
      rw [Int.neg_neg, Bool.and_comm]
    rw [← e2]
    exact Int.ofNat_le.mpr key
  have h3 := len_split (fun k => A k) (fun k => decide ((gx rs k).1 ≤ h)) (rgI 0 rs.length)
  have h4 : spA rs A h = (((rgI 0 rs.length).filter fun k => !A k && decide ((gx rs k).1 ≤ h)).length : Int) := by
    unfold spA
    rw [sum_fil, sum_const, Int.mul_one]
    refine congrArg _ (congrArg _ (List.filter_congr fun k _ => ?_))
    cases A k <;> simp
  have h5 : (((rgI 0 rs.length).filter fun k => decide ((gx rs k).1 ≤ h)).length : Int) = cntM (rs.map Prod.fst) h := by
    rw [← cntM_rows]
    conv => rhs; rw [← rgI_gx (ls := rs)]
    rw [List.filter_map, List.length_map]
    rfl
  omega
/-- what a log that leaves a level sheaf leaves can be met at each sheaf ahead of it -/
theorem log_met {rs : List (Int × Str)} {e w : Int} {d : List (Str × Int)} {ds : List (Int × List Int)} (hw : 1 ≤ w) (hn : 0 < rs.length) (hl : logOk rs w ds) (he : ∀ r ∈ aftL rs ds, r.1 = e) (hd : (d.map Prod.fst).Nodup) (h0 : ∀ z, 0 ≤ dm d z) (hc : ∀ z, dm d z ≤ (cntR (aftL rs ds) z : Int)) :
    trP rs (maxI (rs.map Prod.fst)) e w d = .non := by
  have hln : (aftL rs ds).length = rs.length := aftL_len
  refine enuf_none hw hd h0 (enuf_log hw hl (enuf_lev (by omega) he hc)) ?_ ?_
  · have := tot_le hd hc
    omega
  · have h1 := capS_log (e := e) hw hl
    have h2 : capS ((aftL rs ds).map Prod.fst) e w = ((aftL rs ds).length : Int) := by
      rw [capS_lev fun l hl => by
        obtain ⟨r, hr, rfl⟩ := List.mem_map.mp hl
        exact he r hr, List.length_map]
    omega
end Pf
namespace Pf
open PySem PySem.Spec PyProof.Rows L2
def cT (rs : List (Int × Str)) (v : Int) : Int := ((rgI 0 rs.length).map fun k => if (gx rs k).1 = v then (1 : Int) else 0).sum
def msL (rs : List (Int × Str)) (lo : Int) : Int := (maxI (rs.map Prod.fst) - lo) * (rs.length : Int) + cT rs (maxI (rs.map Prod.fst))
theorem cT_b {rs : List (Int × Str)} {v : Int} : 0 ≤ cT rs v ∧ cT rs v ≤ (rs.length : Int) := by
  refine ⟨sum_nn' fun k _ => by split <;> decide, ?_⟩
  have := sum_le2 (l := rgI 0 rs.length) (f := fun k => if (gx rs k).1 = v then (1 : Int) else 0) (g := fun _ => 1) fun k _ => by split <;> decide
  rw [sum_const, rgI_len] at this
  unfold cT
  omega
theorem msL_b {rs : List (Int × Str)} {lo : Int} (h0 : 0 < rs.length) (hlo : ∀ r ∈ rs, lo ≤ r.1) : 0 ≤ msL rs lo := by
  obtain ⟨r, hr, e⟩ := List.mem_map.mp (maxI_mem (l := rs.map Prod.fst) (by rw [List.length_map]; exact h0))
  have := hlo r hr
  have p : 0 ≤ (maxI (rs.map Prod.fst) - lo) * (rs.length : Int) := Int.mul_nonneg (by omega) (by omega)
  have := cT_b (rs := rs) (v := maxI (rs.map Prod.fst))
  unfold msL
  omega
theorem msL_step {rs : List (Int × Str)} {s t lo : Int} (hs : 0 ≤ s ∧ s < (rs.length : Int)) (ht : 0 ≤ t ∧ t < (rs.length : Int)) (es : (gx rs s).1 = maxI (rs.map Prod.fst)) (et : (gx rs t).1 < maxI (rs.map Prod.fst)) (hlo : ∀ r ∈ rs, lo ≤ r.1) :
    msL (aftR rs s [t]) lo + 1 ≤ msL rs lo ∧ ∀ r ∈ aftR rs s [t], lo ≤ r.1 := by
  have hst : s ≠ t := fun e => by rw [e] at es; omega
  have hwf := wf_one hs ht
  have hlen : (aftR rs s [t]).length = rs.length := aftR_len
  have hget : ∀ j : Int, 0 ≤ j → j < (rs.length : Int) → gx (aftR rs s [t]) j = if j ∈ [s, t] then ((gx rs s).1 - 1, (gx rs s).2) else gx rs j := fun j h0 h1 => aftR_get hwf h0 h1
  have hgt : gx rs t ∈ rs := gx_mem ⟨by omega, ht.2⟩
  have htl := hlo _ hgt
  have hmem : ∀ r ∈ aftR rs s [t], ∃ j : Int, (0 ≤ j ∧ j < (rs.length : Int)) ∧ r = if j ∈ [s, t] then ((gx rs s).1 - 1, (gx rs s).2) else gx rs j := fun r hr => by
    obtain ⟨j, hj⟩ := List.mem_iff_getElem?.mp hr
    have hjl := (List.getElem?_eq_some_iff.mp hj).1
    have := gx_nat hj
    rw [hget _ (by omega) (by omega)] at this
    exact ⟨_, ⟨by omega, by omega⟩, this.symm⟩
  have hle : ∀ r ∈ aftR rs s [t], lo ≤ r.1 ∧ r.1 ≤ maxI (rs.map Prod.fst) := fun r hr => by
    obtain ⟨j, hj, e⟩ := hmem r hr
    by_cases hJ : j ∈ [s, t]
    · rw [if_pos hJ] at e
      rw [e]
      show lo ≤ (gx rs s).1 - 1 ∧ (gx rs s).1 - 1 ≤ _
      omega
    · rw [if_neg hJ] at e
      have hm : gx rs j ∈ rs := gx_mem ⟨by omega, hj.2⟩
      rw [e]
      exact ⟨hlo _ hm, le_maxI (List.mem_map_of_mem hm)⟩
  refine ⟨?_, fun r hr => (hle r hr).1⟩
  have hJn : [s, t].Nodup := List.nodup_cons.mpr ⟨fun h => hst (List.mem_singleton.mp h), List.nodup_cons.mpr ⟨List.not_mem_nil, List.nodup_nil⟩⟩
  have hJi : ∀ i ∈ [s, t], 0 ≤ i ∧ i < (rs.length : Int) := fun i hi => by
    simp only [List.mem_cons, List.not_mem_nil, or_false] at hi
    rcases hi with rfl | rfl
    · exact hs
    · exact ht
  have key := sum_two (n := rs.length) hJn hJi (f := fun k => if (gx (aftR rs s [t]) k).1 = maxI (rs.map Prod.fst) then (1 : Int) else 0) (g := fun k => if (gx rs k).1 = maxI (rs.map Prod.fst) then (1 : Int) else 0) (fun i g0 g1 gj => by
    try dsimp only
    rw [hget i g0 g1, if_neg gj])
  have e1 : ([s, t].map fun k => if (gx rs k).1 = maxI (rs.map Prod.fst) then (1 : Int) else 0).sum = 1 := by
    show (if _ then _ else _) + ((if _ then _ else _) + (0 : Int)) = 1
    rw [if_pos es, if_neg (by omega)]
    rfl
  have e2 : ([s, t].map fun k => if (gx (aftR rs s [t]) k).1 = maxI (rs.map Prod.fst) then (1 : Int) else 0).sum = 0 := by
    show (if _ then _ else _) + ((if _ then _ else _) + (0 : Int)) = 0
    rw [hget s hs.1 hs.2, hget t ht.1 ht.2, if_pos List.mem_cons_self, if_pos (List.mem_cons_of_mem _ List.mem_cons_self)]
    rw [if_neg (by show ¬ (gx rs s).1 - 1 = _; omega)]
    rfl
  rw [e1, e2] at key
  have hmax : maxI ((aftR rs s [t]).map Prod.fst) ≤ maxI (rs.map Prod.fst) := by
    obtain ⟨r, hr, e⟩ := List.mem_map.mp (maxI_mem (l := (aftR rs s [t]).map Prod.fst) (by rw [List.length_map]; omega))
    rw [← e]
    exact (hle r hr).2
  have c1 : cT (aftR rs s [t]) (maxI (rs.map Prod.fst)) + 1 = cT rs (maxI (rs.map Prod.fst)) := by
    unfold cT
    rw [hlen]
    omega
  have b1 := cT_b (rs := aftR rs s [t]) (v := maxI (rs.map Prod.fst))
  have b2 := cT_b (rs := aftR rs s [t]) (v := maxI ((aftR rs s [t]).map Prod.fst))
  unfold msL
  rw [hlen] at b2 ⊢
  by_cases hm : maxI ((aftR rs s [t]).map Prod.fst) = maxI (rs.map Prod.fst)
  · rw [hm]; omega
  · have p : (maxI ((aftR rs s [t]).map Prod.fst) - lo) * (rs.length : Int) ≤ (maxI (rs.map Prod.fst) - lo - 1) * (rs.length : Int) := Int.mul_le_mul_of_nonneg_right (by omega) (by omega)
    rw [Int.sub_mul _ 1, Int.one_mul] at p
    omega
end Pf
namespace Pf
open PySem PySem.Spec PyProof.Rows L2
theorem stsL_len {rs : List (Int × Str)} {ds : List (Int × List Int)} : (stsL rs ds).length = ds.length + 1 := by
  unfold stsL; rw [List.length_map, List.length_range]
theorem gx_sts {rs : List (Int × Str)} {ds : List (Int × List Int)} {k : Int} (h0 : 0 ≤ k) (h1 : k ≤ (ds.length : Int)) : gx (stsL rs ds) k = aftL rs (ds.take k.toNat) := by
  rw [gx_nn h0]
  unfold stsL
  rw [List.getElem?_map, List.getElem?_range (by omega)]
  rfl
theorem gx_stsE {rs : List (Int × Str)} {ds : List (Int × List Int)} : gx (stsL rs ds) (ds.length : Int) = aftL rs ds := by
  rw [gx_sts (by omega) (Int.le_refl _), Int.toNat_natCast, List.take_length]
theorem aftL_app {es : List (Int × List Int)} : ∀ {ds : List (Int × List Int)} {rs : List (Int × Str)}, aftL rs (ds ++ es) = aftL (aftL rs ds) es
  | [], _ => rfl
  | _ :: ds, _ => aftL_app (ds := ds)
theorem aftL_drop {ds : List (Int × List Int)} {rs : List (Int × Str)} (i : Nat) : aftL (aftL rs (ds.take i)) (ds.drop i) = aftL rs ds := by
  rw [← aftL_app, List.take_append_drop]
theorem logOk_drop {w : Int} {ds : List (Int × List Int)} : ∀ {rs : List (Int × Str)} (i : Nat), logOk rs w ds → logOk (aftL rs (ds.take i)) w (ds.drop i) := by
  induction ds with
  | nil => intro rs i h; rw [List.drop_nil]; exact trivial
  | cons d ds ih =>
    intro rs i h
    cases i with
    | zero => exact h
    | succ i => exact ih i h.2
theorem logOk_wf {w : Int} : ∀ {ds : List (Int × List Int)} {rs : List (Int × Str)}, logOk rs w ds → ∀ d ∈ ds, wfB rs.length d.1 d.2 = true
  | [], _, _, d, hd => absurd hd List.not_mem_nil
  | _ :: ds, rs, h, d, hd => by
    rcases List.mem_cons.mp hd with rfl | hd
    · exact (alB_iff.mp h.1).1
    · have := logOk_wf h.2 d hd
      rwa [aftR_len] at this
end Pf
namespace Pf
open PySem PySem.Spec PyProof.Rows L2
theorem aftR_b {rs : List (Int × Str)} {s w lo hi : Int} {ts : List Int} (ha : alB rs s ts w = true) (h : ∀ r ∈ rs, lo ≤ r.1 ∧ r.1 ≤ hi) : ∀ r ∈ aftR rs s ts, lo ≤ r.1 ∧ r.1 ≤ hi := fun r hr => by
  obtain ⟨hwf, _, hlt⟩ := alB_iff.mp ha
  obtain ⟨h1, _, h3⟩ := wfB_iff.mp hwf
  have hs := h3 s List.mem_cons_self
  have hgs := h _ (gx_mem (l := rs) (i := s) ⟨by omega, hs.2⟩)
  obtain ⟨t, ht⟩ := List.exists_mem_of_length_pos h1
  have htb := h3 t (List.mem_cons_of_mem _ ht)
  have hgt := h _ (gx_mem (l := rs) (i := t) ⟨by omega, htb.2⟩)
  have hl := hlt t ht
  obtain ⟨j, hj⟩ := List.mem_iff_getElem?.mp hr
  have hjl := (List.getElem?_eq_some_iff.mp hj).1
  rw [aftR_len] at hjl
  have := gx_nat hj
  rw [aftR_get hwf (by omega) (by omega)] at this
  by_cases hJ : (j : Int) ∈ s :: ts
  · rw [if_pos hJ] at this
    rw [← this]
    show lo ≤ (gx rs s).1 - 1 ∧ (gx rs s).1 - 1 ≤ hi
    omega
  · rw [if_neg hJ] at this
    rw [← this]
    exact h _ (gx_mem ⟨by omega, by omega⟩)
theorem logOk_b {w lo hi : Int} : ∀ {ds : List (Int × List Int)} {rs : List (Int × Str)}, logOk rs w ds → (∀ r ∈ rs, lo ≤ r.1 ∧ r.1 ≤ hi) → ∀ r ∈ aftL rs ds, lo ≤ r.1 ∧ r.1 ≤ hi
  | [], _, _, h => h
  | _ :: ds, _, hl, h => logOk_b (ds := ds) hl.2 (aftR_b hl.1 h)
theorem trP_imp {rs : List (Int × Str)} {t e w : Int} {d : List (Str × Int)} (h : trP rs t e w d = .non) : totI d ≤ (rs.length : Int) ∧ (rs.length : Int) ≤ capSU (rs.map Prod.fst) e rs.length w ∧ ∀ z ∈ d.map Prod.fst, dm d z ≤ capSU ((lvZ rs z).map Prod.fst) e (dm d z) w := by
  unfold trP at h
  by_cases h1 : (rs.length : Int) < totI d
  · rw [if_pos h1] at h; cases h
  rw [if_neg h1] at h
  by_cases h2 : capSU (rs.map Prod.fst) e rs.length w < rs.length
  · rw [if_pos h2] at h; cases h
  rw [if_neg h2] at h
  refine ⟨by omega, by omega, fun z hz => ?_⟩
  have key : ∀ l : List Str, (recL (fun z => capSU ((lvZ rs z).map Prod.fst) e (dm d z) w) d l).getD (hgtL (spareL (rs.map Prod.fst) (asideI rs e w d)) e (rgI e (t - e).toNat)) = .non → ∀ z ∈ l, dm d z ≤ capSU ((lvZ rs z).map Prod.fst) e (dm d z) w := fun l => by
    induction l with
    | nil => intro _ z hz; cases hz
    | cons y l ih =>
      intro h z hz
      rw [recL_cons] at h
      by_cases hy : capSU ((lvZ rs y).map Prod.fst) e (dm d y) w < dm d y
      · rw [if_pos hy] at h; cases h
      · rw [if_neg hy] at h
        rcases List.mem_cons.mp hz with rfl | hz
        · omega
        · exact ih h z hz
  exact key _ h z (sortS_mem.mpr hz)
theorem isNon_f {x : P} (h : x ≠ .non) : isNon x = false := by
  cases x <;> first | rfl | exact absurd rfl h
theorem dm_put {d : List (Str × Int)} {z y : Str} {a : Int} : dm (dput d z a) y = if y = z then a else dm d y := by
  unfold dm
  rw [dget_put]
  split <;> rfl
theorem dm_no {d : List (Str × Int)} {z : Str} (h : z ∉ d.map Prod.fst) : dm d z = 0 := by
  unfold dm
  cases e : dget d z with
  | none => rfl
  | some a => exact absurd (dget_mem.mp (by rw [e]; rfl)) h
theorem sum_one {f g : Str → Int} {z : Str} : ∀ {l : List Str}, l.Nodup → z ∈ l → (∀ y, y ≠ z → f y = g y) → (l.map f).sum = (l.map g).sum + (f z - g z)
  | [], _, h, _ => absurd h List.not_mem_nil
  | y :: l, hn, h, hs => by
    obtain ⟨h1, h2⟩ := List.nodup_cons.mp hn
    rw [List.map_cons, List.sum_cons, List.map_cons, List.sum_cons]
    by_cases hy : y = z
    · subst hy
      rw [List.map_congr_left (g := g) fun x hx => hs x fun e => h1 (e ▸ hx)]
      omega
    · rcases List.mem_cons.mp h with e | h
      · exact absurd e.symm hy
      · rw [sum_one h2 h hs, hs y hy]; omega
theorem totI_put {d : List (Str × Int)} {z : Str} {a : Int} (hn : (d.map Prod.fst).Nodup) : totI (dput d z a) = totI d + a - dm d z := by
  have hn2 := dput_nodup (z := z) (a := a) hn
  have hz : z ∈ (dput d z a).map Prod.fst := dget_mem.mp (by rw [dget_put, if_pos rfl]; rfl)
  have h1 := sum_one (f := dm (dput d z a)) (g := dm d) hn2 hz fun y hy => by rw [dm_put, if_neg hy]
  rw [dm_put, if_pos rfl] at h1
  have h2 : (((dput d z a).map Prod.fst).map (dm d)).sum = totI d := by
    unfold totI
    rw [dput_keys]
    split
    · rfl
    · rename_i hz2
      rw [List.map_append, List.sum_append]
      show _ + (dm d z + 0) = _
      rw [dm_no hz2]
      omega
  unfold totI at h2 ⊢
  omega
theorem sum_keys {rs : List (Int × Str)} : ∀ {l : List Str}, l.Nodup → (∀ r ∈ rs, r.2 ∈ l) → (l.map fun z => (cntR rs z : Int)).sum = (rs.length : Int) := by
  induction rs with
  | nil =>
    intro l _ _
    have : (l.map fun z => (cntR [] z : Int)) = l.map fun _ => (0 : Int) := rfl
    rw [this, sum_const, Int.mul_zero]; rfl
  | cons r rs ih =>
    intro l hn h
    have h1 := ih hn fun q hq => h q (List.mem_cons_of_mem _ hq)
    have h2 := sum_one (f := fun z => (cntR (r :: rs) z : Int)) (g := fun z => (cntR rs z : Int)) hn (h r List.mem_cons_self) fun y hy => by
      unfold cntR
      rw [List.filter_cons_of_neg (by simpa using fun e => hy e.symm)]
    have h3 : cntR (r :: rs) r.2 = cntR rs r.2 + 1 := by
      unfold cntR
      rw [List.filter_cons_of_pos (by simp), List.length_cons]
    rw [List.length_cons]
    omega
theorem dm_shD' {rs : List (Int × Str)} {z : Str} : dm (shD rs) z = (cntR rs z : Int) := dm_shD
theorem totI_sh {rs : List (Int × Str)} : totI (shD rs) = (rs.length : Int) := by
  have := sum_keys (rs := rs) (shD_nodup rs) fun r hr => shD_mem.mpr (List.mem_map_of_mem hr)
  rw [← this]
  unfold totI
  exact congrArg _ (List.map_congr_left fun z _ => dm_shD')
/-- demands that can be handed in -/
structure DG (d : List (Str × Int)) (m : Nat) (b : Int) : Prop where
  ln : d.length ≤ m
  nd : (d.map Prod.fst).Nodup
  sk : ∀ z ∈ d.map Prod.fst, SOk z
  b : ∀ z, 0 ≤ dm d z ∧ dm d z ≤ b
theorem DG.put {d : List (Str × Int)} {m : Nat} {b a c : Int} {z : Str} (h : DG d m b) (hz : SOk z) (ha : 0 ≤ a ∧ a ≤ c) (hb : b ≤ c) : DG (dput d z a) (m + 1) c where
  ln := Nat.le_trans dput_len (Nat.succ_le_succ h.ln)
  nd := dput_nodup h.nd
  sk := fun y hy => by
    have h1 := dget_mem.mpr hy
    rw [dget_put] at h1
    by_cases e : y = z
    · rw [e]; exact hz
    · rw [if_neg e] at h1
      exact h.sk y (dget_mem.mp h1)
  b := fun y => by
    rw [dm_put]
    have := h.b y
    split <;> omega
theorem DG.sh {rs : List (Int × Str)} {m : Nat} (hm : rs.length ≤ m) (hr : ∀ r ∈ rs, isRec r.2 = true) : DG (shD rs) m (m : Int) where
  ln := Nat.le_trans shD_len hm
  nd := shD_nodup rs
  sk := fun z hz => by
    obtain ⟨r, hr2, rfl⟩ := List.mem_map.mp (shD_mem.mp hz)
    exact rec_sok (hr r hr2)
  b := fun z => by
    rw [dm_shD']
    have := cntR_le (rs := rs) (z := z)
    omega
theorem DG.nil {m : Nat} {b : Int} (hb : 0 ≤ b) : DG [] m b := ⟨Nat.zero_le _, List.nodup_nil, fun z h => absurd h List.not_mem_nil, fun z => ⟨Int.le_refl _, hb⟩⟩
end Pf
namespace Pf
open PySem PySem.Spec PyProof.Rows L2
theorem aftR_p {rs : List (Int × Str)} {s w : Int} {ts : List Int} {p : Str → Prop} (ha : alB rs s ts w = true) (h : ∀ r ∈ rs, p r.2) : ∀ r ∈ aftR rs s ts, p r.2 := fun r hr => by
  obtain ⟨hwf, _, hlt⟩ := alB_iff.mp ha
  obtain ⟨h1, _, h3⟩ := wfB_iff.mp hwf
  have hs := h3 s List.mem_cons_self
  have hgs := h _ (gx_mem (l := rs) (i := s) ⟨by omega, hs.2⟩)
  obtain ⟨j, hj⟩ := List.mem_iff_getElem?.mp hr
  have hjl := (List.getElem?_eq_some_iff.mp hj).1
  rw [aftR_len] at hjl
  have := gx_nat hj
  rw [aftR_get hwf (by omega) (by omega)] at this
  by_cases hJ : (j : Int) ∈ s :: ts
  · rw [if_pos hJ] at this
    rw [← this]
    exact hgs
  · rw [if_neg hJ] at this
    rw [← this]
    exact h _ (gx_mem ⟨by omega, by omega⟩)
theorem logOk_p {w : Int} {p : Str → Prop} : ∀ {ds : List (Int × List Int)} {rs : List (Int × Str)}, logOk rs w ds → (∀ r ∈ rs, p r.2) → ∀ r ∈ aftL rs ds, p r.2
  | [], _, _, h => h
  | _ :: ds, _, hl, h => logOk_p (ds := ds) hl.2 (aftR_p hl.1 h)
theorem lvZ_none {rs : List (Int × Str)} {z : Str} (h : z ∉ rs.map Prod.snd) : lvZ rs z = [] := by
  unfold lvZ
  exact List.filter_eq_nil_iff.mpr fun r hr q => h (by rw [← of_decide_eq_true q]; exact List.mem_map_of_mem hr)
theorem capSU_lo {ls : List Int} {e m w : Int} (hm : 0 ≤ m) (h : ∀ l ∈ ls, l < e) : capSU ls e m w = 0 := by
  unfold capSU
  rw [List.map_congr_left (g := fun _ => (0 : Int)) fun l hl => capU_lo hm (h l hl), sum_const, Int.mul_zero]
theorem ShtR_none {zs : List Str} {n : Nat} (hn : zs.Nodup) (hl : n < zs.length) : gx zs (n : Int) ∉ zs.take n := nodup_take hn hl
end Pf

namespace Pf
open PySem PySem.Spec PyProof.Rows L2 L2H L2N
/-- the clauses, each with a name, and what they wish of an exception of the body -/
inductive NmHs (X : Cx) : List ExceptHandler → (WX → Ends → WX) → Prop
  | nil : NmHs X [] (fun W _ => W)
  | cons {x m : Str} {k : Value} {i : Nat} {ts : Addr → Obj → Value → Option Addr → List (Addr × Obj) → TS} {b : Stmt} {bs : List Stmt} {p1 p2 : Pos} {l : List ExceptHandler} {w : WX → Ends → WX}
      (hN : X.N.Nodup) (hi : X.N[i]? = some m) (hm : X.env.kindOf m = some .local) (hc : Names X x k)
      (su : ∀ (a : Addr) (oe : Obj) (cls : Value) (d : Option Addr) (pn : List (Addr × Obj)), L2N.Zn cls d oe → (∃ vs, oe.data = .fields vs) → PSs (X.suite a ((a, oe) :: pn)) (b :: bs) (ts a oe cls d pn))
      (r : NmHs X l w) :
      NmHs X (.ExceptHandler (some (.Name x p1)) (some m) (b :: bs) p2 :: l) (fun W D => wAs X.K k i (fun a cls d D σ H => ∀ oe pn, ts a oe cls d pn D σ H) (w W D) D)
section
variable {X : Cx} {hd : ExceptHandler} {tl : List ExceptHandler} {w : WX → Ends → WX} {body : List Stmt} {pos : Pos} {tb : WX → List (Addr × Obj) → (Value → Shared → Prop) → TS} {Wout : WX}
end
/-- the same, where the context is not asked -/
inductive NmHc (X : Cx) : List ExceptHandler → (WX → Ends → WX) → Prop
  | nil : NmHc X [] (fun W _ => W)
  | cons {x m : Str} {k : Value} {i : Nat} {ts : Addr → Obj → Value → Option Addr → List (Addr × Obj) → TS} {b : Stmt} {bs : List Stmt} {p1 p2 : Pos} {l : List ExceptHandler} {w : WX → Ends → WX}
      (hN : X.N.Nodup) (hi : X.N[i]? = some m) (hm : X.env.kindOf m = some .local) (hc : Names X x k)
      (su : ∀ (a : Addr) (oe : Obj) (cls : Value) (d : Option Addr) (pn : List (Addr × Obj)), Zc cls d oe → (∃ vs, oe.data = .fields vs) → PSs (X.suite a ((a, oe) :: pn)) (b :: bs) (ts a oe cls d pn))
      (r : NmHc X l w) :
      NmHc X (.ExceptHandler (some (.Name x p1)) (some m) (b :: bs) p2 :: l) (fun W D => wAs X.K k i (fun a cls d D σ H => ∀ oe pn, ts a oe cls d pn D σ H) (w W D) D)
section
variable {X : Cx} {hd : ExceptHandler} {tl : List ExceptHandler} {w : WX → Ends → WX} {body : List Stmt} {pos : Pos} {tb : WX → List (Addr × Obj) → (Value → Shared → Prop) → TS} {Wout : WX}
end
section
variable {K : PySem.W.Frag} {ro : Bool}
end
end Pf

namespace Pf
open PySem PySem.Spec PyProof.Rows L2
end Pf
namespace Pf
open PySem PySem.Spec PyProof.Rows L2
end Pf
namespace Pf
open PySem PySem.Spec PyProof.Rows L2
abbrev obP (o : Str × Bool × Bool) : P := .tup [.str o.1, .bl o.2.1, .bl o.2.2]
end Pf
namespace Pf
open PySem PySem.Spec PyProof.Rows L2
theorem obP_inj {a b : Str × Bool × Bool} (h : obP a = obP b) : a = b := by
  obtain ⟨x, y, z⟩ := a
  obtain ⟨x', y', z'⟩ := b
  cases h
  rfl
theorem ob_inj {a b : List (Str × Bool × Bool)} : (List.map obP a = List.map obP b) = (a = b) := propext (List.map_inj_right fun x y e => obP_inj e)
end Pf


--@@PURE
namespace Pf
open PySem PySem.Spec PyProof.Rows L2
theorem fl_0 : ((0 : Nat) < 1000) = True := eq_true (by decide)
theorem fl_1 : ((0 + 1 : Nat) < 1000) = True := eq_true (by decide)
theorem fl_2 : ((0 + 1 + 1 : Nat) < 1000) = True := eq_true (by decide)
theorem fl_3 : ((0 + 1 + 1 + 1 : Nat) < 1000) = True := eq_true (by decide)
theorem fl_4 : ((0 + 1 + 1 + 1 + 1 : Nat) < 1000) = True := eq_true (by decide)
theorem fl_5 : ((0 + 1 + 1 + 1 + 1 + 1 : Nat) < 1000) = True := eq_true (by decide)
theorem fl_6 : ((0 + 1 + 1 + 1 + 1 + 1 + 1 : Nat) < 1000) = True := eq_true (by decide)
theorem fl_7 : ((0 + 1 + 1 + 1 + 1 + 1 + 1 + 1 : Nat) < 1000) = True := eq_true (by decide)
theorem fl_8 : ((0 + 1 + 1 + 1 + 1 + 1 + 1 + 1 + 1 : Nat) < 1000) = True := eq_true (by decide)
theorem fl_9 : ((0 + 1 + 1 + 1 + 1 + 1 + 1 + 1 + 1 + 1 : Nat) < 1000) = True := eq_true (by decide)
theorem fl_10 : ((0 + 1 + 1 + 1 + 1 + 1 + 1 + 1 + 1 + 1 + 1 : Nat) < 1000) = True := eq_true (by decide)
theorem fl_11 : ((0 + 1 + 1 + 1 + 1 + 1 + 1 + 1 + 1 + 1 + 1 + 1 : Nat) < 1000) = True := eq_true (by decide)
theorem fl_12 : ((0 + 1 + 1 + 1 + 1 + 1 + 1 + 1 + 1 + 1 + 1 + 1 + 1 : Nat) < 1000) = True := eq_true (by decide)
theorem flr_1 : ((1 : Nat) < 1000) = True := eq_true (by decide)
theorem flr_2 : ((2 : Nat) < 1000) = True := eq_true (by decide)
theorem flr_3 : ((3 : Nat) < 1000) = True := eq_true (by decide)
theorem flr_4 : ((4 : Nat) < 1000) = True := eq_true (by decide)
theorem flr_5 : ((5 : Nat) < 1000) = True := eq_true (by decide)
theorem flr_6 : ((6 : Nat) < 1000) = True := eq_true (by decide)
theorem flr_7 : ((7 : Nat) < 1000) = True := eq_true (by decide)
theorem flr_8 : ((8 : Nat) < 1000) = True := eq_true (by decide)
theorem flr_9 : ((9 : Nat) < 1000) = True := eq_true (by decide)
theorem flr_10 : ((10 : Nat) < 1000) = True := eq_true (by decide)
theorem flr_11 : ((11 : Nat) < 1000) = True := eq_true (by decide)
theorem flr_12 : ((12 : Nat) < 1000) = True := eq_true (by decide)
theorem pn_Sheaf_0 : (putN [] "_rows") = (["_rows"] : List Str) := rfl
theorem px_Sheaf_0 {y : P} : (putX [] [] "_rows" y) = [y] := rfl

theorem lk_Sheaf_1_0 {x0 : P} : (lookN ["_rows"] [x0] "_rows") = some x0 := rfl
theorem pn_Sheaf_1_0 : (putN ["_rows"] "_rows") = (["_rows"] : List Str) := rfl
theorem px_Sheaf_1_0 {x0 : P} {y : P} : (putX ["_rows"] [x0] "_rows" y) = [y] := rfl
theorem pn_Sheaf_1 : (putN ["_rows"] "_top") = (["_rows", "_top"] : List Str) := rfl
theorem px_Sheaf_1 {x0 : P} {y : P} : (putX ["_rows"] [x0] "_top" y) = [x0, y] := rfl

theorem lk_Sheaf_2_0 {x0 x1 : P} : (lookN ["_rows", "_top"] [x0, x1] "_rows") = some x0 := rfl
theorem pn_Sheaf_2_0 : (putN ["_rows", "_top"] "_rows") = (["_rows", "_top"] : List Str) := rfl
theorem px_Sheaf_2_0 {x0 x1 : P} {y : P} : (putX ["_rows", "_top"] [x0, x1] "_rows" y) = [y, x1] := rfl
theorem lk_Sheaf_2_1 {x0 x1 : P} : (lookN ["_rows", "_top"] [x0, x1] "_top") = some x1 := rfl
theorem pn_Sheaf_2_1 : (putN ["_rows", "_top"] "_top") = (["_rows", "_top"] : List Str) := rfl
theorem px_Sheaf_2_1 {x0 x1 : P} {y : P} : (putX ["_rows", "_top"] [x0, x1] "_top" y) = [x0, y] := rfl
theorem pn_Sheaf_2 : (putN ["_rows", "_top"] "_bottom") = (["_rows", "_top", "_bottom"] : List Str) := rfl
theorem px_Sheaf_2 {x0 x1 : P} {y : P} : (putX ["_rows", "_top"] [x0, x1] "_bottom" y) = [x0, x1, y] := rfl

theorem lk_Sheaf_3_0 {x0 x1 x2 : P} : (lookN ["_rows", "_top", "_bottom"] [x0, x1, x2] "_rows") = some x0 := rfl
theorem pn_Sheaf_3_0 : (putN ["_rows", "_top", "_bottom"] "_rows") = (["_rows", "_top", "_bottom"] : List Str) := rfl
theorem px_Sheaf_3_0 {x0 x1 x2 : P} {y : P} : (putX ["_rows", "_top", "_bottom"] [x0, x1, x2] "_rows" y) = [y, x1, x2] := rfl
theorem lk_Sheaf_3_1 {x0 x1 x2 : P} : (lookN ["_rows", "_top", "_bottom"] [x0, x1, x2] "_top") = some x1 := rfl
theorem pn_Sheaf_3_1 : (putN ["_rows", "_top", "_bottom"] "_top") = (["_rows", "_top", "_bottom"] : List Str) := rfl
theorem px_Sheaf_3_1 {x0 x1 x2 : P} {y : P} : (putX ["_rows", "_top", "_bottom"] [x0, x1, x2] "_top" y) = [x0, y, x2] := rfl
theorem lk_Sheaf_3_2 {x0 x1 x2 : P} : (lookN ["_rows", "_top", "_bottom"] [x0, x1, x2] "_bottom") = some x2 := rfl
theorem pn_Sheaf_3_2 : (putN ["_rows", "_top", "_bottom"] "_bottom") = (["_rows", "_top", "_bottom"] : List Str) := rfl
theorem px_Sheaf_3_2 {x0 x1 x2 : P} {y : P} : (putX ["_rows", "_top", "_bottom"] [x0, x1, x2] "_bottom" y) = [x0, x1, y] := rfl

theorem nm_Sheaf___len__ : (("__len__" : Str) ∈ (["_rows", "_top", "_bottom"] : List Str)) = False := eq_false (by decide)
theorem nm_Sheaf___iter__ : (("__iter__" : Str) ∈ (["_rows", "_top", "_bottom"] : List Str)) = False := eq_false (by decide)
theorem nm_Sheaf___eq__ : (("__eq__" : Str) ∈ (["_rows", "_top", "_bottom"] : List Str)) = False := eq_false (by decide)
theorem nm_Sheaf_top : (("top" : Str) ∈ (["_rows", "_top", "_bottom"] : List Str)) = False := eq_false (by decide)
theorem nm_Sheaf_rows : (("rows" : Str) ∈ (["_rows", "_top", "_bottom"] : List Str)) = False := eq_false (by decide)
theorem nm_Sheaf_sharpness_of : (("sharpness_of" : Str) ∈ (["_rows", "_top", "_bottom"] : List Str)) = False := eq_false (by decide)
theorem nm_Sheaf_sheets_of : (("sheets_of" : Str) ∈ (["_rows", "_top", "_bottom"] : List Str)) = False := eq_false (by decide)
local macro_rules | `(tactic| walk_at "pl") => `(tactic| simp only [ap_seq, ap_nx, ap_av, ap_ao, ap_ret, ap_brk, ap_do, ap_ifs, ap_app, ap_ext, ap_set, ap_dput, ap_v, ap_c, ap_k, ap_op, ap_un, ap_t, ap_tr, ap_andV, ap_and, ap_or, ap_not, ap_chain, ap_nil, ap_cons, ap_tup, ap_lst, ap_cb, ap_call0, ap_callX, ap_dget, ap_dnew, ap_lrg, ap_rg1, ap_ono, ap_oso, ap_sl, ap_bm, ap_fI, ap_fB, ap_fIc, ap_fAddS, ap_fIxL, ap_fIxT, ap_fIxS, ap_fIxScr, ap_fCat, ap_fRep, ap_fEqD, ap_fIsN, ap_fSlL, ap_fSlS, ap_eq_i, ap_eq_s, ap_eq_b, ap_onInt, ap_onB, ap_onLst, ap_onTup, ap_onStr, ap_onDct, ap_onKeyI, ap_onKeyS, ap_fInL, ap_fInT, ap_lenL, ap_lenT, ap_lenC, ap_lenS, ap_intI, ap_intB, ap_listL, ap_listT, ap_tupL, ap_mm, ap_strip, ap_wgN, ap_wgT, ap_wgLen, ap_wgNil, ap_wgCons, ap_wIL, ap_wILv, ap_wIR1, ap_wIR2, ap_wIE, ap_isa_NoneType_bool, ap_isa_NoneType_int, ap_isa_NoneType_str, ap_isa_NoneType_list, ap_isa_NoneType_tuple, ap_isa_NoneType_dict, ap_isa_bool_bool, ap_isa_bool_int, ap_isa_bool_str, ap_isa_bool_list, ap_isa_bool_tuple, ap_isa_bool_dict, ap_isa_int_bool, ap_isa_int_int, ap_isa_int_str, ap_isa_int_list, ap_isa_int_tuple, ap_isa_int_dict, ap_isa_str_bool, ap_isa_str_int, ap_isa_str_str, ap_isa_str_list, ap_isa_str_tuple, ap_isa_str_dict, ap_isa_list_bool, ap_isa_list_int, ap_isa_list_str, ap_isa_list_list, ap_isa_list_tuple, ap_isa_list_dict, ap_isa_tuple_bool, ap_isa_tuple_int, ap_isa_tuple_str, ap_isa_tuple_list, ap_isa_tuple_tuple, ap_isa_tuple_dict, ap_isa_dict_bool, ap_isa_dict_int, ap_isa_dict_str, ap_isa_dict_list, ap_isa_dict_tuple, ap_isa_dict_dict, ap_isNon_NoneType, ap_tyN_NoneType, ap_isNon_bool, ap_tyN_bool, ap_isNon_int, ap_tyN_int, ap_isNon_str, ap_tyN_str, ap_isNon_list, ap_tyN_list, ap_isNon_tuple, ap_tyN_tuple, ap_isNon_dict, ap_tyN_dict, ap_for, ap_lc, ap_tystr, ap_tylist, ownL, ownD, endsP, startP, List.zipWith_cons_cons, List.zipWith_nil_left, List.zipWith_nil_right, List.length_cons, List.length_nil, List.replicate, List.getElem?_cons_zero, List.getElem?_cons_succ, List.cons_append, List.nil_append, List.set_cons_zero, List.set_cons_succ, wipeP, scB, decide_eq_true_eq, Bool.not_eq_true', Bool.not_eq_eq_eq_not, Bool.not_true, Bool.not_false, if_true, if_false, true_and, and_true, reduceIte, reduceCtorEq, wFrz, Bool.true_eq_false, Bool.false_eq_true, decide_eq_false_iff_not, Int.toNat_natCast, List.length_map, Nat.reduceAdd, Nat.reduceSub, ap_aug, ap_callN0, ap_callNX, ap_callDX, ap_xfE, ap_lkh, ap_some, ap_fldR, pn_Sheaf_0, px_Sheaf_0, lk_Sheaf_1_0, pn_Sheaf_1_0, px_Sheaf_1_0, pn_Sheaf_1, px_Sheaf_1, lk_Sheaf_2_0, pn_Sheaf_2_0, px_Sheaf_2_0, lk_Sheaf_2_1, pn_Sheaf_2_1, px_Sheaf_2_1, pn_Sheaf_2, px_Sheaf_2, lk_Sheaf_3_0, pn_Sheaf_3_0, px_Sheaf_3_0, lk_Sheaf_3_1, pn_Sheaf_3_1, px_Sheaf_3_1, lk_Sheaf_3_2, pn_Sheaf_3_2, px_Sheaf_3_2, nm_Sheaf___len__, nm_Sheaf___iter__, nm_Sheaf___eq__, nm_Sheaf_top, nm_Sheaf_rows, nm_Sheaf_sharpness_of, nm_Sheaf_sheets_of, fl_0, fl_1, fl_2, fl_3, fl_4, fl_5, fl_6, fl_7, fl_8, fl_9, fl_10, fl_11, fl_12, flr_1, flr_2, flr_3, flr_4, flr_5, flr_6, flr_7, flr_8, flr_9, flr_10, flr_11, flr_12, ap_fldS, ap_prop, ap_meth, ap_insI, ap_insS, ap_selfO, ap_raise, ap_try, ap_xf, ap_isD, ap_lenO, ap_eqO, ap_isO, ap_iown, ap_dget2, ap_onT_b, ap_onT_n, ap_onT_i, ap_onT_s, ap_onT_l, ap_onT_t, initP, endsI, ne_eq, not_false_eq_true, not_true_eq_false])
local macro_rules | `(tactic| walk_at "pq") => `(tactic| simp (config := {maxSteps := 400000}) only [ap_seq, ap_nx, ap_av, ap_ao, ap_ret, ap_brk, ap_do, ap_ifs, ap_app, ap_ext, ap_set, ap_dput, ap_v, ap_c, ap_k, ap_op, ap_un, ap_t, ap_tr, ap_andV, ap_and, ap_or, ap_not, ap_chain, ap_nil, ap_cons, ap_tup, ap_lst, ap_cb, ap_call0, ap_callX, ap_dget, ap_dnew, ap_lrg, ap_rg1, ap_ono, ap_oso, ap_sl, ap_bm, ap_fI, ap_fB, ap_fIc, ap_fAddS, ap_fIxL, ap_fIxT, ap_fIxS, ap_fIxScr, ap_fCat, ap_fRep, ap_fEqD, ap_fIsN, ap_fSlL, ap_fSlS, ap_eq_i, ap_eq_s, ap_eq_b, ap_onInt, ap_onB, ap_onLst, ap_onTup, ap_onStr, ap_onDct, ap_onKeyI, ap_onKeyS, ap_fInL, ap_fInT, ap_lenL, ap_lenT, ap_lenC, ap_lenS, ap_intI, ap_intB, ap_listL, ap_listT, ap_tupL, ap_mm, ap_strip, ap_wgN, ap_wgT, ap_wgLen, ap_wgNil, ap_wgCons, ap_wIL, ap_wILv, ap_wIR1, ap_wIR2, ap_wIE, ap_isa_NoneType_bool, ap_isa_NoneType_int, ap_isa_NoneType_str, ap_isa_NoneType_list, ap_isa_NoneType_tuple, ap_isa_NoneType_dict, ap_isa_bool_bool, ap_isa_bool_int, ap_isa_bool_str, ap_isa_bool_list, ap_isa_bool_tuple, ap_isa_bool_dict, ap_isa_int_bool, ap_isa_int_int, ap_isa_int_str, ap_isa_int_list, ap_isa_int_tuple, ap_isa_int_dict, ap_isa_str_bool, ap_isa_str_int, ap_isa_str_str, ap_isa_str_list, ap_isa_str_tuple, ap_isa_str_dict, ap_isa_list_bool, ap_isa_list_int, ap_isa_list_str, ap_isa_list_list, ap_isa_list_tuple, ap_isa_list_dict, ap_isa_tuple_bool, ap_isa_tuple_int, ap_isa_tuple_str, ap_isa_tuple_list, ap_isa_tuple_tuple, ap_isa_tuple_dict, ap_isa_dict_bool, ap_isa_dict_int, ap_isa_dict_str, ap_isa_dict_list, ap_isa_dict_tuple, ap_isa_dict_dict, ap_isNon_NoneType, ap_tyN_NoneType, ap_isNon_bool, ap_tyN_bool, ap_isNon_int, ap_tyN_int, ap_isNon_str, ap_tyN_str, ap_isNon_list, ap_tyN_list, ap_isNon_tuple, ap_tyN_tuple, ap_isNon_dict, ap_tyN_dict, ap_for, ap_lc, ap_tystr, ap_tylist, ownL, ownD, endsP, startP, List.zipWith_cons_cons, List.zipWith_nil_left, List.zipWith_nil_right, List.length_cons, List.length_nil, List.replicate, List.getElem?_cons_zero, List.getElem?_cons_succ, List.cons_append, List.nil_append, List.set_cons_zero, List.set_cons_succ, wipeP, scB, decide_eq_true_eq, Bool.not_eq_true', Bool.not_eq_eq_eq_not, Bool.not_true, Bool.not_false, if_true, if_false, true_and, and_true, reduceIte, reduceCtorEq, wFrz, Bool.true_eq_false, Bool.false_eq_true, decide_eq_false_iff_not, Int.toNat_natCast, List.length_map, Nat.reduceAdd, Nat.reduceSub, ap_aug, ap_callN0, ap_callNX, ap_callDX, ap_xfE, ap_lkh, ap_some, ap_fldR, pn_Sheaf_0, px_Sheaf_0, lk_Sheaf_1_0, pn_Sheaf_1_0, px_Sheaf_1_0, pn_Sheaf_1, px_Sheaf_1, lk_Sheaf_2_0, pn_Sheaf_2_0, px_Sheaf_2_0, lk_Sheaf_2_1, pn_Sheaf_2_1, px_Sheaf_2_1, pn_Sheaf_2, px_Sheaf_2, lk_Sheaf_3_0, pn_Sheaf_3_0, px_Sheaf_3_0, lk_Sheaf_3_1, pn_Sheaf_3_1, px_Sheaf_3_1, lk_Sheaf_3_2, pn_Sheaf_3_2, px_Sheaf_3_2, nm_Sheaf___len__, nm_Sheaf___iter__, nm_Sheaf___eq__, nm_Sheaf_top, nm_Sheaf_rows, nm_Sheaf_sharpness_of, nm_Sheaf_sheets_of, fl_0, fl_1, fl_2, fl_3, fl_4, fl_5, fl_6, fl_7, fl_8, fl_9, fl_10, fl_11, fl_12, flr_1, flr_2, flr_3, flr_4, flr_5, flr_6, flr_7, flr_8, flr_9, flr_10, flr_11, flr_12, ap_fldS, ap_prop, ap_meth, ap_insI, ap_insS, ap_selfO, ap_raise, ap_try, ap_xf, ap_isD, ap_lenO, ap_eqO, ap_isO, ap_iown, ap_dget2, ap_onT_b, ap_onT_n, ap_onT_i, ap_onT_s, ap_onT_l, ap_onT_t, initP, endsI, ne_eq, not_false_eq_true, not_true_eq_false, Option.some.injEq, P.int.injEq, P.str.injEq, exists_eq_left', Int.reduceLT, Int.reduceLE, Int.reduceAdd, Int.reduceSub, Int.reduceMul, Int.reduceNeg, Nat.reduceLeDiff, sle, at0, at1, at2, at3, at4, at5, atL, *])
local macro_rules | `(tactic| walk_at "w") => `(tactic| simp (config := {maxSteps := 400000, implicitDefEqProofs := false}) only [ap_seq, ap_nx, ap_av, ap_ao, ap_ret, ap_brk, ap_do, ap_ifs, ap_app, ap_ext, ap_set, ap_dput, ap_v, ap_c, ap_k, ap_op, ap_un, ap_t, ap_tr, ap_andV, ap_and, ap_or, ap_not, ap_chain, ap_nil, ap_cons, ap_tup, ap_lst, ap_cb, ap_dget, ap_dnew, ap_lrg, ap_rg1, ap_ono, ap_oso, ap_sl, ap_bm, ap_fI, ap_fB, ap_fIc, ap_fAddS, ap_fIxL, ap_fIxT, ap_fIxS, ap_fCat, ap_fRep, ap_fIsN, ap_fSlL, ap_fSlS, ap_eq_i, ap_eq_s, ap_eq_b, ap_onInt, ap_onB, ap_onLst, ap_onTup, ap_onStr, ap_onDct, ap_onKeyI, ap_onKeyS, ap_lenL, ap_lenT, ap_lenC, ap_lenS, ap_intI, ap_intB, ap_listL, ap_listT, ap_tupL, ap_mm, ap_strip, ap_wgN, ap_wgT, ap_wgLen, ap_wgNil, ap_wgCons, ap_wIL, ap_wILv, ap_wIR1, ap_wIR2, ap_wIE, ap_isa_NoneType_bool, ap_isa_NoneType_int, ap_isa_NoneType_str, ap_isa_NoneType_list, ap_isa_NoneType_tuple, ap_isa_NoneType_dict, ap_isa_bool_bool, ap_isa_bool_int, ap_isa_bool_str, ap_isa_bool_list, ap_isa_bool_tuple, ap_isa_bool_dict, ap_isa_int_bool, ap_isa_int_int, ap_isa_int_str, ap_isa_int_list, ap_isa_int_tuple, ap_isa_int_dict, ap_isa_str_bool, ap_isa_str_int, ap_isa_str_str, ap_isa_str_list, ap_isa_str_tuple, ap_isa_str_dict, ap_isa_list_bool, ap_isa_list_int, ap_isa_list_str, ap_isa_list_list, ap_isa_list_tuple, ap_isa_list_dict, ap_isa_tuple_bool, ap_isa_tuple_int, ap_isa_tuple_str, ap_isa_tuple_list, ap_isa_tuple_tuple, ap_isa_tuple_dict, ap_isa_dict_bool, ap_isa_dict_int, ap_isa_dict_str, ap_isa_dict_list, ap_isa_dict_tuple, ap_isa_dict_dict, ap_isNon_NoneType, ap_tyN_NoneType, ap_isNon_bool, ap_tyN_bool, ap_isNon_int, ap_tyN_int, ap_isNon_str, ap_tyN_str, ap_isNon_list, ap_tyN_list, ap_isNon_tuple, ap_tyN_tuple, ap_isNon_dict, ap_tyN_dict, ap_for, ap_lc, ap_tystr, ap_tylist, ownL, ownD, endsP, startP, List.zipWith_cons_cons, List.zipWith_nil_left, List.zipWith_nil_right, List.length_cons, List.length_nil, List.replicate, List.getElem?_cons_zero, List.getElem?_cons_succ, List.cons_append, List.nil_append, List.set_cons_zero, List.set_cons_succ, wipeP, scB, decide_eq_true_eq, Bool.not_eq_true', Bool.not_eq_eq_eq_not, Bool.not_true, Bool.not_false, if_true, if_false, true_and, and_true, reduceIte, reduceCtorEq, wFrz, Bool.true_eq_false, Bool.false_eq_true, decide_eq_false_iff_not, Int.toNat_natCast, List.length_map, Nat.reduceAdd, Nat.reduceSub, ap_aug, ap_xfE, ap_lkh, ap_some, ap_fldR, pn_Sheaf_0, px_Sheaf_0, lk_Sheaf_1_0, pn_Sheaf_1_0, px_Sheaf_1_0, pn_Sheaf_1, px_Sheaf_1, lk_Sheaf_2_0, pn_Sheaf_2_0, px_Sheaf_2_0, lk_Sheaf_2_1, pn_Sheaf_2_1, px_Sheaf_2_1, pn_Sheaf_2, px_Sheaf_2, lk_Sheaf_3_0, pn_Sheaf_3_0, px_Sheaf_3_0, lk_Sheaf_3_1, pn_Sheaf_3_1, px_Sheaf_3_1, lk_Sheaf_3_2, pn_Sheaf_3_2, px_Sheaf_3_2, nm_Sheaf___len__, nm_Sheaf___iter__, nm_Sheaf___eq__, nm_Sheaf_top, nm_Sheaf_rows, nm_Sheaf_sharpness_of, nm_Sheaf_sheets_of, fl_0, fl_1, fl_2, fl_3, fl_4, fl_5, fl_6, fl_7, fl_8, fl_9, fl_10, fl_11, fl_12, flr_1, flr_2, flr_3, flr_4, flr_5, flr_6, flr_7, flr_8, flr_9, flr_10, flr_11, flr_12, ap_fldS, ap_insI, ap_insS, ap_selfO, ap_raise, ap_try, ap_xf, ap_isD, ap_isO, ap_iown, ap_dget2, ap_onT_b, ap_onT_n, ap_onT_i, ap_onT_s, ap_onT_l, ap_onT_t, initP, endsI, ne_eq, not_false_eq_true, not_true_eq_false, aq_call0, aq_callX, aq_callN0, aq_callNX, aq_callDX, aq_prop, aq_meth, aq_lenO, aq_eqO, aq_fIxScr, aq_fMax, aq_fMin, aq_fSum, aq_fSortI, aq_fEqD, aq_fInL, aq_fInT, aq_fInL0, ap_p, ap_ixN, ixOk, map_emp, any_nil, any_cons, gx_last, rng_len, enumP_len, List.length_append, List.length_set, List.length_reverse, List.length_singleton, and_assoc, List.cons.injEq, Prod.mk.injEq, P.lst.injEq, P.tup.injEq, P.dct.injEq, int_inj, str_inj, row_inj, bl_inj, ii_inj, dd_inj, exists_and_left, exists_eq, exists_eq', exists_eq_right, exists_eq_right', noX_f, noX'_f, ite_self, if_false_right, Option.some.injEq, P.int.injEq, P.str.injEq, P.bl.injEq, exists_eq_left, exists_eq_left', Int.reduceLT, Int.reduceLE, Int.reduceAdd, Int.reduceSub, Int.reduceMul, Int.reduceNeg, Int.reduceEq, Int.reduceNe, Nat.reduceLeDiff, Nat.zero_add, Nat.reduceMul, Nat.reduceEqDiff, Nat.reduceLT, Int.cast_ofNat_Int, decide_true, decide_false, Bool.true_and, Bool.false_and, Bool.and_true, Bool.and_false, Bool.true_or, Bool.false_or, Bool.or_true, Bool.or_false, Bool.and_eq_true, Bool.or_eq_true, and_self, Bool.not_eq_true, beq_self_eq_true, bne_self_eq_false, Nat.le_refl, List.isEmpty_nil, List.isEmpty_cons, and_false, false_and, or_false, false_or, or_true, true_or, implies_true, forall_const, rsn_total_reach, rsn_total_record, rsn_total_height, rsn_reach_total, rsn_reach_record, rsn_reach_height, rsn_record_total, rsn_record_reach, rsn_record_height, rsn_height_total, rsn_height_reach, rsn_height_record, aq_lenSet, ap_disp1, map_eraseIdx', map_dropLast', ap_onTN, ap_onTL, List.isEmpty_map, aq_fDEq, ap_forK, ap_lcK, aq_fSortII, aq_KOk, mo_v, mo_b, adrs_nil, adrs_cons, List.map_id_fun', List.map_id', int_one, str_one, row_one, row_one', dd_one, dd_one1, ii_one, int_app, str_app', row_app, maxI_2, minI_2, maxI_1, minI_1, aq_atI, aq_atS, take_len, cntB_f, cntM_f, aq_dvalI, aq_dgetI, aq_dinI, aq_putI, keyV_d, sok_keys, aq_fSortS, aq_fSortDI, fil_f, List.append_nil, Nat.add_zero, aq_retO0, aq_retO1, aq_retO2, aq_retO3, aq_retO4, aq_retO5, aq_retO6, aq_retO7, aq_retO8, ap_ieo, map_rev, eq_self, cut_map, rng_inj, nil_map, aq_at, at0, at1, at2, at3, at4, at5, atL, ap_remI, ap_listD, ap_dictD, gx_0, gx_1, gx_2, gx_3, gx_4, gx_5, gx_6, gx_7, gx_8, gx_9, gx_10, gx_11, gx_12, gx_13, gx_14, gx_15, gx_16, gx_17, gx_18, gx_19, gx_20, gx_21, gx_22, gx_23, gx_24, gx_25, gx_26, gx_27, gx_28, gx_29, gx_30, gx_31, gx_32, gx_33, gxm_0, gxm_1, gxm_2, gxm_3, sizeL])
local macro_rules | `(tactic| walk_at "ww") => `(tactic| simp (config := {maxSteps := 400000, implicitDefEqProofs := false}) only [ap_seq, ap_nx, ap_av, ap_ao, ap_ret, ap_brk, ap_do, ap_ifs, ap_app, ap_ext, ap_set, ap_dput, ap_v, ap_c, ap_k, ap_op, ap_un, ap_t, ap_tr, ap_andV, ap_and, ap_or, ap_not, ap_chain, ap_nil, ap_cons, ap_tup, ap_lst, ap_cb, ap_dget, ap_dnew, ap_lrg, ap_rg1, ap_ono, ap_oso, ap_sl, ap_bm, ap_fI, ap_fB, ap_fIc, ap_fAddS, ap_fIxL, ap_fIxT, ap_fIxS, ap_fCat, ap_fRep, ap_fIsN, ap_fSlL, ap_fSlS, ap_eq_i, ap_eq_s, ap_eq_b, ap_onInt, ap_onB, ap_onLst, ap_onTup, ap_onStr, ap_onDct, ap_onKeyI, ap_onKeyS, ap_lenL, ap_lenT, ap_lenC, ap_lenS, ap_intI, ap_intB, ap_listL, ap_listT, ap_tupL, ap_mm, ap_strip, ap_wgN, ap_wgT, ap_wgLen, ap_wgNil, ap_wgCons, ap_wIL, ap_wILv, ap_wIR1, ap_wIR2, ap_wIE, ap_isa_NoneType_bool, ap_isa_NoneType_int, ap_isa_NoneType_str, ap_isa_NoneType_list, ap_isa_NoneType_tuple, ap_isa_NoneType_dict, ap_isa_bool_bool, ap_isa_bool_int, ap_isa_bool_str, ap_isa_bool_list, ap_isa_bool_tuple, ap_isa_bool_dict, ap_isa_int_bool, ap_isa_int_int, ap_isa_int_str, ap_isa_int_list, ap_isa_int_tuple, ap_isa_int_dict, ap_isa_str_bool, ap_isa_str_int, ap_isa_str_str, ap_isa_str_list, ap_isa_str_tuple, ap_isa_str_dict, ap_isa_list_bool, ap_isa_list_int, ap_isa_list_str, ap_isa_list_list, ap_isa_list_tuple, ap_isa_list_dict, ap_isa_tuple_bool, ap_isa_tuple_int, ap_isa_tuple_str, ap_isa_tuple_list, ap_isa_tuple_tuple, ap_isa_tuple_dict, ap_isa_dict_bool, ap_isa_dict_int, ap_isa_dict_str, ap_isa_dict_list, ap_isa_dict_tuple, ap_isa_dict_dict, ap_isNon_NoneType, ap_tyN_NoneType, ap_isNon_bool, ap_tyN_bool, ap_isNon_int, ap_tyN_int, ap_isNon_str, ap_tyN_str, ap_isNon_list, ap_tyN_list, ap_isNon_tuple, ap_tyN_tuple, ap_isNon_dict, ap_tyN_dict, ap_for, ap_lc, ap_tystr, ap_tylist, ownL, ownD, endsP, startP, List.zipWith_cons_cons, List.zipWith_nil_left, List.zipWith_nil_right, List.length_cons, List.length_nil, List.replicate, List.getElem?_cons_zero, List.getElem?_cons_succ, List.cons_append, List.nil_append, List.set_cons_zero, List.set_cons_succ, wipeP, scB, decide_eq_true_eq, Bool.not_eq_true', Bool.not_eq_eq_eq_not, Bool.not_true, Bool.not_false, if_true, if_false, true_and, and_true, reduceIte, reduceCtorEq, wFrz, Bool.true_eq_false, Bool.false_eq_true, decide_eq_false_iff_not, Int.toNat_natCast, List.length_map, Nat.reduceAdd, Nat.reduceSub, ap_aug, ap_xfE, ap_lkh, ap_some, ap_fldR, pn_Sheaf_0, px_Sheaf_0, lk_Sheaf_1_0, pn_Sheaf_1_0, px_Sheaf_1_0, pn_Sheaf_1, px_Sheaf_1, lk_Sheaf_2_0, pn_Sheaf_2_0, px_Sheaf_2_0, lk_Sheaf_2_1, pn_Sheaf_2_1, px_Sheaf_2_1, pn_Sheaf_2, px_Sheaf_2, lk_Sheaf_3_0, pn_Sheaf_3_0, px_Sheaf_3_0, lk_Sheaf_3_1, pn_Sheaf_3_1, px_Sheaf_3_1, lk_Sheaf_3_2, pn_Sheaf_3_2, px_Sheaf_3_2, nm_Sheaf___len__, nm_Sheaf___iter__, nm_Sheaf___eq__, nm_Sheaf_top, nm_Sheaf_rows, nm_Sheaf_sharpness_of, nm_Sheaf_sheets_of, fl_0, fl_1, fl_2, fl_3, fl_4, fl_5, fl_6, fl_7, fl_8, fl_9, fl_10, fl_11, fl_12, flr_1, flr_2, flr_3, flr_4, flr_5, flr_6, flr_7, flr_8, flr_9, flr_10, flr_11, flr_12, ap_fldS, ap_insI, ap_insS, ap_selfO, ap_raise, ap_try, ap_xf, ap_isD, ap_isO, ap_iown, ap_dget2, ap_onT_b, ap_onT_n, ap_onT_i, ap_onT_s, ap_onT_l, ap_onT_t, initP, endsI, ne_eq, not_false_eq_true, not_true_eq_false, aq_call0, aq_callX, aq_callN0, aq_callNX, aq_callDX, aq_prop, aq_meth, aq_lenO, aq_eqO, aq_fIxScr, aq_fMax, aq_fMin, aq_fSum, aq_fSortI, aq_fEqD, aq_fInL, aq_fInT, aq_fInL0, ap_p, ap_ixN, ixOk, map_emp, any_nil, any_cons, gx_last, rng_len, enumP_len, List.length_append, List.length_set, List.length_reverse, List.length_singleton, and_assoc, List.cons.injEq, Prod.mk.injEq, P.lst.injEq, P.tup.injEq, P.dct.injEq, int_inj, str_inj, row_inj, bl_inj, ii_inj, dd_inj, exists_and_left, exists_eq, exists_eq', exists_eq_right, exists_eq_right', noX_f, noX'_f, ite_self, if_false_right, Option.some.injEq, P.int.injEq, P.str.injEq, P.bl.injEq, exists_eq_left, exists_eq_left', Int.reduceLT, Int.reduceLE, Int.reduceAdd, Int.reduceSub, Int.reduceMul, Int.reduceNeg, Int.reduceEq, Int.reduceNe, Nat.reduceLeDiff, Nat.zero_add, Nat.reduceMul, Nat.reduceEqDiff, Nat.reduceLT, Int.cast_ofNat_Int, decide_true, decide_false, Bool.true_and, Bool.false_and, Bool.and_true, Bool.and_false, Bool.true_or, Bool.false_or, Bool.or_true, Bool.or_false, Bool.and_eq_true, Bool.or_eq_true, and_self, Bool.not_eq_true, beq_self_eq_true, bne_self_eq_false, Nat.le_refl, List.isEmpty_nil, List.isEmpty_cons, and_false, false_and, or_false, false_or, or_true, true_or, implies_true, forall_const, rsn_total_reach, rsn_total_record, rsn_total_height, rsn_reach_total, rsn_reach_record, rsn_reach_height, rsn_record_total, rsn_record_reach, rsn_record_height, rsn_height_total, rsn_height_reach, rsn_height_record, aq_lenSet, ap_disp1, map_eraseIdx', map_dropLast', ap_onTN, ap_onTL, List.isEmpty_map, aq_fDEq, ap_forK, ap_lcK, aq_fSortII, aq_KOk, mo_v, mo_b, adrs_nil, adrs_cons, List.map_id_fun', List.map_id', int_one, str_one, row_one, row_one', dd_one, dd_one1, ii_one, int_app, str_app', row_app, maxI_2, minI_2, maxI_1, minI_1, aq_atI, aq_atS, take_len, cntB_f, cntM_f, aq_dvalI, aq_dgetI, aq_dinI, aq_putI, keyV_d, sok_keys, aq_fSortS, aq_fSortDI, fil_f, List.append_nil, Nat.add_zero, aq_retO0, aq_retO1, aq_retO2, aq_retO3, aq_retO4, aq_retO5, aq_retO6, aq_retO7, aq_retO8, ap_ieo, map_rev, eq_self, cut_map, rng_inj, nil_map, aq_at, at0, at1, at2, at3, at4, at5, atL, ap_remI, ap_listD, ap_dictD, gx_0, gx_1, gx_2, gx_3, gx_4, gx_5, gx_6, gx_7, gx_8, gx_9, gx_10, gx_11, gx_12, gx_13, gx_14, gx_15, gx_16, gx_17, gx_18, gx_19, gx_20, gx_21, gx_22, gx_23, gx_24, gx_25, gx_26, gx_27, gx_28, gx_29, gx_30, gx_31, gx_32, gx_33, gxm_0, gxm_1, gxm_2, gxm_3, sizeL, *])
local macro_rules | `(tactic| walk_at "s") => `(tactic| first | omega | exact mul_s (by omega) (by omega) | exact div_s (by omega) (by omega) | assumption | exact rfl | (simp only [List.length_map, List.length_append, List.length_cons, List.length_nil, List.length_set, List.length_reverse, List.length_take, List.length_drop, List.length_zipIdx, List.length_zip, List.length_range, rng_len, enumP_len, rgI_len, sizeL]; omega))
local macro_rules | `(tactic| walk_at "g") => `(tactic| repeat (refine And.intro (by walk_at "s") ?_))
local macro_rules | `(tactic| walk_at "f") => `(tactic| ((repeat' (first | assumption | (refine And.intro ?_ ?_) | split)) <;> (try (walk_at "s"))))
local macro_rules | `(tactic| walk_at "m") => `(tactic| simp only [ite_and', ite_or', ite_nand'])
local macro_rules | `(tactic| walk_at "x") => `(tactic| (walk_at "w"; walk_at "g"))

/-- the addresses of the classes -/
structure CA where
  none_ : Unit
  ContradictoryLog : Addr
  Impossible : Addr
  InvalidBox : Addr
  InvalidDeed : Addr
  InvalidDemands : Addr
  InvalidEntry : Addr
  InvalidName : Addr
  InvalidPage : Addr
  InvalidRound : Addr
  InvalidSheaf : Addr
  InvalidText : Addr
  NoOutcome : Addr
  NothingToRedo : Addr
  NothingToUndo : Addr
  RepeatedRecord : Addr
  Sheaf : Addr
  Spoiled : Addr
  UnknownName : Addr
  UnknownRecord : Addr
  UsedName : Addr
  WornError : Addr
  WrongMove : Addr
/-- a sheaf: its rows, its latest time, its earliest -/
abbrev shfP (A : CA) (rs : List (Int × Str)) (t b : Int) : P := .ins A.Sheaf ["_rows", "_top", "_bottom"] [rl rs, .int t, .int b]
/-- a sheaf by its rows -/
abbrev shf (A : CA) (rs : List (Int × Str)) : P := shfP A rs (maxI (rs.map Prod.fst)) (minI (rs.map Prod.fst))

--@@DEF _power
def p__power (_ : CA) : PSp := fun xs Q _ => ∃ b e : Int, xs = [.int b, .int e] ∧ (0 ≤ b ∧ b < 65536) ∧ (0 ≤ e ∧ e ≤ 10000) ∧ Q (.int (b ^ e.toNat))

instance ap__power {A : CA} {b e : Int} : PAp (p__power A) [.int b, .int e] (fun Q X => (0 ≤ b ∧ b < 65536) ∧ (0 ≤ e ∧ e ≤ 10000) ∧ Q (.int (b ^ e.toNat))) := ⟨fun Q X => by
  unfold p__power
  simp only [List.cons.injEq, P.lst.injEq, P.tup.injEq, P.ins.injEq, P.int.injEq, P.str.injEq, P.bl.injEq, P.scr.injEq, int_inj, str_inj, bl_inj, row_inj, and_true, true_and, and_assoc, exists_and_left, exists_eq_left', exists_eq_left, eq_self]⟩
def w__power (A : CA) : WS :=
  (wSeq (wAV 2 (wK (.int 1)))
  (wSeq (wAV 3 (wV 0))
  (wSeq (wAV 4 (wV 1))
  (wSeq (wWhile (wT (wOp (fB fun i j => decide (j < i)) (wC 4) (wK (.int 0))))
   (wCut (wIfS (wT (wOp fEq (wOp (fI fun i j => Builtin.bitAnd i j) (wC 4) (wK (.int 1))) (wK (.int 1))))
    (wAV 2 (wOp (fIc CMulW fun i j => i * j) (wC 2) (wC 3)))
    wNx)
   (wSeq (wAV 3 (wOp (fIc CMulW fun i j => i * j) (wC 3) (wC 3)))
   (wAV 4 (wOp (fIc CDivW fun i j => i / j) (wC 4) (wK (.int 2)))))))
  (wRet (wV 2))))))
theorem pure__power (A : CA) : ∀ xs Q X, p__power A xs Q X → w__power A (endsP false Q X) (startP ["base", "exponent", "power", "square", "rest"] [.v, .v] xs) := by
  rintro _ Q X ⟨b, e, rfl, hb, he, q⟩
  unfold w__power
  walk_at "pl"
  refine ⟨fun m en => ∃ (p s : Nat), en = [some (.v, .int b), some (.v, .int e), some (.v, .int (b ^ p)), some (.v, .int (b ^ s)), some (.v, .int (m : Int))] ∧ p + s * m = e.toNat ∧ 0 < s, ⟨e.toNat, 0, 1, ?_, by omega, by decide⟩, ?_⟩
  · rw [Int.pow_zero, Int.pow_succ, Int.pow_zero, Int.one_mul, show ((e.toNat : Nat) : Int) = e by omega]
  rintro m _ ⟨p, s, rfl, hm, hs⟩
  walk_at "pl"
  split
  · rename_i h
    have hsm : s ≤ s * m := by have := Nat.mul_le_mul_left s (show 1 ≤ m by omega); omega
    have he2 : e.toNat ≤ 10000 := by omega
    have m1 : CMulW (b ^ p) (b ^ s) := mul_pw hb.1 hb.2 (by omega)
    have m2 : CMulW (b ^ s) (b ^ s) := mul_pw hb.1 hb.2 (by omega)
    have d1 : CDivW (m : Int) 2 := div_s (by decide) (by decide)
    have hb1 : Builtin.bitAnd (m : Int) 1 = (m : Int) % 2 := PyProof.Rows.bitAnd_m1 _
    have hmd : s * m = s * (m % 2) + (s + s) * (m / 2) := by
      have := Nat.div_add_mod m 2
      rw [Nat.add_mul, ← Nat.mul_add, ← Nat.mul_add]
      congr 1
      omega
    refine ⟨fun en => en = [some (.v, .int b), some (.v, .int e), some (.v, .int (b ^ (p + s * (m % 2)))), some (.v, .int (b ^ s)), some (.v, .int (m : Int))], ?_, ?_⟩
    · walk_at "pq"
      rcases Nat.mod_two_eq_zero_or_one m with h2 | h2
      · rw [if_neg (by omega), h2, Nat.mul_zero, Nat.add_zero]
      · rw [if_pos (by omega), h2, Nat.mul_one, Int.pow_add]
    · rintro _ rfl
      walk_at "pq"
      refine ⟨m / 2, by omega, p + s * (m % 2), s + s, ?_, by omega, by omega⟩
      rw [Int.pow_add b s s, show ((m / 2 : Nat) : Int) = (m : Int) / 2 by omega]
  · rename_i h
    have h0 : m = 0 := by omega
    rw [h0, Nat.mul_zero, Nat.add_zero] at hm
    rw [hm]
    exact q
--@@DEF valid_record
def p_valid_record (_ : CA) : PSp := fun xs Q _ => ∃ z : Str, xs = [.str z] ∧ Q (.bl (isRec z))

instance ap_valid_record {A : CA} {z : Str} : PAp (p_valid_record A) [.str z] (fun Q X => Q (.bl (isRec z))) := ⟨fun Q X => by
  unfold p_valid_record
  simp only [List.cons.injEq, P.lst.injEq, P.tup.injEq, P.ins.injEq, P.int.injEq, P.str.injEq, P.bl.injEq, P.scr.injEq, int_inj, str_inj, bl_inj, row_inj, and_true, true_and, and_assoc, exists_and_left, exists_eq_left', exists_eq_left, eq_self]⟩
def w_valid_record (A : CA) : WS :=
  (wRet (wAndV (wChain (fB fun i j => decide (i ≤ j)) (fB fun i j => decide (i ≤ j)) (wK (.int 1)) (wCB fLenS (wCons (wC 0) wNil)) (wK (.int 8))) (wOp fEq (wBM "str" fStrip (wC 0) (wCons (wK (.str "abcdefghijklmnopqrstuvwxyz0123456789")) wNil)) (wK (.str "")))))
theorem pure_valid_record (A : CA) : ∀ xs Q X, p_valid_record A xs Q X → w_valid_record A (endsP false Q X) (startP ["text"] [.v] xs) := by
  rintro _ Q X ⟨z, rfl, q⟩
  unfold w_valid_record
  walk_at "pl"
  unfold isRec at q
  split
  · rename_i h
    rw [decide_eq_true (show 1 ≤ z.length by omega), Bool.true_and] at q
    split
    · rename_i h2
      rw [decide_eq_true (show z.length ≤ 8 by omega), Bool.true_and, ← strip_rec] at q
      exact q
    · rename_i h2
      rw [decide_eq_false (show ¬ z.length ≤ 8 by omega)] at q
      exact q
  · rename_i h
    rw [decide_eq_false (show ¬ 1 ≤ z.length by omega)] at q
    exact q
--@@DEF _law_cell
def p__law_cell (_ : CA) : PSp := fun xs Q _ => ∃ (ns : List Int) (k : Int), xs = [.scr ns, .int k] ∧ 0 ≤ k ∧ ∀ c : Int, Q (.int c)

instance ap__law_cell {A : CA} {ns : List Int} {k : Int} : PAp (p__law_cell A) [.scr ns, .int k] (fun Q X => 0 ≤ k ∧ ∀ c : Int, Q (.int c)) := ⟨fun Q X => by
  unfold p__law_cell
  simp only [List.cons.injEq, P.lst.injEq, P.tup.injEq, P.ins.injEq, P.int.injEq, P.str.injEq, P.bl.injEq, P.scr.injEq, int_inj, str_inj, bl_inj, row_inj, and_true, true_and, and_assoc, exists_and_left, exists_eq_left', exists_eq_left, eq_self]⟩
def w__law_cell (A : CA) : WS :=
  (wSeq (wIfS (wT (wOp (fB fun i j => decide (i < j)) (wC 1) (wCB fLen (wCons (wC 0) wNil))))
   (wRet (wCB fInt1 (wCons (wOp fIxScr (wC 0) (wC 1)) wNil)))
   wNx)
  (wRet (wK (.int 0))))
theorem pure__law_cell (A : CA) : ∀ xs Q X, p__law_cell A xs Q X → w__law_cell A (endsP false Q X) (startP ["script", "k"] [.v, .v] xs) := by
  rintro _ Q X ⟨ns, k, rfl, h0, q⟩
  unfold w__law_cell
  walk_at "pl"
  split
  · have hk : k.toNat < ns.length := by omega
    exact ⟨ns[k.toNat], at_nn h0 (List.getElem?_eq_getElem hk), q _⟩
  · exact q _
--@@DEF _law_draws
def p__law_draws (_ : CA) : PSp := fun xs Q _ => ∃ (c : Int) (ss : List Int), xs = [.int c, il ss] ∧ ss.length ≤ 100000 ∧ (∀ s ∈ ss, 0 < s ∧ s < 1073741824) ∧ ∀ ds : List Int, InB ds ss → Q (il ds)

instance ap__law_draws {A : CA} {c : Int} {xs : List P} {ss : List Int} [h : EL P.int xs ss] : PAp (p__law_draws A) [.int c, .lst xs] (fun Q X => ss.length ≤ 100000 ∧ (∀ s ∈ ss, 0 < s ∧ s < 1073741824) ∧ ∀ ds : List Int, InB ds ss → Q (il ds)) := ⟨fun Q X => by
  unfold p__law_draws
  simp only [h.eq, List.cons.injEq, P.lst.injEq, P.tup.injEq, P.ins.injEq, P.int.injEq, P.str.injEq, P.bl.injEq, P.scr.injEq, int_inj, str_inj, bl_inj, row_inj, and_true, true_and, and_assoc, exists_and_left, exists_eq_left', exists_eq_left, eq_self]⟩
def w__law_draws (A : CA) : WS :=
  (wSeq (wAO 2 (wLst wNil))
  (wSeq (wAV 3 (wCB fInt1 (wCons (wC 0) wNil)))
  (wSeq (wAV 4 (wOp (fB fun i j => decide (j ≤ i)) (wC 3) (wOp (fIc CPow fun i j => i ^ j.toNat) (wK (.int 10)) (wK (.int 18)))))
  (wSeq (wFor (wIR1 (wCons (wCB fLen (wCons (wC 1) wNil)) wNil)) (wgN 5)
   (wIfS (wAnd (wT (wC 4)) (wT (wOp (fB fun i j => decide (j < i)) (wC 3) (wK (.int 0)))))
    (wSeq (wApp 2 (wOp (fIc (fun _ j => 0 < j) fun i j => i % j) (wCB fInt1 (wCons (wC 3) wNil)) (wOp fIxL (wC 1) (wC 5))))
    (wAV 3 (wOp (fIc CDivW fun i j => i / j) (wCB fInt1 (wCons (wC 3) wNil)) (wOp fIxL (wC 1) (wC 5)))))
    (wSeq (wAV 6 (wOp (fIc (fun _ j => 0 < j) fun i j => i % j) (wCB fInt1 (wCons (wOp (fI fun i j => i + j) (wOp (fI fun i j => i + j) (wC 0) (wOp (fIc CMulW fun i j => i * j) (wK (.int 7919)) (wC 5))) (wK (.int 13))) wNil)) (wK (.int 2147483647))))
    (wSeq (wAV 6 (wOp (fIc (fun _ j => 0 < j) fun i j => i % j) (wCB fInt1 (wCons (wOp (fIc CMulW fun i j => i * j) (wC 6) (wOp (fI fun i j => i + j) (wC 6) (wK (.int 48271)))) wNil)) (wK (.int 2147483629))))
    (wSeq (wAV 6 (wOp (fIc (fun _ j => 0 < j) fun i j => i % j) (wCB fInt1 (wCons (wOp (fI fun i j => i + j) (wOp (fIc CMulW fun i j => i * j) (wC 6) (wOp (fI fun i j => i + j) (wC 6) (wK (.int 69621)))) (wOp (fIc CMulW fun i j => i * j) (wK (.int 31)) (wC 5))) wNil)) (wK (.int 2147483647))))
    (wApp 2 (wOp (fIc (fun _ j => 0 < j) fun i j => i % j) (wCB fInt1 (wCons (wOp (fIc CDivW fun i j => i / j) (wC 6) (wK (.int 9))) wNil)) (wOp fIxL (wC 1) (wC 5)))))))))
  (wRetO 2)))))
theorem pure__law_draws (A : CA) : ∀ xs Q X, p__law_draws A xs Q X → w__law_draws A (endsP true Q X) (startP ["cell", "sizes", "drawn", "left", "packed", "k", "mixed"] [.v, .b] xs) := by
  rintro _ Q X ⟨c, ss, rfl, hn, hs, q⟩
  unfold w__law_draws
  walk_at "pl"
  refine ⟨by decide, by unfold CPow; decide, ?_⟩
  have hm : (ss.map P.int).length = ss.length := il_len
  refine ⟨by omega, by omega, for_r
    (fun i e => ∃ (ds : List Int) (l : Int) (b : Bool) (v5 v6 : Option (Mo × P)), e = [some (.v, .int c), some (.b, il ss), some (.o, il ds), some (.v, .int l), some (.v, .bl b), v5, v6] ∧ InB ds (ss.take i))
    ⟨[], _, _, _, _, rfl, trivial⟩ ?_ ?_⟩
  · rintro i _ hi ⟨ds, l, b, v5, v6, rfl, hI⟩
    obtain ⟨s, es, hsm, ea⟩ := at_ii (ns := ss) (k := 0 + (i : Int)) (by omega) (by omega)
    have hs' := hs s hsm
    have hi2 : ss[i]? = some s := by rw [← es]; congr 1; omega
    have hl := hI.len
    rw [List.length_take] at hl
    have more : ∀ d, 0 ≤ d → d < s → InB (ds ++ [d]) (ss.take (i + 1)) := fun d h0 h1 => by
      rw [List.take_add_one, hi2]
      exact hI.snoc h0 h1
    have k1 : CMulW 7919 (0 + (i : Int)) := mul_s (by omega) (by omega)
    have k2 : CMulW 31 (0 + (i : Int)) := mul_s (by omega) (by omega)
    walk_at "pl"
    have hz : ds.length < sizeLine := szt (by omega)
    have md : ∀ x : Int, 0 ≤ x % s ∧ x % s < s := fun x => ⟨Int.emod_nonneg _ (by omega), Int.emod_lt_of_pos _ hs'.1⟩
    split
    · split
      · exact ⟨_, ea, hs'.1, hz, _, ea, div_s hs'.1 (by omega), ds ++ [l % s], _, _, _, _, by rw [il_snoc], more _ (md _).1 (md _).2⟩
      · exact ⟨k1, by decide, mul_s (by omega) (by omega), by decide, mul_s (by omega) (by omega), k2, by decide, div_s (by decide) (by decide), _, ea, hs'.1, hz, ds ++ [_], _, _, _, _, by rw [il_snoc], more _ (md _).1 (md _).2⟩
    · exact ⟨k1, by decide, mul_s (by omega) (by omega), by decide, mul_s (by omega) (by omega), k2, by decide, div_s (by decide) (by decide), _, ea, hs'.1, hz, ds ++ [_], _, _, _, _, by rw [il_snoc], more _ (md _).1 (md _).2⟩
  · rintro _ ⟨ds, l, b, v5, v6, rfl, hI⟩
    rw [List.take_length] at hI
    walk_at "pl"
    exact q ds hI
--@@DEF _law_width
def p__law_width (A : CA) : PSp := fun xs Q X =>
  (∃ (ds : List Int), xs = [il ds] ∧ (2 ≤ ds.length ∧ ((0 ≤ gx ds 1 ∧ gx ds 1 < 6) ∧ ∀ w : Int, (1 ≤ w ∧ w ≤ 6) → (gx ds 0 = 0 → w = 1) → Q (.int w))))
instance ap__law_width {A : CA} {ds : List Int} {xs_ds : List P} [h_ds : EL P.int xs_ds ds] : PAp (p__law_width A) [.lst xs_ds] (fun Q X =>
  2 ≤ ds.length ∧ ((0 ≤ gx ds 1 ∧ gx ds 1 < 6) ∧ ∀ w : Int, (1 ≤ w ∧ w ≤ 6) → (gx ds 0 = 0 → w = 1) → Q (.int w))) := ⟨fun Q X => by
  unfold p__law_width
  simp only [h_ds.eq, List.cons.injEq, P.lst.injEq, P.tup.injEq, P.ins.injEq, P.int.injEq, P.str.injEq, P.bl.injEq, P.scr.injEq, P.dct.injEq, int_inj, str_inj, bl_inj, row_inj, ii_inj, dd_inj, il_inj, tl_inj, dI_inj, rs_inj, lg_inj, ob_inj, and_true, true_and, and_assoc, exists_and_left, exists_eq_left', exists_eq_left, eq_self, reduceCtorEq, false_and, and_false, exists_false, or_false, false_or, List.nil_eq, List.map_eq_nil_iff]⟩
def w__law_width (A : CA) : WS :=
  (wSeq (wIfS (wT (wOp (fB fun i j => decide (j < i)) (wOp fIxL (wC 0) (wK (.int 0))) (wK (.int 1))))
   (wRet (wOp (fI fun i j => i + j) (wK (.int 1)) (wOp fIxL (wC 0) (wK (.int 1)))))
   wNx)
  (wRet (wK (.int 1))))
theorem pure__law_width (A : CA) : ∀ xs Q X, p__law_width A xs Q X → w__law_width A (endsP false Q X) (startP ["drawn"] [.b] xs) := by
  rintro _ Q X ⟨ds, rfl, hl, h1, q⟩
  unfold w__law_width
  walk_at "x"
  split
  · exact ⟨by omega, by omega, q _ ⟨by omega, by omega⟩ (by omega)⟩
  · exact q _ ⟨by omega, by omega⟩ (fun _ => rfl)
--@@DEF _law_moved
def p__law_moved (A : CA) : PSp := fun xs Q X =>
  (∃ (rs : List (Int × Str)) (s : Int) (ts : List Int), xs = [rl rs, .int s, tl ts] ∧ (rs.length ≤ 1000 ∧ ts.length ≤ 1000 ∧ wfB rs.length s ts = true ∧ Q (rl (aftR rs s ts)))) ∨ (∃ (rs : List (Int × Str)) (s : Int) (ts : List Int), xs = [rl rs, .int s, il ts] ∧ (rs.length ≤ 1000 ∧ ts.length ≤ 1000 ∧ wfB rs.length s ts = true ∧ Q (rl (aftR rs s ts))))
instance ap__law_moved {A : CA} {rs : List (Int × Str)} {s : Int} {ts : List Int} {xs_rs : List P} [h_rs : EL rowP xs_rs rs] {xs_ts : List P} [h_ts : EL P.int xs_ts ts] : PAp (p__law_moved A) [.lst xs_rs, .int s, .tup xs_ts] (fun Q X =>
  rs.length ≤ 1000 ∧ ts.length ≤ 1000 ∧ wfB rs.length s ts = true ∧ Q (rl (aftR rs s ts))) := ⟨fun Q X => by
  unfold p__law_moved
  simp only [h_rs.eq, h_ts.eq, List.cons.injEq, P.lst.injEq, P.tup.injEq, P.ins.injEq, P.int.injEq, P.str.injEq, P.bl.injEq, P.scr.injEq, P.dct.injEq, int_inj, str_inj, bl_inj, row_inj, ii_inj, dd_inj, il_inj, tl_inj, dI_inj, rs_inj, lg_inj, ob_inj, and_true, true_and, and_assoc, exists_and_left, exists_eq_left', exists_eq_left, eq_self, reduceCtorEq, false_and, and_false, exists_false, or_false, false_or, List.nil_eq, List.map_eq_nil_iff]⟩
instance ap__law_moved1 {A : CA} {rs : List (Int × Str)} {s : Int} {ts : List Int} {xs_rs : List P} [h_rs : EL rowP xs_rs rs] {xs_ts : List P} [h_ts : EL P.int xs_ts ts] : PAp (p__law_moved A) [.lst xs_rs, .int s, .lst xs_ts] (fun Q X =>
  rs.length ≤ 1000 ∧ ts.length ≤ 1000 ∧ wfB rs.length s ts = true ∧ Q (rl (aftR rs s ts))) := ⟨fun Q X => by
  unfold p__law_moved
  simp only [h_rs.eq, h_ts.eq, List.cons.injEq, P.lst.injEq, P.tup.injEq, P.ins.injEq, P.int.injEq, P.str.injEq, P.bl.injEq, P.scr.injEq, P.dct.injEq, int_inj, str_inj, bl_inj, row_inj, ii_inj, dd_inj, il_inj, tl_inj, dI_inj, rs_inj, lg_inj, ob_inj, and_true, true_and, and_assoc, exists_and_left, exists_eq_left', exists_eq_left, eq_self, reduceCtorEq, false_and, and_false, exists_false, or_false, false_or, List.nil_eq, List.map_eq_nil_iff]⟩
def w__law_moved (A : CA) : WS :=
  (wSeq (wAO 3 (wCB fList (wCons (wC 0) wNil)))
  (wSeq (wFor (wIL (wOp fCat (wLst (wCons (wV 1) wNil)) (wCB fList (wCons (wC 2) wNil)))) (wgN 4)
   (wSet 3 (wTup (wCons (wOp (fI fun i j => i - j) (wOp fIxT (wOp fIxL (wC 0) (wC 1)) (wK (.int 0))) (wK (.int 1))) (wCons (wOp fIxT (wOp fIxL (wC 0) (wC 1)) (wK (.int 1))) wNil))) (wC 4)))
  (wRetO 3)))
theorem pure__law_moved (A : CA) : ∀ xs Q X, p__law_moved A xs Q X → w__law_moved A (endsP true Q X) (startP ["rows", "source", "targets", "after", "k"] [.b, .v, .b] xs) := by
  rintro _ Q X (⟨rs, s, ts, rfl, hr, hn, hw, q⟩ | ⟨rs, s, ts, rfl, hr, hn, hw, q⟩)
  all_goals
    unfold w__law_moved
    obtain ⟨hs, hts⟩ := wfB_in hw
    walk_at "x"
    have hall : ∀ i ∈ s :: ts, 0 ≤ i ∧ i < (rs.length : Int) := fun i hi => by
      rcases List.mem_cons.mp hi with rfl | hi
      · exact hs
      · exact hts i hi
    refine forA (l := s :: ts) [4] 3 .o rl (fun i c => c = setR rs ((gx rs s).1 - 1, (gx rs s).2) ((s :: ts).take i)) rs rfl ⟨_, rfl⟩ ?_ ?_
    · rintro i k c e' hk hi rfl ⟨v6, rfl⟩
      have hk2 := hall k (List.mem_of_getElem? hk)
      have hln := setR_len (rs := rs) (r := ((gx rs s).1 - 1, (gx rs s).2)) (is := (s :: ts).take i)
      have hsn := setR_snoc (rs := rs) (r := ((gx rs s).1 - 1, (gx rs s).2)) (is := (s :: ts).take i) (i := k)
      rw [← take_snoc' hk] at hsn
      rw [hsn]
      generalize setR rs ((gx rs s).1 - 1, (gx rs s).2) ((s :: ts).take i) = c at *
      walk_at "x"
      rw [show ixj c.length k = k.toNat by unfold ixj; rw [if_pos hk2.1], List.map_set]
    rintro c e' rfl ⟨v6, rfl⟩
    rw [take_len]
    walk_at "w"
    exact q
--@@DEF _law_single__InvalidDemands
def p__law_single__InvalidDemands (A : CA) (ea : Addr) (ed : Option Addr) : PSp := fun xs Q X =>
  (∃ (n0 : Str) (ns : List Str) (ys : List P), xs = [.exc ea ed A.InvalidDemands (n0 :: ns) ys] ∧ (Q (.bl true)))
instance ap__law_single__InvalidDemands {A : CA} {ea : Addr} {ed : Option Addr} {n0 : Str} {ns : List Str} {ys : List P}  : PAp (p__law_single__InvalidDemands A ea ed) [.exc ea ed A.InvalidDemands (n0 :: ns) ys] (fun Q X =>
  Q (.bl true)) := ⟨fun Q X => by
  unfold p__law_single__InvalidDemands
  simp only [List.cons.injEq, P.exc.injEq, P.lst.injEq, P.tup.injEq, P.ins.injEq, P.int.injEq, P.str.injEq, P.bl.injEq, P.scr.injEq, P.dct.injEq, int_inj, str_inj, bl_inj, row_inj, ii_inj, dd_inj, il_inj, tl_inj, dI_inj, rs_inj, lg_inj, ob_inj, and_true, true_and, and_assoc, exists_and_left, exists_eq_left', exists_eq_left, eq_self, reduceCtorEq, false_and, and_false, exists_false, or_false, false_or, List.nil_eq, List.map_eq_nil_iff]⟩
def w__law_single__InvalidDemands (A : CA) (ea : Addr) (ed : Option Addr) : WS :=
  (wSeq (wAV 1 (wLst (wCons (wCB (fIsD ea ed A.InvalidDemands (.adr A.InvalidSheaf) false) (wCons (wC 0) (wCons (wK (.adr A.InvalidSheaf)) wNil))) (wCons (wCB (fIsD ea ed A.InvalidDemands (.adr A.InvalidDeed) false) (wCons (wC 0) (wCons (wK (.adr A.InvalidDeed)) wNil))) (wCons (wCB (fIsD ea ed A.InvalidDemands (.adr A.InvalidEntry) false) (wCons (wC 0) (wCons (wK (.adr A.InvalidEntry)) wNil))) wNil)))))
  (wSeq (wAV 1 (wOp fCat (wC 1) (wLst (wCons (wCB (fIsD ea ed A.InvalidDemands (.adr A.InvalidText) false) (wCons (wC 0) (wCons (wK (.adr A.InvalidText)) wNil))) (wCons (wCB (fIsD ea ed A.InvalidDemands (.adr A.InvalidBox) false) (wCons (wC 0) (wCons (wK (.adr A.InvalidBox)) wNil))) (wCons (wCB (fIsD ea ed A.InvalidDemands (.adr A.NoOutcome) false) (wCons (wC 0) (wCons (wK (.adr A.NoOutcome)) wNil))) wNil))))))
  (wSeq (wAV 1 (wOp fCat (wC 1) (wLst (wCons (wCB (fIsD ea ed A.InvalidDemands (.adr A.InvalidDemands) true) (wCons (wC 0) (wCons (wK (.adr A.InvalidDemands)) wNil))) (wCons (wCB (fIsD ea ed A.InvalidDemands (.adr A.UnknownRecord) false) (wCons (wC 0) (wCons (wK (.adr A.UnknownRecord)) wNil))) (wCons (wCB (fIsD ea ed A.InvalidDemands (.adr A.Spoiled) false) (wCons (wC 0) (wCons (wK (.adr A.Spoiled)) wNil))) wNil))))))
  (wSeq (wAV 1 (wOp fCat (wC 1) (wLst (wCons (wCB (fIsD ea ed A.InvalidDemands (.adr A.Impossible) false) (wCons (wC 0) (wCons (wK (.adr A.Impossible)) wNil))) (wCons (wCB (fIsD ea ed A.InvalidDemands (.adr A.RepeatedRecord) false) (wCons (wC 0) (wCons (wK (.adr A.RepeatedRecord)) wNil))) (wCons (wCB (fIsD ea ed A.InvalidDemands (.adr A.WrongMove) false) (wCons (wC 0) (wCons (wK (.adr A.WrongMove)) wNil))) wNil))))))
  (wSeq (wAV 1 (wOp fCat (wC 1) (wLst (wCons (wCB (fIsD ea ed A.InvalidDemands (.adr A.ContradictoryLog) false) (wCons (wC 0) (wCons (wK (.adr A.ContradictoryLog)) wNil))) (wCons (wCB (fIsD ea ed A.InvalidDemands (.adr A.InvalidRound) false) (wCons (wC 0) (wCons (wK (.adr A.InvalidRound)) wNil))) (wCons (wCB (fIsD ea ed A.InvalidDemands (.adr A.UsedName) false) (wCons (wC 0) (wCons (wK (.adr A.UsedName)) wNil))) wNil))))))
  (wSeq (wAV 1 (wOp fCat (wC 1) (wLst (wCons (wCB (fIsD ea ed A.InvalidDemands (.adr A.InvalidName) false) (wCons (wC 0) (wCons (wK (.adr A.InvalidName)) wNil))) (wCons (wCB (fIsD ea ed A.InvalidDemands (.adr A.UnknownName) false) (wCons (wC 0) (wCons (wK (.adr A.UnknownName)) wNil))) (wCons (wCB (fIsD ea ed A.InvalidDemands (.adr A.InvalidPage) false) (wCons (wC 0) (wCons (wK (.adr A.InvalidPage)) wNil))) wNil))))))
  (wSeq (wAV 1 (wOp fCat (wC 1) (wLst (wCons (wCB (fIsD ea ed A.InvalidDemands (.adr A.NothingToUndo) false) (wCons (wC 0) (wCons (wK (.adr A.NothingToUndo)) wNil))) (wCons (wCB (fIsD ea ed A.InvalidDemands (.adr A.NothingToRedo) false) (wCons (wC 0) (wCons (wK (.adr A.NothingToRedo)) wNil))) wNil)))))
  (wSeq (wIfS (wOr (wNot (wT (wCB (fIsD ea ed A.InvalidDemands (.adr A.WornError) true) (wCons (wC 0) (wCons (wK (.adr A.WornError)) wNil))))) (wNot (wT (wCB (fIsD ea ed A.InvalidDemands (.ty "ValueError") true) (wCons (wC 0) (wCons (wK (.ty "ValueError")) wNil))))))
   (wRet (wK (.bl false)))
   wNx)
  (wRet (wOp fEq (wCB fLen (wCons (wLc (wIL (wC 1)) (wgN 2) (wT (wC 2)) (wV 2) [2]) wNil)) (wK (.int 1))))))))))))
theorem pure__law_single__InvalidDemands (A : CA) (ea : Addr) (ed : Option Addr) : ∀ xs Q X, p__law_single__InvalidDemands A ea ed xs Q X → w__law_single__InvalidDemands A ea ed (endsP false Q X) (startP ["error", "kinds", "kind"] [.v] xs) := by
  rintro _ Q X ⟨n0, ns, ys, rfl, q⟩
  unfold w__law_single__InvalidDemands
  walk_at "x"
  refine lcBl rfl (by decide) (fun b Q Q0 h => ?_) ?_
  · walk_at "x"
    exact h
  show fLen [P.lst [P.bl true]] (fun x => fEq x (P.int 1) Q)
  walk_at "x"
  exact q
--@@DEF _law_shares
def p__law_shares (A : CA) : PSp := fun xs Q X =>
  (∃ (rs : List (Int × Str)), xs = [rl rs] ∧ (rs.length ≤ 1000 ∧ Q (dI (shD rs))))
instance ap__law_shares {A : CA} {rs : List (Int × Str)} {xs_rs : List P} [h_rs : EL rowP xs_rs rs] : PAp (p__law_shares A) [.lst xs_rs] (fun Q X =>
  rs.length ≤ 1000 ∧ Q (dI (shD rs))) := ⟨fun Q X => by
  unfold p__law_shares
  simp only [h_rs.eq, List.cons.injEq, P.lst.injEq, P.tup.injEq, P.ins.injEq, P.int.injEq, P.str.injEq, P.bl.injEq, P.scr.injEq, P.dct.injEq, int_inj, str_inj, bl_inj, row_inj, ii_inj, dd_inj, il_inj, tl_inj, dI_inj, rs_inj, lg_inj, ob_inj, and_true, true_and, and_assoc, exists_and_left, exists_eq_left', exists_eq_left, eq_self, reduceCtorEq, false_and, and_false, exists_false, or_false, false_or, List.nil_eq, List.map_eq_nil_iff]⟩
def w__law_shares (A : CA) : WS :=
  (wSeq (wAO 1 wDNew)
  (wSeq (wFor (wILv 0) (wgN 2)
   (wDPut 1 (wOp fIxT (wC 2) (wK (.int 1))) (wOp (fI fun i j => i + j) (wDGet2 (wC 1) (wOp fIxT (wC 2) (wK (.int 1))) (wK (.int 0))) (wK (.int 1)))))
  (wRetO 1)))
theorem pure__law_shares (A : CA) : ∀ xs Q X, p__law_shares A xs Q X → w__law_shares A (endsP true Q X) (startP ["rows", "shares", "row"] [.b] xs) := by
  rintro _ Q X ⟨rs, rfl, hn, q⟩
  unfold w__law_shares
  walk_at "x"
  refine forA [2] 1 .o dI (fun i d => d = shD (rs.take i)) [] rfl ⟨_, rfl⟩ ?_ ?_
  · rintro i r d e' hr hi hd ⟨v2, rfl⟩
    walk_at "x"
    rw [shD_take hr, ← hd]
    have hsl := shD_len (rs := rs.take i)
    rw [List.length_take, ← hd] at hsl
    exact ⟨by omega, rfl, rfl⟩
  rintro d e' hd ⟨v2, rfl⟩
  walk_at "x"
  rw [take_len] at hd
  rw [hd]
  exact q
--@@DEF Sheaf___len__
def p_Sheaf___len__ (A : CA) : PSp := fun xs Q _ => ∃ (rs : List (Int × Str)) (t b : Int), xs = [shfP A rs t b] ∧ Q (.int rs.length)

instance ap_Sheaf___len__ {A : CA} {rs : List (Int × Str)} {t b : Int} : PAp (p_Sheaf___len__ A) [shfP A rs t b] (fun Q X => Q (.int rs.length)) := ⟨fun Q X => by
  unfold p_Sheaf___len__
  simp only [List.cons.injEq, P.lst.injEq, P.tup.injEq, P.ins.injEq, P.int.injEq, P.str.injEq, P.bl.injEq, P.scr.injEq, int_inj, str_inj, bl_inj, row_inj, and_true, true_and, and_assoc, exists_and_left, exists_eq_left', exists_eq_left, eq_self]⟩
def w_Sheaf___len__ (A : CA) : WS :=
  (wRet (wCB fLen (wCons (wFldR A.Sheaf "_rows" (wC 0)) wNil)))
theorem pure_Sheaf___len__ (A : CA) : ∀ xs Q X, p_Sheaf___len__ A xs Q X → w_Sheaf___len__ A (endsP false Q X) (startP ["self"] [.b] xs) := by
  rintro _ Q X ⟨rs, t, b, rfl, q⟩
  unfold w_Sheaf___len__ shfP
  walk_at "pl"
  exact q
--@@DEF Sheaf___eq__
def p_Sheaf___eq__ (A : CA) : PSp := fun xs Q _ => ∃ (rs : List (Int × Str)) (t b : Int) (rs2 : List (Int × Str)) (t2 b2 : Int), xs = [shfP A rs t b, shfP A rs2 t2 b2] ∧ Q (.bl (decide (rs = rs2)))

instance ap_Sheaf___eq__ {A : CA} {rs rs2 : List (Int × Str)} {t b t2 b2 : Int} : PAp (p_Sheaf___eq__ A) [shfP A rs t b, shfP A rs2 t2 b2] (fun Q X => Q (.bl (decide (rs = rs2)))) := ⟨fun Q X => by
  unfold p_Sheaf___eq__
  simp only [List.cons.injEq, P.lst.injEq, P.tup.injEq, P.ins.injEq, P.int.injEq, P.str.injEq, P.bl.injEq, P.scr.injEq, int_inj, str_inj, bl_inj, row_inj, and_true, true_and, and_assoc, exists_and_left, exists_eq_left', exists_eq_left, eq_self]⟩
def w_Sheaf___eq__ (A : CA) : WS :=
  (wRet (wAndV (wCB (fIsO A.Sheaf) (wCons (wC 1) (wCons (wK (.adr A.Sheaf)) wNil))) (wOp fEqD (wFldR A.Sheaf "_rows" (wC 0)) (wFldR A.Sheaf "_rows" (wC 1)))))
theorem pure_Sheaf___eq__ (A : CA) : ∀ xs Q X, p_Sheaf___eq__ A xs Q X → w_Sheaf___eq__ A (endsP false Q X) (startP ["self", "other"] [.b, .b] xs) := by
  rintro _ Q X ⟨rs, t, b, rs2, t2, b2, rfl, q⟩
  unfold w_Sheaf___eq__ shfP
  walk_at "pl"
  rw [eq_rl]
  exact ⟨sh_rl, sh_rl, q⟩
--@@DEF Sheaf_top
def p_Sheaf_top (A : CA) : PSp := fun xs Q _ => ∃ (rs : List (Int × Str)) (t b : Int), xs = [shfP A rs t b] ∧ Q (.int t)

instance ap_Sheaf_top {A : CA} {rs : List (Int × Str)} {t b : Int} : PAp (p_Sheaf_top A) [shfP A rs t b] (fun Q X => Q (.int t)) := ⟨fun Q X => by
  unfold p_Sheaf_top
  simp only [List.cons.injEq, P.lst.injEq, P.tup.injEq, P.ins.injEq, P.int.injEq, P.str.injEq, P.bl.injEq, P.scr.injEq, int_inj, str_inj, bl_inj, row_inj, and_true, true_and, and_assoc, exists_and_left, exists_eq_left', exists_eq_left, eq_self]⟩
def w_Sheaf_top (A : CA) : WS :=
  (wRet (wFldR A.Sheaf "_top" (wC 0)))
theorem pure_Sheaf_top (A : CA) : ∀ xs Q X, p_Sheaf_top A xs Q X → w_Sheaf_top A (endsP false Q X) (startP ["self"] [.b] xs) := by
  rintro _ Q X ⟨rs, t, b, rfl, q⟩
  unfold w_Sheaf_top shfP
  walk_at "pl"
  exact q
--@@DEF Sheaf_rows
def p_Sheaf_rows (A : CA) : PSp := fun xs Q _ => ∃ (rs : List (Int × Str)) (t b : Int), xs = [shfP A rs t b] ∧ Q (rl rs)

instance ap_Sheaf_rows {A : CA} {rs : List (Int × Str)} {t b : Int} : PAp (p_Sheaf_rows A) [shfP A rs t b] (fun Q X => Q (rl rs)) := ⟨fun Q X => by
  unfold p_Sheaf_rows
  simp only [List.cons.injEq, P.lst.injEq, P.tup.injEq, P.ins.injEq, P.int.injEq, P.str.injEq, P.bl.injEq, P.scr.injEq, int_inj, str_inj, bl_inj, row_inj, and_true, true_and, and_assoc, exists_and_left, exists_eq_left', exists_eq_left, eq_self]⟩
def w_Sheaf_rows (A : CA) : WS :=
  (wRet (wCB fList (wCons (wFldR A.Sheaf "_rows" (wC 0)) wNil)))
theorem pure_Sheaf_rows (A : CA) : ∀ xs Q X, p_Sheaf_rows A xs Q X → w_Sheaf_rows A (endsP true Q X) (startP ["self"] [.b] xs) := by
  rintro _ Q X ⟨rs, t, b, rfl, q⟩
  unfold w_Sheaf_rows shfP
  walk_at "pl"
  exact q
--@@DEF Sheaf_sharpness_of
def p_Sheaf_sharpness_of (A : CA) : PSp := fun xs Q X =>
  (∃ (rs : List (Int × Str)) (t b i : Int), xs = [shfP A rs t b, .int i] ∧ (ixOk rs.length i ∧ Q (.int (gx rs i).1)))
instance ap_Sheaf_sharpness_of {A : CA} {rs : List (Int × Str)} {t b i : Int}  : PAp (p_Sheaf_sharpness_of A) [shfP A rs t b, .int i] (fun Q X =>
  ixOk rs.length i ∧ Q (.int (gx rs i).1)) := ⟨fun Q X => by
  unfold p_Sheaf_sharpness_of
  simp only [List.cons.injEq, P.lst.injEq, P.tup.injEq, P.ins.injEq, P.int.injEq, P.str.injEq, P.bl.injEq, P.scr.injEq, P.dct.injEq, int_inj, str_inj, bl_inj, row_inj, ii_inj, dd_inj, il_inj, tl_inj, dI_inj, rs_inj, lg_inj, ob_inj, and_true, true_and, and_assoc, exists_and_left, exists_eq_left', exists_eq_left, eq_self, reduceCtorEq, false_and, and_false, exists_false, or_false, false_or, List.nil_eq, List.map_eq_nil_iff]⟩
def w_Sheaf_sharpness_of (A : CA) : WS :=
  (wRet (wOp fIxT (wOp fIxL (wFldR A.Sheaf "_rows" (wC 0)) (wC 1)) (wK (.int 0))))
theorem pure_Sheaf_sharpness_of (A : CA) : ∀ xs Q X, p_Sheaf_sharpness_of A xs Q X → w_Sheaf_sharpness_of A (endsP false Q X) (startP ["self", "index"] [.b, .v] xs) := by
  rintro _ Q X ⟨rs, t, b, i, rfl, h1, q⟩
  unfold w_Sheaf_sharpness_of
  walk_at "w"
  exact ⟨h1.1, h1.2, q⟩
--@@DEF Sheaf_sheets_of
def p_Sheaf_sheets_of (A : CA) : PSp := fun xs Q X =>
  (∃ (rs : List (Int × Str)) (t b : Int) (z : Str), xs = [shfP A rs t b, .str z] ∧ (rs.length ≤ 100000 ∧ Q (il (sheetsI rs z))))
instance ap_Sheaf_sheets_of {A : CA} {rs : List (Int × Str)} {t b : Int} {z : Str}  : PAp (p_Sheaf_sheets_of A) [shfP A rs t b, .str z] (fun Q X =>
  rs.length ≤ 100000 ∧ Q (il (sheetsI rs z))) := ⟨fun Q X => by
  unfold p_Sheaf_sheets_of
  simp only [List.cons.injEq, P.lst.injEq, P.tup.injEq, P.ins.injEq, P.int.injEq, P.str.injEq, P.bl.injEq, P.scr.injEq, P.dct.injEq, int_inj, str_inj, bl_inj, row_inj, ii_inj, dd_inj, il_inj, tl_inj, dI_inj, rs_inj, lg_inj, ob_inj, and_true, true_and, and_assoc, exists_and_left, exists_eq_left', exists_eq_left, eq_self, reduceCtorEq, false_and, and_false, exists_false, or_false, false_or, List.nil_eq, List.map_eq_nil_iff]⟩
def w_Sheaf_sheets_of (A : CA) : WS :=
  (wRet (wLc (wIE (wCons (wFldR A.Sheaf "_rows" (wC 0)) wNil)) (wgT (wgLen 2 (wgCons (wgN 2) (wgCons (wgN 3) wgNil)))) (wT (wOp fEq (wOp fIxT (wC 3) (wK (.int 1))) (wC 1))) (wV 2) [2, 3]))
theorem pure_Sheaf_sheets_of (A : CA) : ∀ xs Q X, p_Sheaf_sheets_of A xs Q X → w_Sheaf_sheets_of A (endsP true Q X) (startP ["self", "record", "index", "row"] [.b, .v] xs) := by
  rintro _ Q X ⟨rs, t, b, z, rfl, hn, q⟩
  unfold w_Sheaf_sheets_of
  walk_at "w"
  apply lcIf
  · walk_at "s"
  · intro p hp Q Q0 h
    walk_at "w"
    exact h
  exact q
--@@DEF cap
def p_cap (_ : CA) : PSp := fun xs Q _ => ∃ t e w : Int, xs = [.int t, .int e, .int w] ∧ (0 ≤ w ∧ w < 65535) ∧ t - e ≤ 10000 ∧ Q (.int (capI t e w))

instance ap_cap {A : CA} {t e w : Int} : PAp (p_cap A) [.int t, .int e, .int w] (fun Q X => (0 ≤ w ∧ w < 65535) ∧ t - e ≤ 10000 ∧ Q (.int (capI t e w))) := ⟨fun Q X => by
  unfold p_cap
  simp only [List.cons.injEq, P.lst.injEq, P.tup.injEq, P.ins.injEq, P.int.injEq, P.str.injEq, P.bl.injEq, P.scr.injEq, int_inj, str_inj, bl_inj, row_inj, and_true, true_and, and_assoc, exists_and_left, exists_eq_left', exists_eq_left, eq_self]⟩
def w_cap (A : CA) : WS :=
  (wSeq (wIfS (wT (wOp (fB fun i j => decide (i < j)) (wC 0) (wC 1)))
   (wRet (wK (.int 0)))
   wNx)
  (wRet (wCall0 (p__power A) (wCons (wOp (fI fun i j => i + j) (wC 2) (wK (.int 1))) (wCons (wOp (fI fun i j => i - j) (wC 0) (wC 1)) wNil)))))
theorem pure_cap (A : CA) : ∀ xs Q X, p_cap A xs Q X → w_cap A (endsP false Q X) (startP ["sharpness", "end", "breadth"] [.v, .v, .v] xs) := by
  rintro _ Q X ⟨t, e, w, rfl, hw, hd, q⟩
  unfold w_cap
  unfold capI at q
  walk_at "pl"
  split
  · rename_i h
    rw [if_pos h] at q
    exact q
  · rename_i h
    rw [if_neg h] at q
    exact ⟨w + 1, t - e, rfl, by omega, by omega, q⟩
--@@DEF falling_sheets
def p_falling_sheets (A : CA) : PSp := fun xs Q X =>
  (∃ (rs : List (Int × Str)) (t b : Int) (z : Str), xs = [shfP A rs t b, .str z] ∧ (rs.length ≤ 1000 ∧ Q (il ((fallP rs z).map Prod.snd))))
instance ap_falling_sheets {A : CA} {rs : List (Int × Str)} {t b : Int} {z : Str}  : PAp (p_falling_sheets A) [shfP A rs t b, .str z] (fun Q X =>
  rs.length ≤ 1000 ∧ Q (il ((fallP rs z).map Prod.snd))) := ⟨fun Q X => by
  unfold p_falling_sheets
  simp only [List.cons.injEq, P.lst.injEq, P.tup.injEq, P.ins.injEq, P.int.injEq, P.str.injEq, P.bl.injEq, P.scr.injEq, P.dct.injEq, int_inj, str_inj, bl_inj, row_inj, ii_inj, dd_inj, il_inj, tl_inj, dI_inj, rs_inj, lg_inj, ob_inj, and_true, true_and, and_assoc, exists_and_left, exists_eq_left', exists_eq_left, eq_self, reduceCtorEq, false_and, and_false, exists_false, or_false, false_or, List.nil_eq, List.map_eq_nil_iff]⟩
def w_falling_sheets (A : CA) : WS :=
  (wSeq (wAV 2 (wCB fSortII (wCons (wLc (wIL (wMeth A.Sheaf "sheets_of" (p_Sheaf_sheets_of A) (wC 0) (wCons (wV 1) wNil))) (wgN 3) (fun _ Q _ => Q true) (wTup (wCons (wUn (fun x Q => onInt x fun i => Q (.int (-i))) (wMeth A.Sheaf "sharpness_of" (p_Sheaf_sharpness_of A) (wC 0) (wCons (wV 3) wNil))) (wCons (wV 3) wNil))) [3]) wNil)))
  (wRet (wLc (wIL (wC 2)) (wgT (wgLen 2 (wgCons (wgN 4) (wgCons (wgN 3) wgNil)))) (fun _ Q _ => Q true) (wV 3) [4, 3])))
theorem pure_falling_sheets (A : CA) : ∀ xs Q X, p_falling_sheets A xs Q X → w_falling_sheets A (endsP true Q X) (startP ["sheaf", "record", "marks", "index", "_"] [.b, .v] xs) := by
  rintro _ Q X ⟨rs, t, b, z, rfl, hn, q⟩
  unfold w_falling_sheets
  have hsl := sheetsI_len (z := z) hn
  have hfl := fallP_len (z := z) hn
  walk_at "x"
  apply lcM (l := sheetsI rs z) (f := fun k => iiP (-(gx rs k).1, k))
  · omega
  · intro k hk Q hQ
    have s1 := (sheetsI_ix hk).1
    have s2 := (sheetsI_ix hk).2
    walk_at "x"
    exact hQ
  rw [show (sheetsI rs z).map (fun k => iiP (-(gx rs k).1, k)) = ((sheetsI rs z).map fun k => (-(gx rs k).1, k)).map iiP by rw [List.map_map]; rfl]
  walk_at "x"
  refine lcM (l := fallP rs z) (f := fun p => .int p.2) ?_ ?_ ?_
  · omega
  · intro p hp Q hQ
    walk_at "x"
    exact hQ
  rw [show (fallP rs z).map (fun p => P.int p.2) = ((fallP rs z).map Prod.snd).map P.int by rw [List.map_map]; rfl]
  exact q
--@@DEF _law_given
def p__law_given (A : CA) : PSp := fun xs Q X =>
  (∃ (ns : List Int) (k : Int), xs = [.scr ns, .int k] ∧ ((0 ≤ k ∧ k ≤ 1000000) ∧ ∀ c : Int, Q (.int c)))
instance ap__law_given {A : CA} {ns : List Int} {k : Int}  : PAp (p__law_given A) [.scr ns, .int k] (fun Q X =>
  (0 ≤ k ∧ k ≤ 1000000) ∧ ∀ c : Int, Q (.int c)) := ⟨fun Q X => by
  unfold p__law_given
  simp only [List.cons.injEq, P.lst.injEq, P.tup.injEq, P.ins.injEq, P.int.injEq, P.str.injEq, P.bl.injEq, P.scr.injEq, P.dct.injEq, int_inj, str_inj, bl_inj, row_inj, ii_inj, dd_inj, il_inj, tl_inj, dI_inj, rs_inj, lg_inj, ob_inj, and_true, true_and, and_assoc, exists_and_left, exists_eq_left', exists_eq_left, eq_self, reduceCtorEq, false_and, and_false, exists_false, or_false, false_or, List.nil_eq, List.map_eq_nil_iff]⟩
def w__law_given (A : CA) : WS :=
  (wSeq (wIfS (wT (wOp (fB fun i j => decide (i < j)) (wC 1) (wCB fLen (wCons (wC 0) wNil))))
   (wRet (wCB fInt1 (wCons (wOp fIxScr (wC 0) (wC 1)) wNil)))
   wNx)
  (wRet (wOp (fI fun i j => i + j) (wOp (fIc CMulW fun i j => i * j) (wK (.int 3909)) (wOp (fI fun i j => i + j) (wC 1) (wK (.int 1)))) (wOp (fIc CMulL fun i j => i * j) (wK (.int 31)) (wCall0 (p__law_cell A) (wCons (wV 0) (wCons (wK (.int 0)) wNil)))))))
theorem pure__law_given (A : CA) : ∀ xs Q X, p__law_given A xs Q X → w__law_given A (endsP false Q X) (startP ["script", "k"] [.v, .v] xs) := by
  rintro _ Q X ⟨ns, k, rfl, hk, q⟩
  unfold w__law_given
  walk_at "x"
  split
  · exact ⟨by omega, by omega, q _⟩
  · refine ⟨mul_s (by omega) (by omega), fun c => ⟨?_, q _⟩⟩
    show (31 : Int).natAbs < 2 ^ 63
    decide
--@@DEF _law_names
/-- the drawn sizes of names -/
abbrev nmS (n : Nat) : List Int := [2, 36, 35] ++ (List.replicate n [7, 36, 36, 36]).flatten
theorem nmS_get {n : Nat} {j k : Nat} (hk : k < n) (hj : j < 4) : (nmS n)[3 + 4 * k + j]? = ([7, 36, 36, 36] : List Int)[j]? := by
  unfold nmS
  rw [List.getElem?_append_right (by simp only [List.length_cons, List.length_nil]; omega)]
  have e : 3 + 4 * k + j - ([2, 36, 35] : List Int).length = 4 * k + j := by simp only [List.length_cons, List.length_nil]; omega
  rw [e, flat_get _ _ _ (by decide) (by simp only [List.length_cons, List.length_nil]; omega)]
  congr 1
  simp only [List.length_cons, List.length_nil]
  omega
theorem nmS_P {n : Nat} : P.int 2 :: P.int 36 :: P.int 35 :: (List.replicate n [P.int 7, P.int 36, P.int 36, P.int 36]).flatten = (nmS n).map P.int := by
  unfold nmS
  rw [List.map_append, List.map_flatten, List.map_replicate]
  rfl
def p__law_names (_ : CA) : PSp := fun xs Q _ => ∃ (c n : Int), xs = [.int c, .int n] ∧ 0 ≤ n ∧ n ≤ 1000 ∧ ∀ ys : List Str, (ys.length : Int) = n → (∀ y ∈ ys, isRec y = true) → ys.Nodup → Q (sl ys)
/-- two letters, a front: what a longer name is -/
theorem name_rec {F T : Str} {hi : Option Int} (hF : ChP (fun c => c ∈ signs) F) (hT : ChP (fun c => c ∈ signs) T) (lF : F.length = 3) (lT : T.length = 2) :
    isRec (cutS (F ++ F) none hi ++ T) = true ∧ isRec (T ++ cutS (F ++ F) none hi) = true ∧ (F ++ F).length = 6 ∧ (cutS (F ++ F) none hi).length ≤ 6 := by
  have h1 : (F ++ F).length = 6 := by rw [Str.length_append, lF]
  have h2 := cutS_length (F ++ F) none hi
  have h3 : ChP (fun c => c ∈ signs) (cutS (F ++ F) none hi) := (hF.app hF).cut
  exact ⟨rec_of (by rw [Str.length_append]; omega) (by rw [Str.length_append]; omega) (h3.app hT), rec_of (by rw [Str.length_append]; omega) (by rw [Str.length_append]; omega) (hT.app h3), h1, by omega⟩
structure NmI (kf : Str → List Nat) (kv : Nat → List Nat) (ys : List Str) (i : Nat) : Prop where
  ln : ys.length = i
  rc : ∀ y ∈ ys, isRec y = true
  tg : ∀ (j : Nat) y, ys[j]? = some y → kf y = kv j
theorem NmI.more {kf : Str → List Nat} {kv : Nat → List Nat} {ys : List Str} {i : Nat} {y : Str} (h : NmI kf kv ys i) (hy : isRec y = true) (ht : kf y = kv i) : NmI kf kv (ys ++ [y]) (i + 1) := by
  refine ⟨by rw [List.length_append, h.ln]; rfl, fun z hz => ?_, fun j z hz => ?_⟩
  · rcases List.mem_append.mp hz with hz | hz
    · exact h.rc z hz
    · rw [List.mem_singleton.mp hz]; exact hy
  · by_cases hj : j < ys.length
    · rw [List.getElem?_append_left hj] at hz; exact h.tg j z hz
    · rw [List.getElem?_append_right (by omega)] at hz
      by_cases h0 : j - ys.length = 0
      · rw [h0] at hz
        have e : y = z := Option.some.inj hz
        have hj2 : j = i := by have := h.ln; omega
        rw [← e, hj2]; exact ht
      · rw [show j - ys.length = (j - ys.length - 1) + 1 by omega] at hz; cases hz
theorem NmI.nodup {kf : Str → List Nat} {kv : Nat → List Nat} {ys : List Str} {i : Nat} (h : NmI kf kv ys i) (hi : ∀ j k, j < i → k < i → kv j = kv k → j = k) : ys.Nodup := by
  unfold List.Nodup
  rw [List.pairwise_iff_getElem]
  intro j k hj hk hjk e
  have e1 := h.tg j _ (List.getElem?_eq_getElem hj)
  have e2 := h.tg k _ (List.getElem?_eq_getElem hk)
  rw [e, e2] at e1
  have := hi k j (by have := h.ln; omega) (by have := h.ln; omega) e1
  omega
/-- the letter at a place -/
def lett (k : Int) : Nat := (LET.cps.toList[k.toNat]?).getD 0
theorem lett_inj {a b : Int} (h0 : 0 ≤ a) (h1 : a < 36) (h2 : 0 ≤ b) (h3 : b < 36) (h : lett a = lett b) : a = b := by
  have key : ∀ x : Fin 36, ∀ y : Fin 36, (LET.cps.toList[x.1]?).getD 0 = (LET.cps.toList[y.1]?).getD 0 → x = y := by decide +kernel
  have := key ⟨a.toNat, by omega⟩ ⟨b.toNat, by omega⟩ h
  have := congrArg Fin.val this
  simp only at this
  omega
theorem lett_at {k : Int} {c : Nat} (h0 : 0 ≤ k) (h : atI LET.cps.toList k = some c) : c = lett k := by
  unfold atI at h
  cases e : ixN LET.cps.toList.length k with
  | none => rw [e] at h; cases h
  | some j =>
    rw [e] at h
    have h : LET.cps.toList[j]? = some c := h
    obtain ⟨_, rfl⟩ := ixN_some.mp e
    unfold lett
    unfold ixj at h
    rw [if_pos h0] at h
    rw [h]; rfl
theorem str_app {a b : Str} : (a ++ b).cps.toList = a.cps.toList ++ b.cps.toList := by
  show (a.cps ++ b.cps).toList = _
  simp
/-- names are told apart -/
theorem nm_keys (d0 d1 d2 n : Int) (h10 : 0 ≤ d1) (h11 : d1 < 36) (h20 : 0 ≤ d2) (h21 : d2 < 35) (hn : n ≤ 1000) : ∃ (kf : Str → List Nat) (kv : Nat → List Nat), (∀ j k : Nat, (j : Int) < n → (k : Int) < n → kv j = kv k → j = k) ∧
    (∀ (i : Nat) t, d0 = 0 → n * (1 + d2 / 5) ≤ 36 → atI LET.cps.toList ((d1 + (0 + (i : Int)) * (1 + d2 / 5)) % 36) = some t → kf ⟨#[t]⟩ = kv i) ∧
    (∀ (i : Nat) (F : Str) c7 c8, ¬ (d0 = 0 ∧ n * (1 + d2 / 5) ≤ 36) → atI LET.cps.toList ((36 * d1 + d2 + 7 * (0 + (i : Int))) % 1296 / 36) = some c7 → atI LET.cps.toList ((36 * d1 + d2 + 7 * (0 + (i : Int))) % 1296 % 36) = some c8 →
      (d2 % 2 = 0 → kf (F ++ ((⟨#[c7]⟩ : Str) ++ ⟨#[c8]⟩)) = kv i) ∧ (d2 % 2 = 1 → kf (((⟨#[c7]⟩ : Str) ++ ⟨#[c8]⟩) ++ F) = kv i)) := by
  by_cases hA : d0 = 0 ∧ n * (1 + d2 / 5) ≤ 36
  · refine ⟨fun y => y.cps.toList, fun i => [lett ((d1 + (0 + (i : Int)) * (1 + d2 / 5)) % 36)], fun j k hj hk e => ?_, fun i t _ _ ha => ?_, fun i F c7 c8 h => absurd hA h⟩
    · have e := lett_inj (Int.emod_nonneg _ (by decide)) (Int.emod_lt_of_pos _ (by decide)) (Int.emod_nonneg _ (by decide)) (Int.emod_lt_of_pos _ (by decide)) (List.cons.inj e).1
      obtain ⟨_, hA⟩ := hA
      have hs : 1 ≤ 1 + d2 / 5 := by omega
      generalize 1 + d2 / 5 = st at *
      have b1 : (0 : Int) ≤ (j : Int) * st := Int.mul_nonneg (by omega) (by omega)
      have b2 : (0 : Int) ≤ (k : Int) * st := Int.mul_nonneg (by omega) (by omega)
      have b3 : ((j : Int) + 1) * st ≤ n * st := Int.mul_le_mul_of_nonneg_right (by omega) (by omega)
      have b4 : ((k : Int) + 1) * st ≤ n * st := Int.mul_le_mul_of_nonneg_right (by omega) (by omega)
      rw [Int.add_mul, Int.one_mul] at b3 b4
      rw [Int.zero_add, Int.zero_add] at e
      have e2 : (j : Int) * st = (k : Int) * st := by omega
      have := Int.eq_of_mul_eq_mul_right (by omega) e2
      omega
    · rw [lett_at (Int.emod_nonneg _ (by decide)) ha]
  · have inj : ∀ j k : Nat, (j : Int) < n → (k : Int) < n → [lett ((36 * d1 + d2 + 7 * (0 + (j : Int))) % 1296 / 36), lett ((36 * d1 + d2 + 7 * (0 + (j : Int))) % 1296 % 36)] = [lett ((36 * d1 + d2 + 7 * (0 + (k : Int))) % 1296 / 36), lett ((36 * d1 + d2 + 7 * (0 + (k : Int))) % 1296 % 36)] → j = k := fun j k hj hk e => by
      have e1 := lett_inj (by omega) (by omega) (by omega) (by omega) (List.cons.inj e).1
      have e2 := lett_inj (by omega) (by omega) (by omega) (by omega) (List.cons.inj (List.cons.inj e).2).1
      omega
    rcases (by omega : d2 % 2 = 0 ∨ d2 % 2 = 1) with h | h
    · refine ⟨fun y => y.cps.toList.drop (y.cps.toList.length - 2), _, inj, fun i t a b => absurd ⟨a, b⟩ hA, fun i F c7 c8 _ a b => ⟨fun _ => ?_, fun z => absurd z (by omega)⟩⟩
      rw [lett_at (by omega) a, lett_at (by omega) b]
      simp only [str_app, List.length_append, List.length_cons, List.length_nil]
      rw [List.drop_append_of_le_length (by omega), show F.cps.toList.length + (0 + 1 + (0 + 1)) - 2 = F.cps.toList.length by omega, List.drop_length]
      rfl
    · refine ⟨fun y => y.cps.toList.take 2, _, inj, fun i t a b => absurd ⟨a, b⟩ hA, fun i F c7 c8 _ a b => ⟨fun z => absurd z (by omega), fun _ => ?_⟩⟩
      rw [lett_at (by omega) a, lett_at (by omega) b]
      simp only [str_app]
      rfl
instance ap__law_names {A : CA} {c n : Int} : PAp (p__law_names A) [.int c, .int n] (fun Q X => 0 ≤ n ∧ n ≤ 1000 ∧ ∀ ys : List Str, (ys.length : Int) = n → (∀ y ∈ ys, isRec y = true) → ys.Nodup → Q (sl ys)) := ⟨fun Q X => by
  unfold p__law_names
  simp only [List.cons.injEq, P.int.injEq, and_true, and_assoc, exists_and_left, exists_eq_left']⟩
def w__law_names (A : CA) : WS :=
  (wSeq (wAV 2 (wK (.str "abcdefghijklmnopqrstuvwxyz0123456789")))
  (wSeq (wAV 3 (wCall0 (p__law_draws A) (wCons (wV 0) (wCons (wOp fCat (wLst (wCons (wK (.int 2)) (wCons (wK (.int 36)) (wCons (wK (.int 35)) wNil)))) (wOp fRep (wLst (wCons (wK (.int 7)) (wCons (wK (.int 36)) (wCons (wK (.int 36)) (wCons (wK (.int 36)) wNil))))) (wC 1))) wNil))))
  (wSeq (wAO 4 (wLst wNil))
  (wSeq (wFor (wIR1 (wCons (wC 1) wNil)) (wgN 5)
   (wSeq (wAV 6 (wOp (fIc (fun _ j => 0 < j) fun i j => i % j) (wCB fInt1 (wCons (wOp (fI fun i j => i + j) (wOp fIxL (wC 3) (wK (.int 1))) (wOp (fIc CMulW fun i j => i * j) (wC 5) (wOp (fI fun i j => i + j) (wK (.int 1)) (wOp (fIc CDivW fun i j => i / j) (wOp fIxL (wC 3) (wK (.int 2))) (wK (.int 5)))))) wNil)) (wK (.int 36))))
   (wIfS (wAnd (wT (wOp fEq (wOp fIxL (wC 3) (wK (.int 0))) (wK (.int 0)))) (wT (wOp (fB fun i j => decide (i ≤ j)) (wOp (fIc CMulW fun i j => i * j) (wC 1) (wOp (fI fun i j => i + j) (wK (.int 1)) (wOp (fIc CDivW fun i j => i / j) (wOp fIxL (wC 3) (wK (.int 2))) (wK (.int 5))))) (wK (.int 36)))))
    (wApp 4 (wOp fIxS (wC 2) (wC 6)))
    (wSeq (wAV 7 (wOp (fIc (fun _ j => 0 < j) fun i j => i % j) (wCB fInt1 (wCons (wOp (fI fun i j => i + j) (wOp (fI fun i j => i + j) (wOp (fIc CMulW fun i j => i * j) (wK (.int 36)) (wOp fIxL (wC 3) (wK (.int 1)))) (wOp fIxL (wC 3) (wK (.int 2)))) (wOp (fIc CMulW fun i j => i * j) (wK (.int 7)) (wC 5))) wNil)) (wK (.int 1296))))
    (wSeq (wAV 8 (wOp (fIc CMulW fun i j => i * j) (wOp (fIc CMulW fun i j => i * j) (wK (.int 4)) (wC 5)) (wCB fInt1 (wCons (wOp (fB fun i j => decide (j < i)) (wOp (fIc (fun _ j => 0 < j) fun i j => i % j) (wCB fInt1 (wCons (wOp fIxL (wC 3) (wK (.int 2))) wNil)) (wK (.int 4))) (wK (.int 1))) wNil))))
    (wSeq (wAV 9 (wOp fAddS (wOp fAddS (wOp fIxS (wC 2) (wOp fIxL (wC 3) (wOp (fI fun i j => i + j) (wK (.int 4)) (wC 8)))) (wOp fIxS (wC 2) (wOp fIxL (wC 3) (wOp (fI fun i j => i + j) (wK (.int 5)) (wC 8))))) (wOp fIxS (wC 2) (wOp fIxL (wC 3) (wOp (fI fun i j => i + j) (wK (.int 6)) (wC 8))))))
    (wSeq (wAV 9 (wSl fSlS (wOp fAddS (wC 9) (wC 9)) wONo (wOSo (wOp fIxL (wC 3) (wOp (fI fun i j => i + j) (wK (.int 3)) (wC 8))))))
    (wSeq (wAV 10 (wOp fAddS (wOp fIxS (wC 2) (wOp (fIc CDivW fun i j => i / j) (wC 7) (wK (.int 36)))) (wOp fIxS (wC 2) (wOp (fIc (fun _ j => 0 < j) fun i j => i % j) (wCB fInt1 (wCons (wC 7) wNil)) (wK (.int 36))))))
    (wApp 4 (wOp fIxL (wLst (wCons (wOp fAddS (wC 9) (wC 10)) (wCons (wOp fAddS (wC 10) (wC 9)) wNil))) (wOp (fIc (fun _ j => 0 < j) fun i j => i % j) (wCB fInt1 (wCons (wOp fIxL (wC 3) (wK (.int 2))) wNil)) (wK (.int 2)))))))))))))
  (wRetO 4)))))
theorem pure__law_names (A : CA) : ∀ xs Q X, p__law_names A xs Q X → w__law_names A (endsP true Q X) (startP ["cell", "count", "letters", "drawn", "names", "k", "code", "place", "own", "front", "telling"] [.v, .v] xs) := by
  rintro _ Q X ⟨c, n, rfl, hn0, hn1, q⟩
  unfold w__law_names
  walk_at "pl"
  generalize hL : Str.ofString "abcdefghijklmnopqrstuvwxyz0123456789" = L
  have let_at : ∀ {k : Int}, 0 ≤ k → k < 36 → ∃ c, c ∈ signs ∧ atI L.cps.toList k = some c := fun {k} h0 h1 => by rw [← hL]; exact let_at h0 h1
  refine ⟨sz (by decide), sz (by decide), by omega, by omega, sz (by omega), sz (by rw [flat_len]; simp; omega), ?_⟩
  rw [nmS_P]
  refine ⟨c, nmS n.toNat, rfl, by unfold nmS; rw [List.length_append, flat_len]; simp; omega, fun s hs => ?_, fun ds hd => ?_⟩
  · have hs : s ∈ ([2, 36, 35] : List Int) ∨ s ∈ ([7, 36, 36, 36] : List Int) := (List.mem_append.mp hs).imp id flat_mem
    simp only [List.mem_cons, List.not_mem_nil, or_false] at hs
    omega
  walk_at "pl"
  obtain ⟨d0, _, hd0, h00, h01⟩ := hd.get (k := 0) (s := 2) (by decide) rfl
  obtain ⟨d1, _, hd1, h10, h11⟩ := hd.get (k := 1) (s := 36) (by decide) rfl
  obtain ⟨d2, _, hd2, h20, h21⟩ := hd.get (k := 2) (s := 35) (by decide) rfl
  obtain ⟨kf, kv, kinj, kA, kB⟩ := nm_keys d0 d1 d2 n h10 h11 h20 h21 hn1
  rw [show LET = L from hL] at kA kB
  clear hL
  refine ⟨sz (by decide), by omega, by omega, for_r
    (fun i e => ∃ (ys : List Str) (v5 v6 v7 v8 v9 v10 : Option (Mo × P)), e = [some (.v, .int c), some (.v, .int n), some (.v, .str L), some (.v, il ds), some (.o, sl ys), v5, v6, v7, v8, v9, v10] ∧ NmI kf kv ys i)
    ⟨[], none, none, none, none, none, none, rfl, ⟨rfl, fun y hy => absurd hy (List.not_mem_nil), fun j y h => by simp at h⟩⟩ ?_ ?_⟩
  · rintro i _ hi ⟨ys, v5, v6, v7, v8, v9, v10, rfl, hI⟩
    have hyl := hI.ln
    have hz : ys.length < sizeLine := szt (by omega)
    have m1 : CMulW (0 + (i : Int)) (1 + d2 / 5) := mul_s (by omega) (by omega)
    have m2 : CMulW n (1 + d2 / 5) := mul_s (by omega) (by omega)
    have m3 : CMulW 7 (0 + (i : Int)) := mul_s (by omega) (by omega)
    have m4 : CMulW 36 d1 := mul_s (by omega) (by omega)
    have m5 : CMulW 4 (0 + (i : Int)) := mul_s (by omega) (by omega)
    -- a longer name
    have long : ∀ x : Int, ∃ r : Prop, r := fun _ => ⟨True, trivial⟩
    obtain ⟨m, hm, hW⟩ : ∃ m : Nat, m < n.toNat ∧ 4 * (0 + (i : Int)) * (if 1 < d2 % 4 then 1 else 0) = 4 * (m : Int) := by
      by_cases hb : 1 < d2 % 4
      · exact ⟨i, hi, by rw [if_pos hb]; omega⟩
      · exact ⟨0, by omega, by rw [if_neg hb]; omega⟩
    obtain ⟨e3, _, he3, _, _⟩ := hd.get (k := 3 + 4 * (m : Int)) (s := 7) (by omega) (by rw [show (3 + 4 * (m : Int)).toNat = 3 + 4 * m + 0 by omega, nmS_get hm (by decide)]; rfl)
    have pick : ∀ j : Nat, 1 ≤ j → j < 4 → ∃ e c, atI (ds.map P.int) (((3 + j : Nat) : Int) + 4 * (m : Int)) = some (.int e) ∧ c ∈ signs ∧ atI L.cps.toList e = some c := fun j hj0 hj => by
      obtain ⟨e, _, he, h0, h1⟩ := hd.get (k := ((3 + j : Nat) : Int) + 4 * (m : Int)) (s := 36) (by omega) (by
        rw [show (((3 + j : Nat) : Int) + 4 * (m : Int)).toNat = 3 + 4 * m + j by omega, nmS_get hm hj]
        match j, hj0, hj with
        | 1, _, _ => rfl
        | 2, _, _ => rfl
        | 3, _, _ => rfl)
      obtain ⟨c, hc, ha⟩ := let_at h0 h1
      exact ⟨e, c, he, hc, ha⟩
    obtain ⟨e4, c4, he4, hc4, ha4⟩ := pick 1 (by decide) (by decide)
    obtain ⟨e5, c5, he5, hc5, ha5⟩ := pick 2 (by decide) (by decide)
    obtain ⟨e6, c6, he6, hc6, ha6⟩ := pick 3 (by decide) (by decide)
    have he4 : atI (ds.map P.int) (4 + 4 * (m : Int)) = some (.int e4) := he4
    have he5 : atI (ds.map P.int) (5 + 4 * (m : Int)) = some (.int e5) := he5
    have he6 : atI (ds.map P.int) (6 + 4 * (m : Int)) = some (.int e6) := he6
    obtain ⟨c7, c8, hc7, hc8, ha7, ha8⟩ : ∃ c7 c8, c7 ∈ signs ∧ c8 ∈ signs ∧ atI L.cps.toList ((36 * d1 + d2 + 7 * (0 + (i : Int))) % 1296 / 36) = some c7 ∧ atI L.cps.toList ((36 * d1 + d2 + 7 * (0 + (i : Int))) % 1296 % 36) = some c8 := by
      have hp0 : 0 ≤ (36 * d1 + d2 + 7 * (0 + (i : Int))) % 1296 := Int.emod_nonneg _ (by decide)
      have hp1 : (36 * d1 + d2 + 7 * (0 + (i : Int))) % 1296 < 1296 := Int.emod_lt_of_pos _ (by decide)
      generalize (36 * d1 + d2 + 7 * (0 + (i : Int))) % 1296 = pl at hp0 hp1 ⊢
      obtain ⟨c7, hc7, ha7⟩ := let_at (k := pl / 36) (Int.ediv_nonneg hp0 (by decide)) (Int.ediv_lt_of_lt_mul (by decide) (show pl < 36 * 36 from hp1))
      obtain ⟨c8, hc8, ha8⟩ := let_at (k := pl % 36) (Int.emod_nonneg _ (by decide)) (Int.emod_lt_of_pos _ (by decide))
      exact ⟨c7, c8, hc7, hc8, ha7, ha8⟩
    clear pick long
    obtain ⟨t, ht1, ht2⟩ := let_at (k := (d1 + (0 + (i : Int)) * (1 + d2 / 5)) % 36) (Int.emod_nonneg _ (by decide)) (Int.emod_lt_of_pos _ (by decide))
    have k1 : CDivW d2 5 := div_s (by omega) (by omega)
    have k2 : CMulW (4 * (0 + (i : Int))) (if 1 < d2 % 4 then 1 else 0) := by split <;> exact mul_s (by omega) (by omega)
    have kA1 := kA i t
    have kB1 := fun F hh => kB i F c7 c8 hh ha7 ha8
    have hid := Hid.mk (And.intro kA1 (And.intro kB1 kinj))
    clear let_at q kA kB kA1 kB1 kinj
    have hone : ∀ c : Nat, (⟨#[c]⟩ : Str).length = 1 := fun _ => rfl
    walk_at "pq"
    obtain ⟨kA1, kB1, kinj⟩ := hid.get
    clear hid
    have hF : ChP (fun c => c ∈ signs) ((⟨#[c4]⟩ : Str) ++ ⟨#[c5]⟩ ++ ⟨#[c6]⟩) := ((ChP.one hc4).app (ChP.one hc5)).app (ChP.one hc6)
    have hT : ChP (fun c => c ∈ signs) ((⟨#[c7]⟩ : Str) ++ ⟨#[c8]⟩) := (ChP.one hc7).app (ChP.one hc8)
    have lF2 : ((⟨#[c4]⟩ : Str) ++ ⟨#[c5]⟩).length = 2 := by rw [Str.length_append, hone, hone]
    have lF : ((⟨#[c4]⟩ : Str) ++ ⟨#[c5]⟩ ++ ⟨#[c6]⟩).length = 3 := by rw [Str.length_append, lF2, hone]
    have lT : ((⟨#[c7]⟩ : Str) ++ ⟨#[c8]⟩).length = 2 := by rw [Str.length_append, hone, hone]
    rw [lF2]
    generalize (⟨#[c4]⟩ : Str) ++ ⟨#[c5]⟩ ++ ⟨#[c6]⟩ = F at *
    generalize (⟨#[c7]⟩ : Str) ++ ⟨#[c8]⟩ = T at *
    obtain ⟨r1, r2, l6, lc⟩ := name_rec (hi := some e3) hF hT lF lT
    split
    · rename_i hd00
      split
      · rename_i hcn
        exact ⟨hyl ▸ hz, ys ++ [⟨#[t]⟩], _, _, _, _, _, _, by rw [sl_snoc], hI.more (rec_of (by rw [hone]; omega) (by rw [hone]; omega) (ChP.one ht1)) (kA1 hd00 hcn ht2)⟩
      · rename_i hcn
        have kB2 := fun F => kB1 F fun z => hcn z.2
        refine ⟨sz (by omega), sz (by omega), div_s (by omega) (by omega), sz (by omega), sz (by omega), ?_⟩
        rcases (by omega : d2 % 2 = 0 ∨ d2 % 2 = 1) with h | h
        · have kB3 := (kB2 (cutS (F ++ F) none (some e3))).1 h
          rw [h]
          exact ⟨_, rfl, hyl ▸ hz, ys ++ [_], _, _, _, _, _, _, by rw [sl_snoc], hI.more r1 kB3⟩
        · have kB3 := (kB2 (cutS (F ++ F) none (some e3))).2 h
          rw [h]
          exact ⟨_, rfl, hyl ▸ hz, ys ++ [_], _, _, _, _, _, _, by rw [sl_snoc], hI.more r2 kB3⟩
    · rename_i hd00
      have kB2 := fun F => kB1 F fun z => hd00 z.1
      refine ⟨sz (by omega), sz (by omega), div_s (by omega) (by omega), sz (by omega), sz (by omega), ?_⟩
      rcases (by omega : d2 % 2 = 0 ∨ d2 % 2 = 1) with h | h
      · have kB3 := (kB2 (cutS (F ++ F) none (some e3))).1 h
        rw [h]
        exact ⟨_, rfl, hyl ▸ hz, ys ++ [_], _, _, _, _, _, _, by rw [sl_snoc], hI.more r1 kB3⟩
      · have kB3 := (kB2 (cutS (F ++ F) none (some e3))).2 h
        rw [h]
        exact ⟨_, rfl, hyl ▸ hz, ys ++ [_], _, _, _, _, _, _, by rw [sl_snoc], hI.more r2 kB3⟩
  · rintro _ ⟨ys, v5, v6, v7, v8, v9, v10, rfl, hI⟩
    walk_at "pl"
    have := hI.ln
    exact q ys (by omega) hI.rc (hI.nodup fun j k hj hk => kinj j k (by omega) (by omega))
--@@DEF _law_wild_log
def p__law_wild_log (A : CA) : PSp := fun xs Q X =>
  (∃ (rs : List (Int × Str)) (cs : List Int) (w m : Int), xs = [rl rs, il cs, .int w, .int m] ∧ (0 < rs.length ∧ rs.length ≤ 100 ∧ cs.length ≤ 100 ∧ (1 ≤ w ∧ w ≤ 40) ∧ ∀ ds : List (Int × List Int), logOk rs w ds → (∀ d ∈ ds, d.2.length ≤ 1000) → ds.length ≤ 100 → Q (lgP ds)))
instance ap__law_wild_log {A : CA} {rs : List (Int × Str)} {cs : List Int} {w m : Int} {xs_rs : List P} [h_rs : EL rowP xs_rs rs] {xs_cs : List P} [h_cs : EL P.int xs_cs cs] : PAp (p__law_wild_log A) [.lst xs_rs, .lst xs_cs, .int w, .int m] (fun Q X =>
  0 < rs.length ∧ rs.length ≤ 100 ∧ cs.length ≤ 100 ∧ (1 ≤ w ∧ w ≤ 40) ∧ ∀ ds : List (Int × List Int), logOk rs w ds → (∀ d ∈ ds, d.2.length ≤ 1000) → ds.length ≤ 100 → Q (lgP ds)) := ⟨fun Q X => by
  unfold p__law_wild_log
  simp only [h_rs.eq, h_cs.eq, List.cons.injEq, P.lst.injEq, P.tup.injEq, P.ins.injEq, P.int.injEq, P.str.injEq, P.bl.injEq, P.scr.injEq, P.dct.injEq, int_inj, str_inj, bl_inj, row_inj, ii_inj, dd_inj, il_inj, tl_inj, dI_inj, rs_inj, lg_inj, ob_inj, and_true, true_and, and_assoc, exists_and_left, exists_eq_left', exists_eq_left, eq_self, reduceCtorEq, false_and, and_false, exists_false, or_false, false_or, List.nil_eq, List.map_eq_nil_iff]⟩
def w__law_wild_log (A : CA) : WS :=
  (wSeq (wAO 4 (wLst wNil))
  (wSeq (wFor (wILv 1) (wgN 5)
   (wSeq (wAV 6 (wCall0 (p__law_draws A) (wCons (wV 5) (wCons (wOp fCat (wLst (wCons (wK (.int 64)) (wCons (wK (.int 3)) wNil))) (wOp fRep (wLst (wCons (wK (.int 2)) wNil)) (wCB fLen (wCons (wC 0) wNil)))) wNil))))
   (wSeq (wAV 7 (wLc (wIR1 (wCons (wCB fLen (wCons (wC 0) wNil)) wNil)) (wgN 11) (wT (wOp (fB fun i j => decide (j < i)) (wCB fLen (wCons (wLc (wIL (wC 0)) (wgN 12) (wT (wOp (fB fun i j => decide (i < j)) (wOp fIxT (wC 12) (wK (.int 0))) (wOp fIxT (wOp fIxL (wC 0) (wC 11)) (wK (.int 0))))) (wV 12) [12]) wNil)) (wK (.int 0)))) (wV 11) [11]))
   (wSeq (wIfS (wOr (wT (wOp fEq (wCB fLen (wCons (wC 7) wNil)) (wK (.int 0)))) (wT (wOp (fB fun i j => decide (j ≤ i)) (wCB fLen (wCons (wC 4) wNil)) (wC 3))))
    (wRetO 4)
    wNx)
   (wSeq (wAV 8 (wOp fIxL (wC 7) (wOp (fIc (fun _ j => 0 < j) fun i j => i % j) (wCB fInt1 (wCons (wOp fIxL (wC 6) (wK (.int 0))) wNil)) (wCB fLen (wCons (wC 7) wNil)))))
   (wSeq (wAV 9 (wLc (wIR1 (wCons (wCB fLen (wCons (wC 0) wNil)) wNil)) (wgN 11) (wT (wOp (fB fun i j => decide (i < j)) (wOp fIxT (wOp fIxL (wC 0) (wC 11)) (wK (.int 0))) (wOp fIxT (wOp fIxL (wC 0) (wC 8)) (wK (.int 0))))) (wV 11) [11]))
   (wSeq (wAV 10 (wLc (wIR1 (wCons (wCB fLen (wCons (wC 9) wNil)) wNil)) (wgN 11) (wT (wOp fEq (wOp fIxL (wC 6) (wOp (fI fun i j => i + j) (wK (.int 2)) (wC 11))) (wK (.int 1)))) (wOp fIxL (wC 9) (wC 11)) [11]))
   (wSeq (wAV 10 (wSl fSlL (wC 10) wONo (wOSo (wOp (fI fun i j => i + j) (wK (.int 1)) (wOp (fIc CDivW fun i j => i / j) (wOp (fIc CMulW fun i j => i * j) (wOp fIxL (wC 6) (wK (.int 1))) (wOp (fI fun i j => i - j) (wC 2) (wK (.int 1)))) (wK (.int 2)))))))
   (wCut (wIfS (wT (wOp fEq (wCB fLen (wCons (wC 10) wNil)) (wK (.int 0))))
    (wAV 10 (wLst (wCons (wOp fIxL (wC 9) (wOp (fIc (fun _ j => 0 < j) fun i j => i % j) (wCB fInt1 (wCons (wOp (fIc CDivW fun i j => i / j) (wOp fIxL (wC 6) (wK (.int 0))) (wK (.int 8))) wNil)) (wCB fLen (wCons (wC 9) wNil)))) wNil)))
    wNx)
   (wSeq (wApp 4 (wTup (wCons (wV 8) (wCons (wCB fTupL (wCons (wC 10) wNil)) wNil))))
   (wAV 0 (wCall0 (p__law_moved A) (wCons (wC 0) (wCons (wV 8) (wCons (wC 10) wNil)))))))))))))))
  (wRetO 4)))
theorem pure__law_wild_log (A : CA) : ∀ xs Q X, p__law_wild_log A xs Q X → w__law_wild_log A (endsP true Q X) (startP ["rows", "cells", "width", "most", "log", "cell", "drawn", "sources", "source", "under", "picked", "k", "row"] [.v, .b, .v, .v] xs) := by
  rintro _ Q X ⟨rs, cs, w, m, rfl, h0, hn, hcs, hw, q⟩
  unfold w__law_wild_log
  walk_at "x"
  refine forA2 (l := cs) [5, 6, 7, 8, 9, 10, 11, 12] 0 4 .v .o rl lgP (fun i c ds => (c.length = rs.length ∧ c = aftL rs ds ∧ logOk rs w ds) ∧ (∀ d ∈ ds, d.2.length ≤ 1000) ∧ ds.length = i) rs [] ⟨⟨rfl, rfl, trivial⟩, fun d hd => absurd hd List.not_mem_nil, rfl⟩ ⟨_, _, _, _, _, _, _, _, rfl⟩ ?_ ?_
  · rintro i cell c ds e' hcell hi ⟨⟨hcl, hca, hlo⟩, hds, hdl⟩ ⟨v5, v6, v7, v8, v9, v10, v11, v12, rfl⟩
    walk_at "x"
    refine ⟨by rw [List.flatten_replicate_singleton, List.length_replicate]; omega, by rw [List.flatten_replicate_singleton, List.length_replicate]; omega, fun s hs => ?_, fun zs hd => ?_⟩
    · rw [List.flatten_replicate_singleton] at hs
      simp only [List.mem_cons, List.mem_replicate] at hs
      omega
    have hzl := hd.len
    rw [List.flatten_replicate_singleton] at hzl
    simp only [List.length_cons, List.length_replicate] at hzl
    have b0 := hd.b (k := 0) (by decide) rfl
    have b1 := hd.b (k := 1) (by decide) rfl
    clear hd
    refine ⟨by omega, by omega, ?_⟩
    refine lcIf (l := rgI 0 c.length) (c := fun k => 0 < ((c.filter fun r => decide (r.1 < (gx c k).1)).length : Int)) (ci := fun _ => inferInstance) (f := fun x => x) ?_ ?_ ?_
    · rw [rgI_len]; omega
    · intro k hk Q Q0 h
      have hk := rgI_mem.mp hk
      have s1 : -(c.length : Int) ≤ k := by omega
      have s2 : k < (c.length : Int) := by omega
      walk_at "w"
      refine lcMf (l := c) (c := fun r => r.1 < (gx c k).1) (ci := fun _ => inferInstance) (f := rowP) ?_ ?_ ?_
      · omega
      · intro r hr Q Q0 h
        walk_at "w"
        simp only [s1, s2, true_and]
        exact h
      walk_at "w"
      exact h
    rw [List.map_id']
    have hso : ∀ k ∈ (rgI 0 c.length).filter (fun k => decide (0 < ((c.filter fun r => decide (r.1 < (gx c k).1)).length : Int))), (0 ≤ k ∧ k < (c.length : Int)) ∧ ∃ j : Int, (0 ≤ j ∧ j < (c.length : Int)) ∧ (gx c j).1 < (gx c k).1 := fun k hk => by
      obtain ⟨h1, h2⟩ := List.mem_filter.mp hk
      have h1 := rgI_mem.mp h1
      obtain ⟨r, hr⟩ := List.exists_mem_of_length_pos (by have := of_decide_eq_true h2; omega : 0 < (c.filter fun r => decide (r.1 < (gx c k).1)).length)
      obtain ⟨h3, h4⟩ := List.mem_filter.mp hr
      obtain ⟨j, hj⟩ := List.mem_iff_getElem?.mp h3
      have hjl := (List.getElem?_eq_some_iff.mp hj).1
      refine ⟨by omega, j, by omega, ?_⟩
      rw [gx_nn (by omega), Int.toNat_natCast, hj]
      exact of_decide_eq_true h4
    generalize (rgI 0 c.length).filter (fun k => decide (0 < ((c.filter fun r => decide (r.1 < (gx c k).1)).length : Int))) = so at *
    walk_at "x"
    have hfin : ds.length ≤ 100 := by omega
    by_cases hz0 : (so.length : Int) = 0
    · rw [if_pos hz0]
      exact q ds hlo hds hfin
    rw [if_neg hz0]
    by_cases hm : m ≤ (ds.length : Int)
    · rw [if_pos hm]
      exact q ds hlo hds hfin
    rw [if_neg hm]
    have m0 := Int.emod_nonneg (gx zs 0) (show (so.length : Int) ≠ 0 by omega)
    have m1 := Int.emod_lt_of_pos (gx zs 0) (show 0 < (so.length : Int) by omega)
    have hsr := hso _ (gx_mem (l := so) (i := gx zs 0 % (so.length : Int)) ⟨by omega, m1⟩)
    refine ⟨by omega, by omega, by omega, by omega, m1, by omega, by omega, ?_⟩
    generalize gx so (gx zs 0 % (so.length : Int)) = sr at *
    refine lcIf (l := rgI 0 c.length) (c := fun k => (gx c k).1 < (gx c sr).1) (ci := fun _ => inferInstance) (f := fun x => x) ?_ ?_ ?_
    · rw [rgI_len]; omega
    · intro k hk Q Q0 h
      have hk := rgI_mem.mp hk
      have s1 : -(c.length : Int) ≤ k := by omega
      have s2 : k < (c.length : Int) := by omega
      have s3 : -(c.length : Int) ≤ sr := by omega
      have s4 : sr < (c.length : Int) := by omega
      walk_at "w"
      simp only [s1, s2, s3, s4, true_and]
      exact h
    rw [List.map_id']
    have hun : ∀ k ∈ (rgI 0 c.length).filter (fun k => decide ((gx c k).1 < (gx c sr).1)), 0 ≤ k ∧ k < (c.length : Int) := fun k hk => by
      have := rgI_mem.mp (List.mem_filter.mp hk).1
      omega
    have hunl : ∀ k ∈ (rgI 0 c.length).filter (fun k => decide ((gx c k).1 < (gx c sr).1)), (gx c k).1 < (gx c sr).1 := fun k hk => of_decide_eq_true (List.mem_filter.mp hk).2
    have hup : ((rgI 0 c.length).filter (fun k => decide ((gx c k).1 < (gx c sr).1))).Pairwise (· < ·) := List.Pairwise.filter _ rgI_pw
    have hu0 : 0 < ((rgI 0 c.length).filter (fun k => decide ((gx c k).1 < (gx c sr).1))).length := by
      obtain ⟨_, j, hj, hlt⟩ := hsr
      exact List.length_pos_of_mem (a := j) (List.mem_filter.mpr ⟨rgI_mem.mpr ⟨by omega, by omega⟩, decide_eq_true hlt⟩)
    have hul : ((rgI 0 c.length).filter (fun k => decide ((gx c k).1 < (gx c sr).1))).length ≤ c.length := by
      have := List.length_filter_le (fun k => decide ((gx c k).1 < (gx c sr).1)) (rgI 0 c.length)
      rwa [rgI_len] at this
    generalize (rgI 0 c.length).filter (fun k => decide ((gx c k).1 < (gx c sr).1)) = un at *
    walk_at "x"
    refine lcIf (l := rgI 0 un.length) (c := fun k => gx zs (2 + k) = 1) (ci := fun _ => inferInstance) (f := fun k => gx un k) ?_ ?_ ?_
    · rw [rgI_len]; omega
    · intro k hk Q Q0 h
      have hk := rgI_mem.mp hk
      have s1 : -(zs.length : Int) ≤ 2 + k := by omega
      have s2 : 2 + k < (zs.length : Int) := by omega
      have s3 : -(un.length : Int) ≤ k := by omega
      have s4 : k < (un.length : Int) := by omega
      walk_at "w"
      simp only [s1, s2, s3, s4, true_and]
      exact h
    have hpk : (List.map (fun k => gx un k) (List.filter (fun a => decide (gx zs (2 + a) = 1)) (rgI 0 un.length))).Sublist un := by
      have h := (List.filter_sublist (p := fun a => decide (gx zs (2 + a) = 1)) (l := rgI 0 un.length)).map (gx un)
      rwa [rgI_gx] at h
    generalize List.map (fun k => gx un k) (List.filter (fun a => decide (gx zs (2 + a) = 1)) (rgI 0 un.length)) = pk at *
    have hmul : 0 ≤ gx zs 1 * (w - 1) := Int.mul_nonneg b1.1 (by omega)
    refine ⟨by omega, by omega, mul_s (by omega) (by omega), div_s (by omega) (by omega), ?_⟩
    have hmu2 : gx zs 1 * (w - 1) ≤ 2 * (w - 1) := Int.mul_le_mul_of_nonneg_right (by omega) (by omega)
    generalize gx zs 1 * (w - 1) = mu at *
    walk_at "x"
    rw [cutL_hi (by omega)]
    have hpt : (pk.take (1 + mu / 2).toNat).Sublist un := (List.take_sublist _ _).trans hpk
    have hptl : (pk.take (1 + mu / 2).toNat).length ≤ w.toNat := by
      rw [List.length_take]; omega
    generalize pk.take (1 + mu / 2).toNat = p1 at *
    refine cutA 10 .v il (fun l => 0 < l.length ∧ l.Sublist un ∧ (l.length : Int) ≤ w) ?_ fun p2 h2 => ?_
    · walk_at "x"
      split
      · have u0 := Int.emod_nonneg (gx zs 0 / 8) (show (un.length : Int) ≠ 0 by omega)
        have u1 := Int.emod_lt_of_pos (gx zs 0 / 8) (show 0 < (un.length : Int) by omega)
        refine ⟨by omega, by omega, div_s (by omega) (by omega), by omega, by omega, u1, [gx un (gx zs 0 / 8 % (un.length : Int))], rfl, by show 0 < 1; decide, ?_, by show ((1 : Nat) : Int) ≤ w; omega⟩
        exact List.singleton_sublist.mpr (gx_mem ⟨by omega, u1⟩)
      · exact ⟨by omega, hpt, by omega⟩
    obtain ⟨h20, h2s, h2w⟩ := h2
    have hp2 := List.Pairwise.sublist h2s hup
    have hin2 : ∀ k ∈ p2, 0 ≤ k ∧ k < (c.length : Int) := fun k hk => hun k (h2s.subset hk)
    have hl2 := h2s.length_le
    have hwf : wfB c.length sr p2 = true := wfB_iff.mpr ⟨h20, asc_pw hp2, fun k hk => by
      rcases List.mem_cons.mp hk with rfl | hk
      · exact hsr.1
      · exact hin2 k hk⟩
    have hal := aftR_len (rs := c) (s := sr) (ts := p2)
    walk_at "x"
    have halb : alB c sr p2 w = true := alB_iff.mpr ⟨hwf, h2w, fun t ht => hunl t (h2s.subset ht)⟩
    have hsn := aftL_snoc (rs := rs) (d := (sr, p2)) (ds := ds)
    rw [← hca] at hsn
    refine ⟨aftR c sr p2, by omega, ds ++ [(sr, p2)], hsn.symm, logOk_app hlo ⟨by rw [← hca]; exact halb, trivial⟩, fun d hd => ?_, by rw [List.length_append, List.length_singleton]; omega, rfl, rfl⟩
    rcases List.mem_append.mp hd with hd | hd
    · exact hds d hd
    · rw [List.mem_singleton.mp hd]
      show p2.length ≤ 1000
      omega
  rintro c ds e' ⟨⟨hcl, hca, hlo⟩, hds, hdl⟩ ⟨v5, v6, v7, v8, v9, v10, v11, v12, rfl⟩
  walk_at "x"
  exact q ds hlo hds (by omega)
--@@DEF _law_finished
def p__law_finished (A : CA) : PSp := fun xs Q X =>
  (∃ (rs : List (Int × Str)) (ds : List (Int × List Int)) (pk : Int), xs = [rl rs, lgP ds, .int pk] ∧ ((0 < rs.length ∧ rs.length ≤ 100) ∧ ds.length ≤ 100 ∧ (-100000 ≤ pk ∧ pk ≤ 100000) ∧ (∃ lo D : Int, (∀ r ∈ rs, lo ≤ r.1 ∧ r.1 ≤ lo + D) ∧ (D + 1) * (rs.length : Int) < 1600) ∧ ∀ es : List (Int × List Int), logOk rs 1 es → (∀ d ∈ es, d.2.length ≤ 1000) → es.length ≤ 1600 → (∀ r ∈ aftL rs es, r.1 = (gx (aftL rs es) 0).1) → Q (lgP (ds ++ es))))
instance ap__law_finished {A : CA} {rs : List (Int × Str)} {ds : List (Int × List Int)} {pk : Int} {xs_rs : List P} [h_rs : EL rowP xs_rs rs] {xs_ds : List P} [h_ds : EL ddP xs_ds ds] : PAp (p__law_finished A) [.lst xs_rs, .lst xs_ds, .int pk] (fun Q X =>
  (0 < rs.length ∧ rs.length ≤ 100) ∧ ds.length ≤ 100 ∧ (-100000 ≤ pk ∧ pk ≤ 100000) ∧ (∃ lo D : Int, (∀ r ∈ rs, lo ≤ r.1 ∧ r.1 ≤ lo + D) ∧ (D + 1) * (rs.length : Int) < 1600) ∧ ∀ es : List (Int × List Int), logOk rs 1 es → (∀ d ∈ es, d.2.length ≤ 1000) → es.length ≤ 1600 → (∀ r ∈ aftL rs es, r.1 = (gx (aftL rs es) 0).1) → Q (lgP (ds ++ es))) := ⟨fun Q X => by
  unfold p__law_finished
  simp only [h_rs.eq, h_ds.eq, List.cons.injEq, P.lst.injEq, P.tup.injEq, P.ins.injEq, P.int.injEq, P.str.injEq, P.bl.injEq, P.scr.injEq, P.dct.injEq, int_inj, str_inj, bl_inj, row_inj, ii_inj, dd_inj, il_inj, tl_inj, dI_inj, rs_inj, lg_inj, ob_inj, and_true, true_and, and_assoc, exists_and_left, exists_eq_left', exists_eq_left, eq_self, reduceCtorEq, false_and, and_false, exists_false, or_false, false_or, List.nil_eq, List.map_eq_nil_iff]⟩
def w__law_finished (A : CA) : WS :=
  (wSeq (wAO 3 (wCB fList (wCons (wC 1) wNil)))
  (wSeq (wFor (wIR1 (wCons (wK (.int 1600)) wNil)) (wgN 4)
   (wSeq (wAV 5 (wCB fMax (wCons (wLc (wIL (wC 0)) (wgN 9) (fun _ Q _ => Q true) (wOp fIxT (wC 9) (wK (.int 0))) [9]) wNil)))
   (wSeq (wAV 6 (wLc (wIR1 (wCons (wCB fLen (wCons (wC 0) wNil)) wNil)) (wgN 10) (wT (wOp (fB fun i j => decide (i < j)) (wOp fIxT (wOp fIxL (wC 0) (wC 10)) (wK (.int 0))) (wC 5))) (wV 10) [10]))
   (wSeq (wIfS (wT (wOp fEq (wCB fLen (wCons (wC 6) wNil)) (wK (.int 0))))
    (wRetO 3)
    wNx)
   (wSeq (wAV 7 (wOp fIxL (wLc (wIR1 (wCons (wCB fLen (wCons (wC 0) wNil)) wNil)) (wgN 10) (wT (wOp fEq (wOp fIxT (wOp fIxL (wC 0) (wC 10)) (wK (.int 0))) (wC 5))) (wV 10) [10]) (wK (.int 0))))
   (wSeq (wAV 8 (wOp fIxL (wC 6) (wOp (fIc (fun _ j => 0 < j) fun i j => i % j) (wCB fInt1 (wCons (wOp (fI fun i j => i + j) (wC 2) (wOp (fIc CMulW fun i j => i * j) (wK (.int 7)) (wC 4))) wNil)) (wCB fLen (wCons (wC 6) wNil)))))
   (wSeq (wApp 3 (wTup (wCons (wV 7) (wCons (wTup (wCons (wV 8) wNil)) wNil))))
   (wAV 0 (wCall0 (p__law_moved A) (wCons (wC 0) (wCons (wV 7) (wCons (wLst (wCons (wV 8) wNil)) wNil))))))))))))
  (wRetO 3)))
theorem pure__law_finished (A : CA) : ∀ xs Q X, p__law_finished A xs Q X → w__law_finished A (endsP true Q X) (startP ["rows", "log", "pick", "done", "k", "top", "under", "source", "target", "row", "j"] [.v, .b, .v] xs) := by
  rintro _ Q X ⟨rs, ds, pk, rfl, hn, hdl, hp, ⟨lo, D, hlo0, hD⟩, q⟩
  unfold w__law_finished
  walk_at "x"
  have hM0 : msL rs lo < 1600 := by
    obtain ⟨r, hr, e⟩ := List.mem_map.mp (maxI_mem (l := rs.map Prod.fst) (by rw [List.length_map]; exact hn.1))
    have h1 := hlo0 r hr
    have p : (maxI (rs.map Prod.fst) - lo) * (rs.length : Int) ≤ D * (rs.length : Int) := Int.mul_le_mul_of_nonneg_right (by omega) (by omega)
    have := cT_b (rs := rs) (v := maxI (rs.map Prod.fst))
    rw [Int.add_mul, Int.one_mul] at hD
    unfold msL
    omega
  refine forA2r [4, 5, 6, 7, 8, 9, 10] 0 3 .v .o rl (fun es => lgP (ds ++ es)) (fun i c es => (c.length = rs.length ∧ c = aftL rs es ∧ logOk rs 1 es) ∧ (∀ d ∈ es, d.2.length ≤ 1000) ∧ es.length ≤ i ∧ (∀ r ∈ c, lo ≤ r.1) ∧ msL c lo + (i : Int) ≤ msL rs lo) rs [] ⟨⟨rfl, rfl, trivial⟩, fun d hd => absurd hd List.not_mem_nil, Nat.le_refl _, fun r hr => (hlo0 r hr).1, Int.le_of_eq (Int.add_zero _)⟩ ⟨_, _, _, _, _, _, _, by rw [List.append_nil]; rfl⟩ ?_ ?_
  · rintro i c es e' hi ⟨⟨hcl, hca, hlo⟩, hes, hel, hcm, hmu⟩ ⟨v4, v5, v6, v7, v8, v9, v10, rfl⟩
    walk_at "x"
    refine lcI (l := c) (f := fun r => r.1) ?_ ?_ ?_
    · omega
    · intro r hr Q hQ
      walk_at "x"
      exact hQ
    walk_at "x"
    have hmx := maxI_mem (l := c.map fun r => r.1) (by rw [List.length_map]; omega)
    have htopm : ∀ r ∈ c, r.1 ≤ maxI (c.map fun r => r.1) := fun r hr => le_maxI (List.mem_map_of_mem hr)
    generalize hT : maxI (c.map fun r => r.1) = top at *
    refine lcIf (l := rgI 0 c.length) (c := fun k => (gx c k).1 < top) (ci := fun _ => inferInstance) (f := fun x => x) ?_ ?_ ?_
    · rw [rgI_len]; omega
    · intro k hk Q Q0 h
      have hk := rgI_mem.mp hk
      have s1 : -(c.length : Int) ≤ k := by omega
      have s2 : k < (c.length : Int) := by omega
      walk_at "w"
      simp only [s1, s2, true_and]
      exact h
    rw [List.map_id']
    have hunv : ∀ k ∈ (rgI 0 c.length).filter (fun k => decide ((gx c k).1 < top)), (gx c k).1 < top := fun k hk => of_decide_eq_true (List.mem_filter.mp hk).2
    have hun : ∀ k ∈ (rgI 0 c.length).filter (fun k => decide ((gx c k).1 < top)), 0 ≤ k ∧ k < (c.length : Int) := fun k hk => by
      have := rgI_mem.mp (List.mem_filter.mp hk).1
      omega
    have hlev : ((rgI 0 c.length).filter (fun k => decide ((gx c k).1 < top))).length = 0 → ∀ r ∈ c, r.1 = (gx c 0).1 := fun h0 => by
      have hall : ∀ r ∈ c, r.1 = top := fun r hr => by
        obtain ⟨j, hj⟩ := List.mem_iff_getElem?.mp hr
        have hjl := (List.getElem?_eq_some_iff.mp hj).1
        have h1 := htopm r hr
        by_cases h2 : r.1 < top
        · have h3 : (j : Int) ∈ (rgI 0 c.length).filter (fun k => decide ((gx c k).1 < top)) := List.mem_filter.mpr ⟨rgI_mem.mpr ⟨by omega, by omega⟩, decide_eq_true (by rw [gx_nat hj]; exact h2)⟩
          rw [List.eq_nil_of_length_eq_zero h0] at h3
          exact absurd h3 List.not_mem_nil
        · omega
      intro r hr
      rw [hall r hr, hall _ (gx_mem (l := c) (i := 0) ⟨by omega, by omega⟩)]
    have hunl : ((rgI 0 c.length).filter (fun k => decide ((gx c k).1 < top))).length ≤ c.length := by
      have := List.length_filter_le (fun k => decide ((gx c k).1 < top)) (rgI 0 c.length)
      rwa [rgI_len] at this
    generalize (rgI 0 c.length).filter (fun k => decide ((gx c k).1 < top)) = un at *
    walk_at "x"
    by_cases hz : (un.length : Int) = 0
    · rw [if_pos hz]
      exact q es hlo hes (by omega) (by rw [← hca]; exact hlev (by omega))
    rw [if_neg hz]
    refine ⟨by omega, by omega, ?_⟩
    refine lcIf (l := rgI 0 c.length) (c := fun k => (gx c k).1 = top) (ci := fun _ => inferInstance) (f := fun x => x) ?_ ?_ ?_
    · rw [rgI_len]; omega
    · intro k hk Q Q0 h
      have hk := rgI_mem.mp hk
      have s1 : -(c.length : Int) ≤ k := by omega
      have s2 : k < (c.length : Int) := by omega
      walk_at "w"
      simp only [s1, s2, true_and]
      exact h
    rw [List.map_id']
    have hsol : ∀ k ∈ (rgI 0 c.length).filter (fun k => decide ((gx c k).1 = top)), (gx c k).1 = top := fun k hk => of_decide_eq_true (List.mem_filter.mp hk).2
    have hso : ∀ k ∈ (rgI 0 c.length).filter (fun k => decide ((gx c k).1 = top)), 0 ≤ k ∧ k < (c.length : Int) := fun k hk => by
      have := rgI_mem.mp (List.mem_filter.mp hk).1
      omega
    have hs0 : 0 < ((rgI 0 c.length).filter (fun k => decide ((gx c k).1 = top))).length := by
      obtain ⟨r, hr, e1⟩ := List.mem_map.mp hmx
      obtain ⟨j, hj⟩ := List.mem_iff_getElem?.mp hr
      have hjl := (List.getElem?_eq_some_iff.mp hj).1
      refine List.length_pos_of_mem (a := (j : Int)) (List.mem_filter.mpr ⟨rgI_mem.mpr ⟨by omega, by omega⟩, decide_eq_true ?_⟩)
      rw [gx_nn (by omega), Int.toNat_natCast, hj]
      exact e1
    generalize (rgI 0 c.length).filter (fun k => decide ((gx c k).1 = top)) = so at *
    walk_at "x"
    have m0 := Int.emod_nonneg (pk + 7 * (0 + (i : Int))) (show (un.length : Int) ≠ 0 by omega)
    have m1 := Int.emod_lt_of_pos (pk + 7 * (0 + (i : Int))) (show 0 < (un.length : Int) by omega)
    have hsr := hso _ (gx_mem (l := so) (i := 0) ⟨by omega, by omega⟩)
    have htr := hun _ (gx_mem (l := un) (i := (pk + 7 * (0 + (i : Int))) % (un.length : Int)) ⟨by omega, m1⟩)
    have hst := hsol _ (gx_mem (l := so) (i := 0) ⟨by omega, by omega⟩)
    have htt := hunv _ (gx_mem (l := un) (i := (pk + 7 * (0 + (i : Int))) % (un.length : Int)) ⟨by omega, m1⟩)
    generalize gx so 0 = sr at *
    generalize gx un ((pk + 7 * (0 + (i : Int))) % (un.length : Int)) = tr at *
    have hstep := msL_step (lo := lo) hsr htr (hst.trans hT.symm) (hT.symm ▸ htt : (gx c tr).1 < maxI (c.map Prod.fst)) hcm
    have hw := wf_one hsr htr
    have hal := aftR_len (rs := c) (s := sr) (ts := [tr])
    have halb : alB c sr [tr] 1 = true := al_one hsr htr (by rw [hst]; exact htt)
    have hsn := aftL_snoc (rs := rs) (d := (sr, [tr])) (ds := es)
    rw [← hca] at hsn
    have hlen : (ds ++ es).length = ds.length + es.length := List.length_append
    refine ⟨by omega, m1, by omega, by omega, hw, aftR c sr [tr], by omega, es ++ [(sr, [tr])], hsn.symm, logOk_app hlo ⟨by rw [← hca]; exact halb, trivial⟩, fun d hd => ?_, by rw [List.length_append, List.length_singleton]; omega, hstep.2, by omega, rfl, by rw [List.append_assoc]⟩
    rcases List.mem_append.mp hd with hd | hd
    · exact hes d hd
    · rw [List.mem_singleton.mp hd]
      show 1 ≤ 1000
      decide
  rintro c es e' ⟨⟨hcl, hca, hlo⟩, hes, hel, hcm, hmu⟩ ⟨v4, v5, v6, v7, v8, v9, v10, rfl⟩
  exfalso
  have := msL_b (lo := lo) (rs := c) (by omega) hcm
  omega
--@@DEF _law_walk
def p__law_walk (A : CA) : PSp := fun xs Q X =>
  (∃ (rs : List (Int × Str)) (ds : List (Int × List Int)), xs = [rl rs, lgP ds] ∧ (rs.length ≤ 1000 ∧ ds.length ≤ 100000 ∧ (∀ d ∈ ds, wfB rs.length d.1 d.2 = true ∧ d.2.length ≤ 1000) ∧ Q (.lst ((stsL rs ds).map rl))))
instance ap__law_walk {A : CA} {rs : List (Int × Str)} {ds : List (Int × List Int)} {xs_rs : List P} [h_rs : EL rowP xs_rs rs] {xs_ds : List P} [h_ds : EL ddP xs_ds ds] : PAp (p__law_walk A) [.lst xs_rs, .lst xs_ds] (fun Q X =>
  rs.length ≤ 1000 ∧ ds.length ≤ 100000 ∧ (∀ d ∈ ds, wfB rs.length d.1 d.2 = true ∧ d.2.length ≤ 1000) ∧ Q (.lst ((stsL rs ds).map rl))) := ⟨fun Q X => by
  unfold p__law_walk
  simp only [h_rs.eq, h_ds.eq, List.cons.injEq, P.lst.injEq, P.tup.injEq, P.ins.injEq, P.int.injEq, P.str.injEq, P.bl.injEq, P.scr.injEq, P.dct.injEq, int_inj, str_inj, bl_inj, row_inj, ii_inj, dd_inj, il_inj, tl_inj, dI_inj, rs_inj, lg_inj, ob_inj, and_true, true_and, and_assoc, exists_and_left, exists_eq_left', exists_eq_left, eq_self, reduceCtorEq, false_and, and_false, exists_false, or_false, false_or, List.nil_eq, List.map_eq_nil_iff]⟩
def w__law_walk (A : CA) : WS :=
  (wSeq (wAO 2 (wLst (wCons (wV 0) wNil)))
  (wSeq (wFor (wILv 1) (wgN 3)
   (wSeq (wAV 0 (wCall0 (p__law_moved A) (wCons (wC 0) (wCons (wOp fIxT (wC 3) (wK (.int 0))) (wCons (wOp fIxT (wC 3) (wK (.int 1))) wNil)))))
   (wApp 2 (wV 0))))
  (wRetO 2)))
theorem pure__law_walk (A : CA) : ∀ xs Q X, p__law_walk A xs Q X → w__law_walk A (endsP true Q X) (startP ["rows", "log", "states", "deed"] [.v, .b] xs) := by
  rintro _ Q X ⟨rs, ds, rfl, hn, hd, hw, q⟩
  unfold w__law_walk
  walk_at "x"
  refine forA2 (l := ds) [3] 0 2 .v .o rl (fun (l : List (List (Int × Str))) => P.lst (l.map rl)) (fun i c s => c = aftL rs (ds.take i) ∧ s = (List.range (i + 1)).map fun j => aftL rs (ds.take j)) rs [rs] ⟨rfl, rfl⟩ ⟨_, rfl⟩ ?_ ?_
  · rintro i d c s e' hdi hi ⟨hc, hs⟩ ⟨v3, rfl⟩
    have hmem := List.mem_of_getElem? hdi
    have hwd := hw d hmem
    have hcl : c.length = rs.length := by rw [hc, aftL_len]
    have hsl : s.length = i + 1 := by rw [hs, List.length_map, List.length_range]
    walk_at "x"
    have htk : ds.take (i + 1) = ds.take i ++ [d] := by rw [List.take_succ, hdi]; rfl
    have e1 : aftR c d.1 d.2 = aftL rs (ds.take (i + 1)) := by rw [hc, htk, aftL_snoc]
    refine ⟨by rw [hcl]; exact hwd.1, by omega, e1, ?_⟩
    rw [e1, hs, List.range_succ (n := i + 1), List.map_append, List.map_append]
    rfl
  rintro c s e' ⟨hc, hs⟩ ⟨v3, rfl⟩
  walk_at "x"
  rw [hs]
  exact q
--@@DEF _law_lessened
def p__law_lessened (A : CA) : PSp := fun xs Q X =>
  (∃ (d : List (Str × Int)) (c : Int), xs = [dI d, .int c] ∧ (d.length ≤ 50 ∧ (d.map Prod.fst).Nodup ∧ (∀ z ∈ d.map Prod.fst, SOk z) ∧ (∀ z ∈ d.map Prod.fst, 1 ≤ dm d z ∧ dm d z ≤ 1000) ∧ ∀ d2 : List (Str × Int), d2.length ≤ 50 → (d2.map Prod.fst).Nodup → (∀ z ∈ d2.map Prod.fst, SOk z) → (∀ z, 0 ≤ dm d2 z ∧ dm d2 z ≤ dm d z) → Q (dI d2)))
instance ap__law_lessened {A : CA} {d : List (Str × Int)} {c : Int} {ks_d : List Key} {xs_d : List P} [h_d : ED P.int ks_d xs_d d] : PAp (p__law_lessened A) [.dct ks_d xs_d, .int c] (fun Q X =>
  d.length ≤ 50 ∧ (d.map Prod.fst).Nodup ∧ (∀ z ∈ d.map Prod.fst, SOk z) ∧ (∀ z ∈ d.map Prod.fst, 1 ≤ dm d z ∧ dm d z ≤ 1000) ∧ ∀ d2 : List (Str × Int), d2.length ≤ 50 → (d2.map Prod.fst).Nodup → (∀ z ∈ d2.map Prod.fst, SOk z) → (∀ z, 0 ≤ dm d2 z ∧ dm d2 z ≤ dm d z) → Q (dI d2)) := ⟨fun Q X => by
  unfold p__law_lessened
  simp only [h_d.k, h_d.v, List.cons.injEq, P.lst.injEq, P.tup.injEq, P.ins.injEq, P.int.injEq, P.str.injEq, P.bl.injEq, P.scr.injEq, P.dct.injEq, int_inj, str_inj, bl_inj, row_inj, ii_inj, dd_inj, il_inj, tl_inj, dI_inj, rs_inj, lg_inj, ob_inj, and_true, true_and, and_assoc, exists_and_left, exists_eq_left', exists_eq_left, eq_self, reduceCtorEq, false_and, and_false, exists_false, or_false, false_or, List.nil_eq, List.map_eq_nil_iff]⟩
def w__law_lessened (A : CA) : WS :=
  (wSeq (wAV 2 (wCB fSortS (wCons (wCB fListD (wCons (wC 0) wNil)) wNil)))
  (wSeq (wAV 3 (wCall0 (p__law_draws A) (wCons (wV 1) (wCons (wOp fCat (wLst (wCons (wK (.int 3)) wNil)) (wOp fRep (wLst (wCons (wK (.int 4)) (wCons (wK (.int 840)) wNil))) (wCB fLen (wCons (wC 2) wNil)))) wNil))))
  (wSeq (wAO 4 wDNew)
  (wSeq (wFor (wIR1 (wCons (wCB fLen (wCons (wC 2) wNil)) wNil)) (wgN 5)
   (wIfS (wT (wOp fEq (wOp fIxL (wC 3) (wOp (fI fun i j => i + j) (wK (.int 1)) (wOp (fIc CMulW fun i j => i * j) (wK (.int 2)) (wC 5)))) (wK (.int 0))))
    (wDPut 4 (wOp fIxL (wC 2) (wC 5)) (wDGet (wC 0) (wOp fIxL (wC 2) (wC 5))))
    (wIfS (wOr (wT (wOp (fB fun i j => decide (i < j)) (wOp fIxL (wC 3) (wOp (fI fun i j => i + j) (wK (.int 1)) (wOp (fIc CMulW fun i j => i * j) (wK (.int 2)) (wC 5)))) (wK (.int 3)))) (wT (wOp fEq (wOp fIxL (wC 3) (wK (.int 0))) (wK (.int 0)))))
     (wDPut 4 (wOp fIxL (wC 2) (wC 5)) (wOp (fIc (fun _ j => 0 < j) fun i j => i % j) (wCB fInt1 (wCons (wOp fIxL (wC 3) (wOp (fI fun i j => i + j) (wK (.int 2)) (wOp (fIc CMulW fun i j => i * j) (wK (.int 2)) (wC 5)))) wNil)) (wOp (fI fun i j => i + j) (wDGet (wC 0) (wOp fIxL (wC 2) (wC 5))) (wK (.int 1)))))
     wNx)))
  (wRetO 4)))))
theorem pure__law_lessened (A : CA) : ∀ xs Q X, p__law_lessened A xs Q X → w__law_lessened A (endsP true Q X) (startP ["shares", "cell", "names", "drawn", "lessened", "k"] [.b, .v] xs) := by
  rintro _ Q X ⟨d, c, rfl, hl, hnd, hsk, hd, q⟩
  unfold w__law_lessened
  walk_at "x"
  have hkl : (d.map Prod.fst).length = d.length := List.length_map _
  have hsl : (sortS (d.map Prod.fst)).length = d.length := by rw [(sortS_perm _).length_eq, hkl]
  have hmem : ∀ z ∈ sortS (d.map Prod.fst), z ∈ d.map Prod.fst := fun z hz => sortS_mem.mp hz
  generalize hN : sortS (d.map Prod.fst) = N at *
  have hrl : (List.replicate N.length [(4 : Int), 840]).flatten.length = N.length * 2 := rep_len
  have hrlP : (List.replicate N.length [P.int 4, P.int 840]).flatten.length = N.length * 2 := by
    rw [List.length_flatten, List.map_replicate, List.sum_replicate_nat]; rfl
  refine ⟨by omega, by omega, by omega, by omega, fun s hs => ?_, fun ds hds => ⟨by omega, by omega, ?_⟩⟩
  · rcases List.mem_cons.mp hs with rfl | hs
    · omega
    · obtain ⟨l, hl, hs⟩ := List.mem_flatten.mp hs
      rw [List.eq_of_mem_replicate hl] at hs
      simp only [List.mem_cons, List.not_mem_nil, or_false] at hs
      omega
  have hdl := hds.len
  rw [List.length_cons, hrl] at hdl
  have hdd : ∀ z, 0 ≤ dm d z := fun z => by
    by_cases hz : z ∈ d.map Prod.fst
    · have := hd z hz; omega
    · unfold dm
      have : dget d z = none := by
        cases h : dget d z with
        | none => rfl
        | some a => exact absurd (dget_mem.mp (by rw [h]; rfl)) hz
      rw [this]
      exact Int.le_refl _
  refine forAr [5] 4 .o dI (fun i d2 => d2.length ≤ i ∧ (d2.map Prod.fst).Nodup ∧ (∀ z ∈ d2.map Prod.fst, SOk z) ∧ (∀ z, 0 ≤ dm d2 z ∧ dm d2 z ≤ dm d z)) [] ⟨Nat.le_refl _, List.nodup_nil, (fun z (hz : z ∈ []) => absurd hz List.not_mem_nil), fun z => ⟨Int.le_refl _, hdd z⟩⟩ ⟨_, rfl⟩ ?_ ?_
  · rintro i d2 e' hi ⟨h1, h2, h3, h4⟩ ⟨v5, rfl⟩
    have hzm := hmem _ (gx_mem (l := N) (i := (0 : Int) + (i : Int)) ⟨by omega, by omega⟩)
    have s0 : CMulW 2 (0 + (i : Int)) := mul_s (by omega) (by omega)
    have hput : ∀ a : Int, 0 ≤ a → a ≤ dm d (gx N (0 + (i : Int))) → (dput d2 (gx N (0 + (i : Int))) a).length ≤ i + 1 ∧ ((dput d2 (gx N (0 + (i : Int))) a).map Prod.fst).Nodup ∧ (∀ z ∈ (dput d2 (gx N (0 + (i : Int))) a).map Prod.fst, SOk z) ∧ (∀ z, 0 ≤ dm (dput d2 (gx N (0 + (i : Int))) a) z ∧ dm (dput d2 (gx N (0 + (i : Int))) a) z ≤ dm d z) := fun a a0 a1 => by
      refine ⟨Nat.le_trans dput_len (by omega), dput_nodup h2, fun y hy => ?_, fun y => ?_⟩
      · have h := dget_mem.mpr hy
        rw [dget_put] at h
        by_cases e : y = gx N (0 + (i : Int))
        · rw [e]; exact hsk _ hzm
        · rw [if_neg e] at h
          exact h3 y (dget_mem.mp h)
      · unfold dm
        rw [dget_put]
        by_cases e : y = gx N (0 + (i : Int))
        · rw [if_pos e, e]
          exact ⟨a0, a1⟩
        · rw [if_neg e]
          exact h4 y
    have hv := hd _ hzm
    obtain ⟨v, hvd⟩ := Option.isSome_iff_exists.mp (dget_mem.mpr hzm)
    have hdv : dm d (gx N (0 + (i : Int))) = v := by unfold dm; rw [hvd]; rfl
    have hsz := hsk _ hzm
    rw [hdv] at hv hput
    have m0 := Int.emod_nonneg (gx ds (2 + 2 * (0 + (i : Int)))) (show v + 1 ≠ 0 by omega)
    have m1 := Int.emod_lt_of_pos (gx ds (2 + 2 * (0 + (i : Int)))) (show 0 < v + 1 by omega)
    obtain ⟨p1, p2, p3, p4⟩ := hput v (by omega) (by omega)
    obtain ⟨r1, r2, r3, r4⟩ := hput (gx ds (2 + 2 * (0 + (i : Int))) % (v + 1)) m0 (by omega)
    walk_at "x"
    split
    · exact ⟨by omega, by omega, v, hvd, by omega, by omega, by omega, _, p1, p2, p3, p4, rfl, rfl⟩
    refine ⟨s0, by omega, by omega, ?_⟩
    split
    · exact ⟨s0, by omega, by omega, by omega, by omega, v, hvd, by omega, by omega, by omega, by omega, _, r1, r2, r3, r4, rfl, rfl⟩
    refine ⟨by omega, by omega, ?_⟩
    split
    · exact ⟨s0, by omega, by omega, by omega, by omega, v, hvd, by omega, by omega, by omega, by omega, _, r1, r2, r3, r4, rfl, rfl⟩
    · exact ⟨_, by omega, h2, h3, h4, rfl, rfl⟩
  rintro d2 e' ⟨h1, h2, h3, h4⟩ ⟨v5, rfl⟩
  walk_at "x"
  exact q d2 (by omega) h2 h3 h4
--@@DEF check_demands
def p_check_demands (A : CA) : PSp := fun xs Q X =>
  (∃ (d : List (Str × Int)), xs = [dI d] ∧ ((d.map Prod.fst).length < 64 ∧ (∀ z ∈ d.map Prod.fst, SOk z) ∧ match negL d with | [] => Q .non | z :: _ => X A.InvalidDemands ["record"] [.str z]))
instance ap_check_demands {A : CA} {d : List (Str × Int)} {ks_d : List Key} {xs_d : List P} [h_d : ED P.int ks_d xs_d d] : PAp (p_check_demands A) [.dct ks_d xs_d] (fun Q X =>
  (d.map Prod.fst).length < 64 ∧ (∀ z ∈ d.map Prod.fst, SOk z) ∧ match negL d with | [] => Q .non | z :: _ => X A.InvalidDemands ["record"] [.str z]) := ⟨fun Q X => by
  unfold p_check_demands
  simp only [h_d.k, h_d.v, List.cons.injEq, P.lst.injEq, P.tup.injEq, P.ins.injEq, P.int.injEq, P.str.injEq, P.bl.injEq, P.scr.injEq, P.dct.injEq, int_inj, str_inj, bl_inj, row_inj, ii_inj, dd_inj, il_inj, tl_inj, dI_inj, rs_inj, lg_inj, ob_inj, and_true, true_and, and_assoc, exists_and_left, exists_eq_left', exists_eq_left, eq_self, reduceCtorEq, false_and, and_false, exists_false, or_false, false_or, List.nil_eq, List.map_eq_nil_iff]⟩
def w_check_demands (A : CA) : WS :=
  (wFor (wIL (wCB fSortD (wCons (wC 0) wNil))) (wgN 1)
   (wIfS (wT (wOp (fB fun i j => decide (i < j)) (wDGet (wC 0) (wC 1)) (wK (.int 0))))
    (wRaise A.InvalidDemands ["record"] (wCons (wV 1) wNil))
    wNx))
theorem pure_check_demands (A : CA) : ∀ xs Q X, p_check_demands A xs Q X → w_check_demands A (endsP false Q X) (startP ["demands", "record"] [.b] xs) := by
  rintro _ Q X ⟨d, rfl, hl, hz, q⟩
  unfold w_check_demands
  rw [negL_eq] at q
  walk_at "x"
  refine ⟨by rw [← List.length_map (as := d) (f := Prod.fst)]; exact hl, hz, ?_⟩
  refine forKi [1] (fun i => ((sortS (d.map Prod.fst)).take i).filter (fun z => decide (dm d z < 0)) = []) rfl (fun i z e' hzi hi hI he' => ?_) ⟨_, rfl⟩ ?_
  · obtain ⟨v1, rfl⟩ := he'
    have hm : z ∈ d.map Prod.fst := sortS_mem.mp (List.mem_of_getElem? hzi)
    obtain ⟨a, ha⟩ := Option.isSome_iff_exists.mp (dget_mem.mpr hm)
    have hd : dm d z = a := by unfold dm; rw [ha]; rfl
    walk_at "x"
    rw [ha]
    refine ⟨a, rfl, ?_⟩
    obtain ⟨hi2, hz2⟩ := List.getElem?_eq_some_iff.mp hzi
    split
    · rename_i hneg
      rw [← List.take_append_drop i (sortS (d.map Prod.fst)), List.drop_eq_getElem_cons hi2, hz2, List.filter_append, hI, List.nil_append, List.filter_cons_of_pos (p := fun z => decide (dm d z < 0)) (decide_eq_true (by omega : dm d z < 0))] at q
      exact q
    · rw [take_snoc' hzi, List.filter_append, hI, List.filter_cons_of_neg (p := fun z => decide (dm d z < 0)) (by rw [decide_eq_true_eq]; omega)]
      rfl
  · rintro e' hI ⟨v1, rfl⟩
    walk_at "x"
    rw [List.take_length] at hI
    rw [hI] at q
    exact q
--@@DEF _cap_up_to
def p__cap_up_to (A : CA) : PSp := fun xs Q X =>
  (∃ (t e m w : Int), xs = [.int t, .int e, .int m, .int w] ∧ ((0 ≤ w ∧ w < 65535) ∧ (0 ≤ m ∧ m ≤ 10000) ∧ Q (.int (capU t e m w))))
instance ap__cap_up_to {A : CA} {t e m w : Int}  : PAp (p__cap_up_to A) [.int t, .int e, .int m, .int w] (fun Q X =>
  (0 ≤ w ∧ w < 65535) ∧ (0 ≤ m ∧ m ≤ 10000) ∧ Q (.int (capU t e m w))) := ⟨fun Q X => by
  unfold p__cap_up_to
  simp only [List.cons.injEq, P.lst.injEq, P.tup.injEq, P.ins.injEq, P.int.injEq, P.str.injEq, P.bl.injEq, P.scr.injEq, P.dct.injEq, int_inj, str_inj, bl_inj, row_inj, ii_inj, dd_inj, il_inj, tl_inj, dI_inj, rs_inj, lg_inj, ob_inj, and_true, true_and, and_assoc, exists_and_left, exists_eq_left', exists_eq_left, eq_self, reduceCtorEq, false_and, and_false, exists_false, or_false, false_or, List.nil_eq, List.map_eq_nil_iff]⟩
def w__cap_up_to (A : CA) : WS :=
  (wRet (wCallN0 (p_cap A) (wCons (wCB (fMM fun i j => if j < i then j else i) (wCons (wC 0) (wCons (wOp (fI fun i j => i + j) (wC 1) (wC 2)) wNil))) (wCons (wV 1) wNil)) (wCons (wV 3) wNil)))
theorem pure__cap_up_to (A : CA) : ∀ xs Q X, p__cap_up_to A xs Q X → w__cap_up_to A (endsP false Q X) (startP ["sharpness", "end", "most", "breadth"] [.v, .v, .v, .v] xs) := by
  rintro _ Q X ⟨t, e, m, w, rfl, hw, hm, q⟩
  unfold w__cap_up_to
  walk_at "w"
  refine ⟨hw.1, hw.2, ?_, q⟩
  split <;> omega
--@@DEF _law_sheets
/-- what the sheets by hand and by draws have -/
structure ShtR (rs : List (Int × Str)) (zs : List Str) (b D sm wd lg mo tl hd kd : Int) : Prop where
  pos : 0 < rs.length
  zl : zs.length = rs.length + 1
  nd : zs.Nodup
  zr : ∀ z ∈ zs, isRec z = true
  rz : ∀ r ∈ rs, r.2 ∈ zs.take rs.length
  lo : ∀ r ∈ rs, b ≤ r.1 ∧ r.1 ≤ b + D
  bb : -900 ≤ b ∧ b ≤ 900 ∧ 0 ≤ D
  sz : ((rs.length : Int) ≤ sm ∧ D < wd) ∨ ((rs.length : Int) < lg + mo ∧ D < tl) ∨ ((rs.length : Int) ≤ hd ∧ D ≤ 40 + hd)
  k0 : kd = 0 → (rs.map Prod.snd).Nodup
theorem ShtR.rc {rs : List (Int × Str)} {zs : List Str} {b D sm wd lg mo tl hd kd : Int} (h : ShtR rs zs b D sm wd lg mo tl hd kd) : ∀ r ∈ rs, isRec r.2 = true := fun r hr => h.zr _ (List.mem_of_mem_take (h.rz r hr))
def p__law_sheets (A : CA) : PSp := fun xs Q X =>
  (∃ (ns : List Int) (sm wd lg mo tl hd kd : Int), xs = [.scr ns, .int sm, .int wd, .int lg, .int mo, .int tl, .int hd, .int kd] ∧ ((1 ≤ sm ∧ sm ≤ 100) ∧ (2 ≤ wd ∧ wd ≤ 100) ∧ (1 ≤ lg ∧ lg ≤ 100) ∧ (1 ≤ mo ∧ mo ≤ 100) ∧ (1 ≤ tl ∧ tl ≤ 100) ∧ (1 ≤ hd ∧ hd ≤ 100) ∧ (0 ≤ kd ∧ kd ≤ 9) ∧ ∀ (rs : List (Int × Str)) (zs : List Str) (b D : Int), ShtR rs zs b D sm wd lg mo tl hd kd → Q (.tup [rl rs, sl zs])))
instance ap__law_sheets {A : CA} {ns : List Int} {sm wd lg mo tl hd kd : Int}  : PAp (p__law_sheets A) [.scr ns, .int sm, .int wd, .int lg, .int mo, .int tl, .int hd, .int kd] (fun Q X =>
  (1 ≤ sm ∧ sm ≤ 100) ∧ (2 ≤ wd ∧ wd ≤ 100) ∧ (1 ≤ lg ∧ lg ≤ 100) ∧ (1 ≤ mo ∧ mo ≤ 100) ∧ (1 ≤ tl ∧ tl ≤ 100) ∧ (1 ≤ hd ∧ hd ≤ 100) ∧ (0 ≤ kd ∧ kd ≤ 9) ∧ ∀ (rs : List (Int × Str)) (zs : List Str) (b D : Int), ShtR rs zs b D sm wd lg mo tl hd kd → Q (.tup [rl rs, sl zs])) := ⟨fun Q X => by
  unfold p__law_sheets
  simp only [List.cons.injEq, P.lst.injEq, P.tup.injEq, P.ins.injEq, P.int.injEq, P.str.injEq, P.bl.injEq, P.scr.injEq, P.dct.injEq, int_inj, str_inj, bl_inj, row_inj, ii_inj, dd_inj, il_inj, tl_inj, dI_inj, rs_inj, lg_inj, ob_inj, and_true, true_and, and_assoc, exists_and_left, exists_eq_left', exists_eq_left, eq_self, reduceCtorEq, false_and, and_false, exists_false, or_false, false_or, List.nil_eq, List.map_eq_nil_iff]⟩
def w__law_sheets (A : CA) : WS :=
  (wSeq (wAV 8 (wCall0 (p__law_draws A) (wCons (wCall0 (p__law_given A) (wCons (wV 0) (wCons (wK (.int 0)) wNil))) (wCons (wLst (wCons (wK (.int 8)) (wCons (wK (.int 8)) (wCons (wK (.int 16)) (wCons (wK (.int 13)) (wCons (wV 1) (wCons (wOp (fI fun i j => i - j) (wC 2) (wK (.int 1))) (wCons (wV 4) (wCons (wV 5) (wCons (wK (.int 4)) (wCons (wK (.int 40)) (wCons (wK (.int 2)) (wCons (wK (.int 840)) (wCons (wV 6) wNil)))))))))))))) wNil))))
  (wSeq (wAV 9 (wOp (fI fun i j => i + j) (wK (.int 1)) (wOp fIxL (wC 8) (wK (.int 4)))))
  (wSeq (wAV 10 (wOp (fI fun i j => i + j) (wK (.int 2)) (wOp fIxL (wC 8) (wK (.int 5)))))
  (wCut (wIfS (wT (wOp fEq (wOp fIxL (wC 8) (wK (.int 1))) (wK (.int 0))))
   (wSeq (wAV 9 (wOp (fI fun i j => i + j) (wC 3) (wOp fIxL (wC 8) (wK (.int 6)))))
   (wAV 10 (wOp (fI fun i j => i + j) (wK (.int 1)) (wOp fIxL (wC 8) (wK (.int 7))))))
   wNx)
  (wSeq (wAV 11 (wK (.int 4)))
  (wCut (wIfS (wT (wOp fEq (wOp fIxL (wC 8) (wK (.int 0))) (wK (.int 0))))
   (wSeq (wAV 11 (wOp fIxL (wC 8) (wK (.int 8))))
   (wAV 9 (wOp (fI fun i j => i + j) (wK (.int 1)) (wOp fIxL (wC 8) (wK (.int 12))))))
   wNx)
  (wCut (wIfS (wT (wOp fEq (wC 11) (wK (.int 1))))
   (wAV 9 (wK (.int 1)))
   wNx)
  (wSeq (wAV 12 (wCall0 (p__law_draws A) (wCons (wCall0 (p__law_given A) (wCons (wV 0) (wCons (wK (.int 1)) wNil))) (wCons (wOp fRep (wLst (wCons (wV 10) (wCons (wK (.int 2)) (wCons (wK (.int 840)) wNil)))) (wC 9)) wNil))))
  (wSeq (wAV 13 (wLc (wIR1 (wCons (wC 9) wNil)) (wgN 18) (fun _ Q _ => Q true) (wOp fIxL (wC 12) (wOp (fIc CMulW fun i j => i * j) (wK (.int 3)) (wC 18))) [18]))
  (wCut (wIfS (wT (wOp (fB fun i j => decide (i < j)) (wC 11) (wK (.int 2))))
   (wAV 13 (wOp fRep (wLst (wCons (wK (.int 0)) wNil)) (wC 9)))
   wNx)
  (wCut (wIfS (wT (wOp fEq (wC 11) (wK (.int 2))))
   (wAV 13 (wLc (wIR1 (wCons (wC 9) wNil)) (wgN 18) (fun _ Q _ => Q true) (wOp (fIc CMulW fun i j => i * j) (wOp (fI fun i j => i + j) (wK (.int 1)) (wOp fIxL (wC 8) (wK (.int 9)))) (wOp fIxL (wC 12) (wOp (fI fun i j => i + j) (wOp (fIc CMulW fun i j => i * j) (wK (.int 3)) (wC 18)) (wK (.int 1))))) [18]))
   wNx)
  (wCut (wIfS (wT (wOp fEq (wC 11) (wK (.int 3))))
   (wAV 13 (wLc (wIR1 (wCons (wC 9) wNil)) (wgN 18) (fun _ Q _ => Q true) (wOp (fIc (fun _ j => 0 < j) fun i j => i % j) (wCB fInt1 (wCons (wOp (fI fun i j => i + j) (wC 18) (wOp fIxL (wC 8) (wK (.int 9)))) wNil)) (wC 9)) [18]))
   wNx)
  (wSeq (wAV 14 (wOp (fI fun i j => i - j) (wOp fIxL (wC 8) (wK (.int 3))) (wK (.int 6))))
  (wCut (wIfS (wT (wOp fEq (wOp fIxL (wC 8) (wK (.int 2))) (wK (.int 0))))
   (wAV 14 (wOp (fI fun i j => i - j) (wK (.int 900)) (wOp (fIc CMulW fun i j => i * j) (wK (.int 1800)) (wOp (fIc CDivW fun i j => i / j) (wOp fIxL (wC 8) (wK (.int 3))) (wK (.int 7))))))
   wNx)
  (wSeq (wAV 15 (wCall0 (p__law_names A) (wCons (wCall0 (p__law_given A) (wCons (wV 0) (wCons (wK (.int 2)) wNil))) (wCons (wOp (fI fun i j => i + j) (wC 9) (wK (.int 1))) wNil))))
  (wSeq (wAV 16 (wLRg (wRg1 (wC 9))))
  (wCut (wIfS (wOr (wT (wOp fEq (wC 7) (wK (.int 1)))) (wAnd (wT (wOp fEq (wC 7) (wK (.int 2)))) (wT (wOp fEq (wOp fIxL (wC 8) (wK (.int 10))) (wK (.int 1))))))
   (wSeq (wAV 17 (wOp (fI fun i j => i + j) (wK (.int 1)) (wOp (fIc (fun _ j => 0 < j) fun i j => i % j) (wCB fInt1 (wCons (wOp fIxL (wC 8) (wK (.int 11))) wNil)) (wC 9))))
   (wAV 16 (wLc (wIR1 (wCons (wC 9) wNil)) (wgN 18) (fun _ Q _ => Q true) (wOp (fIc (fun _ j => 0 < j) fun i j => i % j) (wCB fInt1 (wCons (wOp fIxL (wC 12) (wOp (fI fun i j => i + j) (wOp (fIc CMulW fun i j => i * j) (wK (.int 3)) (wC 18)) (wK (.int 2)))) wNil)) (wC 17)) [18])))
   wNx)
  (wCut (wIfS (wAnd (wT (wOp fEq (wC 7) (wK (.int 3)))) (wT (wOp fEq (wOp fIxL (wC 8) (wK (.int 10))) (wK (.int 0)))))
   (wSeq (wAV 17 (wOp (fI fun i j => i + j) (wK (.int 1)) (wOp (fIc (fun _ j => 0 < j) fun i j => i % j) (wCB fInt1 (wCons (wOp fIxL (wC 8) (wK (.int 11))) wNil)) (wCB (fMM fun i j => if j < i then j else i) (wCons (wC 9) (wCons (wK (.int 3)) wNil))))))
   (wAV 16 (wLc (wIR1 (wCons (wC 9) wNil)) (wgN 18) (fun _ Q _ => Q true) (wOp (fIc (fun _ j => 0 < j) fun i j => i % j) (wCB fInt1 (wCons (wOp fIxL (wC 12) (wOp (fI fun i j => i + j) (wOp (fIc CMulW fun i j => i * j) (wK (.int 3)) (wC 18)) (wK (.int 2)))) wNil)) (wC 17)) [18])))
   wNx)
  (wRet (wTup (wCons (wLc (wIR1 (wCons (wC 9) wNil)) (wgN 18) (fun _ Q _ => Q true) (wTup (wCons (wOp (fI fun i j => i + j) (wC 14) (wOp fIxL (wC 13) (wC 18))) (wCons (wOp fIxL (wC 15) (wOp fIxL (wC 16) (wC 18))) wNil))) [18]) (wCons (wV 15) wNil))))))))))))))))))))))
theorem pure__law_sheets (A : CA) : ∀ xs Q X, p__law_sheets A xs Q X → w__law_sheets A (endsP false Q X) (startP ["script", "small", "wide", "large", "more", "tall", "hand", "kind", "drawn", "count", "spread", "shape", "cells", "levels", "base", "names", "picks", "pool", "k"] [.v, .v, .v, .v, .v, .v, .v, .v] xs) := by
  rintro _ Q X ⟨ns, sm, wd, lg, mo, tl, hd, kd, rfl, hsm, hwd, hlg, hmo, htl, hhd, hkd, q⟩
  unfold w__law_sheets
  try walk_at "x"
  refine ⟨fun s hs => ?_, fun ds hds => ?_⟩
  · simp only [List.mem_cons, List.not_mem_nil, or_false] at hs
    omega
  obtain ⟨d0, d1, d2, d3, d4, d5, d6, d7, d8, d9, d10, d11, d12, rfl, e0, e1, e2, e3, e4, e5, e6, e7, e8, e9, e10, e11, e12⟩ := hds.d13
  clear hds
  try walk_at "x"
  refine cutA2 9 10 .v .v P.int P.int (fun ct sp => (1 ≤ ct ∧ ct ≤ sm ∧ 1 ≤ sp ∧ sp ≤ wd) ∨ (1 ≤ ct ∧ ct < lg + mo ∧ 1 ≤ sp ∧ sp ≤ tl)) ?_ fun ct sp hcs => ?_
  · try walk_at "x"
    split <;> omega
  try walk_at "x"
  refine cutA2 11 9 .v .v P.int P.int (fun sh ct => (sh = 4 ∧ ((1 ≤ ct ∧ ct ≤ sm ∧ 1 ≤ sp ∧ sp ≤ wd) ∨ (1 ≤ ct ∧ ct < lg + mo ∧ 1 ≤ sp ∧ sp ≤ tl))) ∨ ((0 ≤ sh ∧ sh < 4) ∧ 1 ≤ ct ∧ ct ≤ hd)) ?_ fun sh ct2 hsc => ?_
  · try walk_at "x"
    split <;> omega
  try walk_at "x"
  have hsp : 1 ≤ sp ∧ sp ≤ 100 := by omega
  refine cutI 9 (fun ct => (sh = 4 ∧ ((1 ≤ ct ∧ ct ≤ sm ∧ sp ≤ wd) ∨ (1 ≤ ct ∧ ct < lg + mo ∧ sp ≤ tl))) ∨ ((0 ≤ sh ∧ sh < 4) ∧ 1 ≤ ct ∧ ct ≤ hd)) ?_ fun n hn => ?_
  · try walk_at "x"
    split <;> omega
  clear hsc hcs
  have hn1 : 1 ≤ n ∧ n ≤ 200 := by omega
  try walk_at "x"
  have hrl : (List.replicate n.toNat [sp, 2, 840]).flatten.length = n.toNat * 3 := rep_len
  refine ⟨by omega, fun s hs => ?_, fun cs hcs => ?_⟩
  · obtain ⟨l, hl, hs⟩ := List.mem_flatten.mp hs
    rw [List.eq_of_mem_replicate hl] at hs
    simp only [List.mem_cons, List.not_mem_nil, or_false] at hs
    omega
  have hcl := hcs.len
  rw [hrl] at hcl
  have hc : ∀ k : Int, 0 ≤ k → k < n → (0 ≤ gx cs (3 * k) ∧ gx cs (3 * k) < sp) ∧ (0 ≤ gx cs (3 * k + 1) ∧ gx cs (3 * k + 1) < 2) ∧ 0 ≤ gx cs (3 * k + 2) := fun k h0 h1 => by
    have a0 := hcs.rp (k := 3 * k) (by omega) (by rw [List.length_cons]; simp only [List.length_cons, List.length_nil]; omega)
    have a1 := hcs.rp (k := 3 * k + 1) (by omega) (by simp only [List.length_cons, List.length_nil]; omega)
    have a2 := hcs.rp (k := 3 * k + 2) (by omega) (by simp only [List.length_cons, List.length_nil]; omega)
    have l3 : (([sp, 2, 840] : List Int).length : Int) = 3 := rfl
    rw [l3, show (3 * k) % 3 = 0 by omega] at a0
    rw [l3, show (3 * k + 1) % 3 = 1 by omega] at a1
    exact ⟨a0, a1, a2.1⟩
  clear hcs
  refine ⟨by omega, by omega, ?_⟩
  refine lcI (l := rgI 0 n.toNat) (f := fun k => gx cs (3 * k)) ?_ ?_ ?_
  · rw [rgI_len]; omega
  · intro k hk Q hQ
    have hk := rgI_mem.mp hk
    have s0 : CMulW 3 k := mul_s (by omega) (by omega)
    have s1 : -(cs.length : Int) ≤ 3 * k := by omega
    have s2 : 3 * k < (cs.length : Int) := by omega
    walk_at "w"
    simp only [s0, s1, s2, true_and]
    exact hQ
  try walk_at "x"
  refine cutA 13 .v il (fun l => (l.length : Int) = n ∧ ∀ x ∈ l, 0 ≤ x ∧ x ≤ sp - 1 ∧ (sh < 2 → x = 0)) ?_ fun l1 hl1 => ?_
  · try walk_at "x"
    split
    · rename_i h2
      refine ⟨by omega, by omega, by omega, List.replicate n.toNat 0, by rw [List.flatten_replicate_singleton, List.map_replicate], by rw [List.length_replicate]; omega, fun x hx => ?_⟩
      rw [List.eq_of_mem_replicate hx]
      omega
    · rename_i h2
      refine ⟨by rw [rgI_len]; omega, fun x hx => ?_⟩
      obtain ⟨k, hk, rfl⟩ := List.mem_map.mp hx
      have hk := rgI_mem.mp hk
      have := (hc k (by omega) (by omega)).1
      omega
  try walk_at "x"
  refine cutA 13 .v il (fun l => (l.length : Int) = n ∧ ∀ x ∈ l, 0 ≤ x ∧ (2 < sh → x ≤ sp - 1) ∧ (sh < 3 → x ≤ 40)) ?_ fun l2 hl2 => ?_
  · try walk_at "x"
    split
    · rename_i h2
      refine ⟨by omega, by omega, ?_⟩
      refine lcI (l := rgI 0 n.toNat) (f := fun k => (1 + d9) * gx cs (3 * k + 1)) ?_ ?_ ?_
      · rw [rgI_len]; omega
      · intro k hk Q hQ
        have hk := rgI_mem.mp hk
        have hk2 := (hc k (by omega) (by omega)).2.1
        have s0 : CMulW 3 k := mul_s (by omega) (by omega)
        have s1 : -(cs.length : Int) ≤ 3 * k + 1 := by omega
        have s2 : 3 * k + 1 < (cs.length : Int) := by omega
        have s3 : CMulW (1 + d9) (gx cs (3 * k + 1)) := mul_s (by omega) (by omega)
        walk_at "w"
        simp only [s0, s1, s2, s3, true_and]
        exact hQ
      refine ⟨_, rfl, by rw [List.length_map, rgI_len]; omega, fun x hx => ?_⟩
      obtain ⟨k, hk, rfl⟩ := List.mem_map.mp hx
      have hk := rgI_mem.mp hk
      have hk2 := (hc k (by omega) (by omega)).2.1
      have p1 : 0 ≤ (1 + d9) * gx cs (3 * k + 1) := Int.mul_nonneg (by omega) (by omega)
      have p2 : (1 + d9) * gx cs (3 * k + 1) ≤ 40 * 1 := Int.mul_le_mul (by omega) (by omega) (by omega) (by decide)
      omega
    · refine ⟨hl1.1, fun x hx => ?_⟩
      have := hl1.2 x hx
      omega
  try walk_at "x"
  refine cutA 13 .v il (fun l => (l.length : Int) = n ∧ ∀ x ∈ l, 0 ≤ x ∧ (3 < sh → x ≤ sp - 1) ∧ (sh < 4 → x ≤ 40 + hd)) ?_ fun l3 hl3 => ?_
  · try walk_at "x"
    split
    · rename_i h2
      refine ⟨by omega, by omega, ?_⟩
      refine lcI (l := rgI 0 n.toNat) (f := fun k => (k + d9) % n) ?_ ?_ ?_
      · rw [rgI_len]; omega
      · intro k hk Q hQ
        have hk := rgI_mem.mp hk
        have s0 : 0 < n := by omega
        walk_at "w"
        simp only [s0, true_and]
        exact hQ
      refine ⟨_, rfl, by rw [List.length_map, rgI_len]; omega, fun x hx => ?_⟩
      obtain ⟨k, hk, rfl⟩ := List.mem_map.mp hx
      have m0 := Int.emod_nonneg (k + d9) (show n ≠ 0 by omega)
      have m1 := Int.emod_lt_of_pos (k + d9) (show 0 < n by omega)
      omega
    · refine ⟨hl2.1, fun x hx => ?_⟩
      have := hl2.2 x hx
      omega
  clear hl1 hl2
  try walk_at "x"
  refine cutI 14 (fun b => -900 ≤ b ∧ b ≤ 900) ?_ fun b hb => ?_
  · try walk_at "x"
    split
    · refine ⟨div_s (by decide) (by decide), mul_s (by omega) (by omega), ?_⟩
      omega
    · omega
  try walk_at "x"
  intro zs hz1 hz2 hz3
  refine ⟨by unfold RgOk; omega, ?_⟩
  have hpool : ∀ m : Int, 0 < m → m ≤ n → kd ≠ 0 → ((fun l : List Int => (l.length : Int) = n ∧ (∀ x ∈ l, 0 ≤ x ∧ x < n) ∧ (kd = 0 → l = rgI 0 n.toNat)) ((rgI 0 n.toNat).map fun k => gx cs (3 * k + 2) % m)) := fun m m0 m1 hk0 => by
    refine ⟨by rw [List.length_map, rgI_len]; omega, fun x hx => ?_, fun h => absurd h hk0⟩
    obtain ⟨k, hk, rfl⟩ := List.mem_map.mp hx
    have e0 := Int.emod_nonneg (gx cs (3 * k + 2)) (show m ≠ 0 by omega)
    have e1 := Int.emod_lt_of_pos (gx cs (3 * k + 2)) m0
    omega
  refine cutAT [17] 16 .v il (fun l => (l.length : Int) = n ∧ (∀ x ∈ l, 0 ≤ x ∧ x < n) ∧ (kd = 0 → l = rgI 0 n.toNat)) ?_ fun p1 env1 hp1 he1 => ?_
  · try walk_at "x"
    have m0 := Int.emod_nonneg d11 (show n ≠ 0 by omega)
    have m1 := Int.emod_lt_of_pos d11 (show 0 < n by omega)
    split
    · refine ⟨by omega, by omega, by omega, ?_⟩
      refine lcI (l := rgI 0 n.toNat) (f := fun k => gx cs (3 * k + 2) % (1 + d11 % n)) ?_ ?_ ?_
      · rw [rgI_len]; omega
      · intro k hk Q hQ
        have hk := rgI_mem.mp hk
        have s0 : CMulW 3 k := mul_s (by omega) (by omega)
        have s1 : -(cs.length : Int) ≤ 3 * k + 2 := by omega
        have s2 : 3 * k + 2 < (cs.length : Int) := by omega
        have s3 : 0 < 1 + d11 % n := by omega
        walk_at "w"
        simp only [s0, s1, s2, s3, true_and]
        exact hQ
      obtain ⟨y1, y2, y3⟩ := hpool (1 + d11 % n) (by omega) (by omega) (by omega)
      exact ⟨_, y1, y2, y3, rfl⟩
    split
    · split
      · refine ⟨by omega, by omega, by omega, ?_⟩
        refine lcI (l := rgI 0 n.toNat) (f := fun k => gx cs (3 * k + 2) % (1 + d11 % n)) ?_ ?_ ?_
        · rw [rgI_len]; omega
        · intro k hk Q hQ
          have hk := rgI_mem.mp hk
          have s0 : CMulW 3 k := mul_s (by omega) (by omega)
          have s1 : -(cs.length : Int) ≤ 3 * k + 2 := by omega
          have s2 : 3 * k + 2 < (cs.length : Int) := by omega
          have s3 : 0 < 1 + d11 % n := by omega
          walk_at "w"
          simp only [s0, s1, s2, s3, true_and]
          exact hQ
        obtain ⟨y1, y2, y3⟩ := hpool (1 + d11 % n) (by omega) (by omega) (by omega)
        exact ⟨_, y1, y2, y3, rfl⟩
      · exact ⟨_, by rw [rgI_len]; omega, fun x hx => by have := rgI_mem.mp hx; omega, fun _ => by rw [Int.sub_zero], rfl⟩
    · exact ⟨_, by rw [rgI_len]; omega, fun x hx => by have := rgI_mem.mp hx; omega, fun _ => by rw [Int.sub_zero], rfl⟩
  obtain ⟨v17, rfl⟩ := he1
  try walk_at "x"
  refine cutAT [17] 16 .v il (fun l => (l.length : Int) = n ∧ (∀ x ∈ l, 0 ≤ x ∧ x < n) ∧ (kd = 0 → l = rgI 0 n.toNat)) ?_ fun p2 env2 hp2 he2 => ?_
  · try walk_at "x"
    split
    · split
      · generalize hM : (if 3 < n then 3 else n) = M at *
        have hM0 : 0 < M ∧ M ≤ n := by rw [← hM]; split <;> omega
        have m0 := Int.emod_nonneg d11 (show M ≠ 0 by omega)
        have m1 := Int.emod_lt_of_pos d11 hM0.1
        refine ⟨hM0.1, by omega, by omega, ?_⟩
        refine lcI (l := rgI 0 n.toNat) (f := fun k => gx cs (3 * k + 2) % (1 + d11 % M)) ?_ ?_ ?_
        · rw [rgI_len]; omega
        · intro k hk Q hQ
          have hk := rgI_mem.mp hk
          have s0 : CMulW 3 k := mul_s (by omega) (by omega)
          have s1 : -(cs.length : Int) ≤ 3 * k + 2 := by omega
          have s2 : 3 * k + 2 < (cs.length : Int) := by omega
          have s3 : 0 < 1 + d11 % M := by omega
          walk_at "w"
          simp only [s0, s1, s2, s3, true_and]
          exact hQ
        obtain ⟨y1, y2, y3⟩ := hpool (1 + d11 % M) (by omega) (by omega) (by omega)
        exact ⟨_, y1, y2, y3, rfl⟩
      · exact ⟨_, hp1.1, hp1.2.1, hp1.2.2, rfl⟩
    · exact ⟨_, hp1.1, hp1.2.1, hp1.2.2, rfl⟩
  obtain ⟨v17b, rfl⟩ := he2
  clear hp1 hpool
  try walk_at "x"
  refine lcR (l := rgI 0 n.toNat) (fun k => b + gx l3 k) (fun k => gx zs (gx p2 k)) ?_ ?_ ?_
  · rw [rgI_len]; omega
  · intro k hk Q hQ
    have hk := rgI_mem.mp hk
    have hg := hp2.2.1 _ (gx_mem (l := p2) (i := k) ⟨by omega, by omega⟩)
    have s1 : -(l3.length : Int) ≤ k := by omega
    have s2 : k < (l3.length : Int) := by omega
    have s3 : -(p2.length : Int) ≤ k := by omega
    have s4 : k < (p2.length : Int) := by omega
    have s5 : -(zs.length : Int) ≤ gx p2 k := by omega
    have s6 : gx p2 k < (zs.length : Int) := by omega
    walk_at "w"
    simp only [s1, s2, s3, s4, s5, s6, true_and]
    exact hQ
  try walk_at "x"
  refine q _ zs b (if sh = 4 then sp - 1 else 40 + hd) ?_
  have hlen : ((rgI 0 n.toNat).map fun k => (b + gx l3 k, gx zs (gx p2 k))).length = n.toNat := by rw [List.length_map, rgI_len]
  refine ⟨by omega, by omega, hz3, hz2, fun r hr => ?_, fun r hr => ?_, ⟨hb.1, hb.2, by split <;> omega⟩, ?_, fun hk0 => ?_⟩
  · obtain ⟨k, hk, rfl⟩ := List.mem_map.mp hr
    have hk := rgI_mem.mp hk
    have hg := hp2.2.1 _ (gx_mem (l := p2) (i := k) ⟨by omega, by omega⟩)
    rw [hlen]
    have : gx zs (gx p2 k) ∈ zs.take n.toNat := by
      rw [gx_nn hg.1, List.getElem?_eq_getElem (by omega)]
      exact List.mem_take_iff_getElem.mpr ⟨(gx p2 k).toNat, by omega, rfl⟩
    exact this
  · obtain ⟨k, hk, rfl⟩ := List.mem_map.mp hr
    have hk := rgI_mem.mp hk
    have hg := hl3.2 _ (gx_mem (l := l3) (i := k) ⟨by omega, by omega⟩)
    show b ≤ b + gx l3 k ∧ b + gx l3 k ≤ b + _
    split <;> omega
  · rw [hlen]
    split <;> omega
  · rw [List.map_map, hp2.2.2 hk0]
    have : (rgI 0 n.toNat).map (Prod.snd ∘ fun k => (b + gx l3 k, gx zs (gx (rgI 0 n.toNat) k))) = zs.take n.toNat := by
      refine List.ext_getElem (by rw [List.length_map, rgI_len, List.length_take]; omega) fun i h1 h2 => ?_
      rw [List.length_map, rgI_len] at h1
      rw [List.getElem_map, List.getElem_take]
      have e1 : (rgI 0 n.toNat)[i]'(by rw [rgI_len]; exact h1) = (i : Int) := by
        have := rgI_at (lo := 0) h1
        rw [List.getElem?_eq_getElem (by rw [rgI_len]; exact h1)] at this
        have := Option.some.inj this
        omega
      show gx zs (gx (rgI 0 n.toNat) ((rgI 0 n.toNat)[i]'_)) = _
      rw [e1, gx_rg (by omega) (by omega), Int.zero_add, gx_get (by omega)]
    rw [this]
    exact hz3.sublist (List.take_sublist _ _)
--@@DEF Sheaf___init__
def p_Sheaf___init__ (A : CA) : PSp := fun xs Q X => ∃ (rs : List (Int × Str)), xs = [rl rs] ∧ rs.length ≤ 1000 ∧
  (rs = [] → X A.InvalidSheaf ["index"] [.int 0]) ∧ (rs ≠ [] → 0 ≤ fb rs → X A.InvalidSheaf ["index"] [.int (fb rs)]) ∧
  (rs ≠ [] → fb rs < 0 → ∀ t b, (∃ r ∈ rs, r.1 = t) → (∀ r ∈ rs, r.1 ≤ t) → (∃ r ∈ rs, r.1 = b) → (∀ r ∈ rs, b ≤ r.1) → Q (shfP A rs t b))
theorem enum_rl {rs : List (Int × Str)} {i : Nat} {x : P} (h : (enumP (rs.map rowP))[i]? = some x) : ∃ r, rs[i]? = some r ∧ x = .tup [.int i, rowP r] := by
  have hi : i < rs.length := by have := (List.getElem?_eq_some_iff.mp h).1; rw [enumP_len, List.length_map] at this; exact this
  have e := enumP_at (xs := rs.map rowP) (i := i) (x := rowP rs[i]) (by rw [List.getElem?_map, List.getElem?_eq_getElem hi]; rfl)
  rw [e] at h
  cases h
  exact ⟨rs[i], List.getElem?_eq_getElem hi, rfl⟩

instance ap_Sheaf___init__ {A : CA} {xs : List P} {rs : List (Int × Str)} [h : EL rowP xs rs] : PAp (p_Sheaf___init__ A) [.lst xs] (fun Q X => rs.length ≤ 1000 ∧ if okR rs then Q (shf A rs) else if rs = [] then X A.InvalidSheaf ["index"] [.int 0] else X A.InvalidSheaf ["index"] [.int (fb rs)]) := ⟨fun Q X => by
  unfold p_Sheaf___init__
  rw [h.eq]
  refine propext ⟨fun ⟨rs2, e, h1, h2, h3, h4⟩ => ?_, fun ⟨h1, h2⟩ => ⟨rs, rfl, h1, fun e => ?_, fun e f => ?_, fun e f t b t1 t2 b1 b2 => ?_⟩⟩
  · simp only [List.cons.injEq, P.lst.injEq, row_inj, and_true] at e
    subst e
    refine ⟨h1, ?_⟩
    by_cases hr : rs = []
    · rw [if_neg fun z => z.1 hr, if_pos hr]; exact h2 hr
    · by_cases hf : fb rs < 0
      · have hl : 0 < (rs.map Prod.fst).length := by rw [List.length_map]; exact List.length_pos_iff.mpr hr
        obtain ⟨r, m1, m2⟩ := List.mem_map.mp (maxI_mem hl)
        obtain ⟨r', m3, m4⟩ := List.mem_map.mp (minI_mem hl)
        rw [if_pos ⟨hr, hf⟩]
        exact h4 hr hf _ _ ⟨r, m1, m2⟩ (fun r hr => le_maxI (List.mem_map_of_mem hr)) ⟨r', m3, m4⟩ fun r hr => minI_le (List.mem_map_of_mem hr)
      · rw [if_neg fun z => hf z.2, if_neg hr]; exact h3 hr (by omega)
  · rw [if_neg fun z => z.1 e, if_pos e] at h2; exact h2
  · rw [if_neg fun z => absurd z.2 (by omega), if_neg e] at h2; exact h2
  · rw [if_pos ⟨e, f⟩] at h2
    obtain ⟨r, m1, m2⟩ := t1
    obtain ⟨r', m3, m4⟩ := b1
    have e1 : maxI (rs.map Prod.fst) = t := maxI_eq (List.mem_map.mpr ⟨r, m1, m2⟩) fun x hx => by
      obtain ⟨q, hq, rfl⟩ := List.mem_map.mp hx
      exact t2 q hq
    have e2 : minI (rs.map Prod.fst) = b := minI_eq (List.mem_map.mpr ⟨r', m3, m4⟩) fun x hx => by
      obtain ⟨q, hq, rfl⟩ := List.mem_map.mp hx
      exact b2 q hq
    rw [← e1, ← e2]
    exact h2⟩
def w_Sheaf___init__ (A : CA) : WS :=
  (wSeq (wFldS A.Sheaf 0 "_rows" (wCB fList (wCons (wC 1) wNil)))
  (wSeq (wIfS (wNot (wTr (wFldR A.Sheaf "_rows" (wC 0))))
   (wRaise A.InvalidSheaf ["index"] (wCons (wK (.int 0)) wNil))
   wNx)
  (wSeq (wFor (wIE (wCons (wFldR A.Sheaf "_rows" (wC 0)) wNil)) (wgT (wgLen 2 (wgCons (wgN 2) (wgCons (wgN 3) wgNil))))
   (wIfS (wNot (wT (wCall0 (p_valid_record A) (wCons (wOp fIxT (wC 3) (wK (.int 1))) wNil))))
    (wRaise A.InvalidSheaf ["index"] (wCons (wV 2) wNil))
    wNx))
  (wSeq (wFldS A.Sheaf 0 "_top" (wCB fMax (wCons (wLc (wIL (wFldR A.Sheaf "_rows" (wC 0))) (wgN 3) (fun _ Q _ => Q true) (wOp fIxT (wC 3) (wK (.int 0))) [3]) wNil)))
  (wFldS A.Sheaf 0 "_bottom" (wCB fMin (wCons (wLc (wIL (wFldR A.Sheaf "_rows" (wC 0))) (wgN 3) (fun _ Q _ => Q true) (wOp fIxT (wC 3) (wK (.int 0))) [3]) wNil)))))))
theorem pure_Sheaf___init__ (A : CA) : ∀ a xs Q X, p_Sheaf___init__ A xs Q X → w_Sheaf___init__ A (endsI a Q X) (initP ["self", "rows", "index", "row"] a A.Sheaf [.b] xs) := by
  rintro a _ Q X ⟨rs, rfl, hn, h1, h2, h3⟩
  unfold w_Sheaf___init__
  walk_at "pl"
  split
  · rename_i e
    exact h1 (by simpa using e)
  rename_i e
  have hne : rs ≠ [] := fun h => e (by rw [h]; rfl)
  refine for_l (fun i e => ∃ v2 v3 : Option (Mo × P), e = [some (.o, .slf a A.Sheaf ["_rows"] [rl rs]), some (.b, rl rs), v2, v3] ∧ ∀ j < i, ∀ q, rs[j]? = some q → isRec q.2 = true)
    ⟨_, _, rfl, fun j hj => absurd hj (Nat.not_lt_zero _)⟩ ?_ ?_
  · rintro i x _ hx ⟨v2, v3, rfl, hj⟩
    obtain ⟨r, hr, rfl⟩ := enum_rl hx
    walk_at "pq"
    refine ⟨r.2, rfl, ?_⟩
    walk_at "pl"
    split
    · rename_i hb
      have h4 := h2 hne
      rw [fb_some hr hb hj] at h4
      exact h4 (by omega)
    · rename_i hb
      refine ⟨_, _, rfl, fun j hj2 q2 hq2 => ?_⟩
      by_cases hji : j < i
      · exact hj j hji q2 hq2
      · have hji : j = i := by omega
        subst hji
        rw [hr] at hq2
        have hq3 : r = q2 := Option.some.inj hq2
        subst hq3
        simpa using hb
  · rintro _ ⟨v2, v3, rfl, hj⟩
    rw [enumP_len, List.length_map] at hj
    have hf : fb rs < 0 := by rw [fb_none fun j q2 hq2 => hj j (List.getElem?_eq_some_iff.mp hq2).1 q2 hq2]; decide
    have hp : 0 < (rs.map Prod.fst).length := by rw [List.length_map]; exact List.length_pos_iff.mpr hne
    walk_at "pq"
    refine lc_time (by omega) (fun r Q _ hQ => by walk_at "pq") ⟨_, rfl, hp, fun t ht1 ht2 => ?_⟩
    refine lc_time (by omega) (fun r Q _ hQ => by walk_at "pq") ⟨_, rfl, hp, fun b hb1 hb2 => ?_⟩
    refine h3 hne hf t b ?_ (fun r hr => ht2 _ (List.mem_map_of_mem hr)) ?_ fun r hr => hb2 _ (List.mem_map_of_mem hr)
    · obtain ⟨r, h, e⟩ := List.mem_map.mp ht1
      exact ⟨r, h, e⟩
    · obtain ⟨r, h, e⟩ := List.mem_map.mp hb1
      exact ⟨r, h, e⟩
--@@DEF _taken
def p__taken (A : CA) : PSp := fun xs Q X =>
  (∃ (rs : List (Int × Str)) (t b e m w : Int) (z : Str), xs = [shfP A rs t b, .int e, .str z, .int m, .int w] ∧ (rs.length ≤ 1000 ∧ (0 ≤ w ∧ w < 65535) ∧ (0 ≤ m ∧ m ≤ 10000) ∧ Q (il (takI rs e m w z))))
instance ap__taken {A : CA} {rs : List (Int × Str)} {t b e m w : Int} {z : Str}  : PAp (p__taken A) [shfP A rs t b, .int e, .str z, .int m, .int w] (fun Q X =>
  rs.length ≤ 1000 ∧ (0 ≤ w ∧ w < 65535) ∧ (0 ≤ m ∧ m ≤ 10000) ∧ Q (il (takI rs e m w z))) := ⟨fun Q X => by
  unfold p__taken
  simp only [List.cons.injEq, P.lst.injEq, P.tup.injEq, P.ins.injEq, P.int.injEq, P.str.injEq, P.bl.injEq, P.scr.injEq, P.dct.injEq, int_inj, str_inj, bl_inj, row_inj, ii_inj, dd_inj, il_inj, tl_inj, dI_inj, rs_inj, lg_inj, ob_inj, and_true, true_and, and_assoc, exists_and_left, exists_eq_left', exists_eq_left, eq_self, reduceCtorEq, false_and, and_false, exists_false, or_false, false_or, List.nil_eq, List.map_eq_nil_iff]⟩
def w__taken (A : CA) : WS :=
  (wSeq (wAO 5 (wLst wNil))
  (wSeq (wAV 6 (wK (.int 0)))
  (wSeq (wFor (wIL (wCall0 (p_falling_sheets A) (wCons (wC 0) (wCons (wV 2) wNil)))) (wgN 7)
   (wSeq (wAV 8 (wCall0 (p__cap_up_to A) (wCons (wMeth A.Sheaf "sharpness_of" (p_Sheaf_sharpness_of A) (wC 0) (wCons (wV 7) wNil)) (wCons (wV 1) (wCons (wV 3) (wCons (wV 4) wNil))))))
   (wSeq (wIfS (wOr (wT (wOp (fB fun i j => decide (j ≤ i)) (wC 6) (wC 3))) (wT (wOp fEq (wC 8) (wK (.int 0)))))
    wBrk
    wNx)
   (wSeq (wApp 5 (wV 7))
   (wAug 6 (fun i j => i + j) (wC 8))))))
  (wRetO 5))))
theorem pure__taken (A : CA) : ∀ xs Q X, p__taken A xs Q X → w__taken A (endsP true Q X) (startP ["sheaf", "end", "record", "demand", "breadth", "taken", "gathered", "index", "found"] [.b, .v, .v, .v, .v] xs) := by
  rintro _ Q X ⟨rs, t, b, e, m, w, z, rfl, hn, hw, hm, q⟩
  unfold w__taken
  have hfl := fallP_len (z := z) hn
  walk_at "x"
  refine forA2 (l := (fallP rs z).map Prod.snd) [7, 8] 5 6 .o .v il P.int (fun i c g => takI rs e m w z = c ++ takP e m w ((fallP rs z).drop i) g ∧ c.length ≤ i) [] 0 ⟨rfl, Nat.zero_le _⟩ ⟨_, _, rfl⟩ ?_ ?_
  · rintro i k c g e' hk hi ⟨hI, hcl⟩ ⟨v7, v8, rfl⟩
    rw [List.length_map] at hi
    obtain ⟨p, hp, rfl⟩ : ∃ p, (fallP rs z)[i]? = some p ∧ p.2 = k := by
      rw [List.getElem?_map] at hk
      cases ep : (fallP rs z)[i]? with
      | none => rw [ep] at hk; cases hk
      | some p => rw [ep] at hk; cases hk; exact ⟨p, rfl, rfl⟩
    obtain ⟨⟨k0, k1⟩, k2⟩ := fallP_mem (List.mem_of_getElem? hp)
    have k3 : (gx rs p.2).1 = -p.1 := by omega
    have s1 : -(rs.length : Int) ≤ p.2 := by omega
    obtain ⟨hi2, hp2⟩ := List.getElem?_eq_some_iff.mp hp
    rw [List.drop_eq_getElem_cons hi2, hp2] at hI
    unfold takP at hI
    walk_at "x"
    rw [k3]
    split
    · rename_i h1
      rw [if_pos (.inl h1), List.append_nil] at hI
      rw [← hI]; exact q
    split
    · rename_i h1 h2
      rw [if_pos (.inr h2), List.append_nil] at hI
      rw [← hI]; exact q
    rename_i h1 h2
    rw [if_neg (fun h => h.elim h1 h2)] at hI
    exact ⟨by omega, _, _, by rw [hI, List.append_assoc]; rfl, by rw [List.length_append, List.length_cons, List.length_nil]; omega, rfl, rfl⟩
  · rintro c g e' ⟨hI, hcl⟩ ⟨v7, v8, rfl⟩
    walk_at "x"
    rw [List.length_map, List.drop_length] at hI
    rw [hI] at q
    unfold takP at q
    rw [List.append_nil] at q
    exact q
--@@DEF _reach_up_to
def p__reach_up_to (A : CA) : PSp := fun xs Q X =>
  (∃ (rs : List (Int × Str)) (e m w : Int), xs = [rl rs, .int e, .int m, .int w] ∧ (rs.length ≤ 1000 ∧ (0 ≤ w ∧ w < 65535) ∧ (0 ≤ m ∧ m ≤ 10000) ∧ Q (.int (capSU (rs.map Prod.fst) e m w))))
instance ap__reach_up_to {A : CA} {rs : List (Int × Str)} {e m w : Int} {xs_rs : List P} [h_rs : EL rowP xs_rs rs] : PAp (p__reach_up_to A) [.lst xs_rs, .int e, .int m, .int w] (fun Q X =>
  rs.length ≤ 1000 ∧ (0 ≤ w ∧ w < 65535) ∧ (0 ≤ m ∧ m ≤ 10000) ∧ Q (.int (capSU (rs.map Prod.fst) e m w))) := ⟨fun Q X => by
  unfold p__reach_up_to
  simp only [h_rs.eq, List.cons.injEq, P.lst.injEq, P.tup.injEq, P.ins.injEq, P.int.injEq, P.str.injEq, P.bl.injEq, P.scr.injEq, P.dct.injEq, int_inj, str_inj, bl_inj, row_inj, ii_inj, dd_inj, il_inj, tl_inj, dI_inj, rs_inj, lg_inj, ob_inj, and_true, true_and, and_assoc, exists_and_left, exists_eq_left', exists_eq_left, eq_self, reduceCtorEq, false_and, and_false, exists_false, or_false, false_or, List.nil_eq, List.map_eq_nil_iff]⟩
def w__reach_up_to (A : CA) : WS :=
  (wRet (wCB fSum (wCons (wLc (wIL (wC 0)) (wgN 4) (fun _ Q _ => Q true) (wCall0 (p__cap_up_to A) (wCons (wOp fIxT (wC 4) (wK (.int 0))) (wCons (wV 1) (wCons (wV 2) (wCons (wV 3) wNil))))) [4]) wNil)))
theorem pure__reach_up_to (A : CA) : ∀ xs Q X, p__reach_up_to A xs Q X → w__reach_up_to A (endsP false Q X) (startP ["rows", "end", "most", "breadth", "row"] [.b, .v, .v, .v] xs) := by
  rintro _ Q X ⟨rs, e, m, w, rfl, hn, hw, hm, q⟩
  unfold w__reach_up_to
  walk_at "x"
  refine lcI (l := rs) (f := fun r => capU r.1 e m w) ?_ ?_ ?_
  · omega
  · intro r hr Q hQ
    walk_at "x"
    exact hQ
  walk_at "x"
  have e1 : (rs.map fun r => capU r.1 e m w).sum = capSU (rs.map Prod.fst) e m w := by unfold capSU; rw [List.map_map]; rfl
  rw [e1]
  exact q
--@@DEF spare_sharpnesses
def p_spare_sharpnesses (A : CA) : PSp := fun xs Q X =>
  (∃ (rs : List (Int × Str)) (t b : Int) (as : List Int), xs = [shfP A rs t b, il as] ∧ (rs.length ≤ 1000 ∧ Q (il (spareL (rs.map Prod.fst) as))))
instance ap_spare_sharpnesses {A : CA} {rs : List (Int × Str)} {t b : Int} {as : List Int} {xs_as : List P} [h_as : EL P.int xs_as as] : PAp (p_spare_sharpnesses A) [shfP A rs t b, .lst xs_as] (fun Q X =>
  rs.length ≤ 1000 ∧ Q (il (spareL (rs.map Prod.fst) as))) := ⟨fun Q X => by
  unfold p_spare_sharpnesses
  simp only [h_as.eq, List.cons.injEq, P.lst.injEq, P.tup.injEq, P.ins.injEq, P.int.injEq, P.str.injEq, P.bl.injEq, P.scr.injEq, P.dct.injEq, int_inj, str_inj, bl_inj, row_inj, ii_inj, dd_inj, il_inj, tl_inj, dI_inj, rs_inj, lg_inj, ob_inj, and_true, true_and, and_assoc, exists_and_left, exists_eq_left', exists_eq_left, eq_self, reduceCtorEq, false_and, and_false, exists_false, or_false, false_or, List.nil_eq, List.map_eq_nil_iff]⟩
def w_spare_sharpnesses (A : CA) : WS :=
  (wRet (wLc (wIEO A.Sheaf "_rows" (wC 0)) (wgT (wgLen 2 (wgCons (wgN 2) (wgCons (wgN 3) wgNil)))) (wT (wOp (fIn true) (wC 2) (wC 1))) (wOp fIxT (wC 3) (wK (.int 0))) [2, 3]))
theorem pure_spare_sharpnesses (A : CA) : ∀ xs Q X, p_spare_sharpnesses A xs Q X → w_spare_sharpnesses A (endsP true Q X) (startP ["sheaf", "aside", "index", "row"] [.b, .b] xs) := by
  rintro _ Q X ⟨rs, t, b, as, rfl, hn, q⟩
  unfold w_spare_sharpnesses
  walk_at "w"
  apply lcIf
  · walk_at "s"
  · intro p hp Q Q0 h
    walk_at "w"
    exact h
  rw [spareL_rows]
  exact q
--@@DEF set_aside
def p_set_aside (A : CA) : PSp := fun xs Q X =>
  (∃ (rs : List (Int × Str)) (t b e w : Int) (d : List (Str × Int)), xs = [shfP A rs t b, .int e, dI d, .int w] ∧ (rs.length ≤ 1000 ∧ (0 ≤ w ∧ w < 65535) ∧ (d.map Prod.fst).length < 64 ∧ (∀ z ∈ d.map Prod.fst, SOk z) ∧ (∀ z ∈ d.map Prod.fst, dm d z ≤ 10000) ∧ match negL d with | [] => Q (il (asideI rs e w d)) | z :: _ => X A.InvalidDemands ["record"] [.str z]))
instance ap_set_aside {A : CA} {rs : List (Int × Str)} {t b e w : Int} {d : List (Str × Int)} {ks_d : List Key} {xs_d : List P} [h_d : ED P.int ks_d xs_d d] : PAp (p_set_aside A) [shfP A rs t b, .int e, .dct ks_d xs_d, .int w] (fun Q X =>
  rs.length ≤ 1000 ∧ (0 ≤ w ∧ w < 65535) ∧ (d.map Prod.fst).length < 64 ∧ (∀ z ∈ d.map Prod.fst, SOk z) ∧ (∀ z ∈ d.map Prod.fst, dm d z ≤ 10000) ∧ match negL d with | [] => Q (il (asideI rs e w d)) | z :: _ => X A.InvalidDemands ["record"] [.str z]) := ⟨fun Q X => by
  unfold p_set_aside
  simp only [h_d.k, h_d.v, List.cons.injEq, P.lst.injEq, P.tup.injEq, P.ins.injEq, P.int.injEq, P.str.injEq, P.bl.injEq, P.scr.injEq, P.dct.injEq, int_inj, str_inj, bl_inj, row_inj, ii_inj, dd_inj, il_inj, tl_inj, dI_inj, rs_inj, lg_inj, ob_inj, and_true, true_and, and_assoc, exists_and_left, exists_eq_left', exists_eq_left, eq_self, reduceCtorEq, false_and, and_false, exists_false, or_false, false_or, List.nil_eq, List.map_eq_nil_iff]⟩
def w_set_aside (A : CA) : WS :=
  (wSeq (wDo (wCallX (p_check_demands A) (wCons (wC 2) wNil)))
  (wSeq (wAO 4 (wLst wNil))
  (wSeq (wForK 2 (wgN 5)
   (wExt 4 (wCall0 (p__taken A) (wCons (wC 0) (wCons (wV 1) (wCons (wV 5) (wCons (wDGet (wC 2) (wC 5)) (wCons (wV 3) wNil))))))))
  (wRet (wCB fSortI (wCons (wC 4) wNil))))))
theorem pure_set_aside (A : CA) : ∀ xs Q X, p_set_aside A xs Q X → w_set_aside A (endsP true Q X) (startP ["sheaf", "end", "demands", "breadth", "aside", "record"] [.b, .v, .b, .v] xs) := by
  rintro _ Q X ⟨rs, t, b, e, w, d, rfl, hn, hw, hl, hz, hm, q⟩
  unfold w_set_aside
  walk_at "x"
  refine ⟨by rw [← List.length_map (as := d) (f := Prod.fst)]; exact hl, hz, ?_⟩
  have hneg : negL d = [] → ∀ z ∈ d.map Prod.fst, 0 ≤ dm d z := fun h z hz => by
    by_cases h0 : 0 ≤ dm d z
    · exact h0
    have : z ∈ negL d := sortS_mem.mpr (List.mem_filter.mpr ⟨hz, decide_eq_true (by omega)⟩)
    rw [h] at this
    exact absurd this List.not_mem_nil
  split
  · rename_i e0
    rw [e0] at q
    have hneg := hneg e0
    refine ⟨hz, ?_⟩
    refine forA (l := d.map Prod.fst) [5] 4 .o il (fun i c => c = ((d.map Prod.fst).take i).flatMap fun z => takI rs e (dm d z) w z) [] rfl ⟨_, rfl⟩ ?_ ?_
    · rintro i z c e' hzi hi hc ⟨v5, rfl⟩
      have hmem : z ∈ d.map Prod.fst := List.mem_of_getElem? hzi
      have hm0 := hneg z hmem
      have hm1 := hm z hmem
      obtain ⟨a, ha⟩ := Option.isSome_iff_exists.mp (dget_mem.mpr hmem)
      have hd : dm d z = a := by unfold dm; rw [ha]; rfl
      have hcl : c.length ≤ i * 1000 := by
        rw [hc]
        refine Nat.le_trans (flat_le (n := 1000) fun a _ => takI_len hn) ?_
        rw [List.length_take]
        exact Nat.mul_le_mul_right _ (Nat.min_le_left _ _)
      have hnew : ((d.map Prod.fst).take (i + 1)).flatMap (fun z => takI rs e (dm d z) w z) = c ++ takI rs e a w z := by
        rw [take_snoc' hzi, List.flatMap_append, ← hc, List.flatMap_cons, List.flatMap_nil, List.append_nil, ← hd]
      walk_at "x"
      rw [ha]
      have := takI_len (e := e) (m := a) (w := w) (z := z) hn
      exact ⟨a, rfl, hn, hw.1, hw.2, by omega, by omega, by omega, hnew.symm⟩
    · rintro c e' hc ⟨v5, rfl⟩
      walk_at "x"
      rw [List.take_length] at hc
      rw [hc]
      exact q
  · rename_i e0
    rw [e0] at q
    exact q
--@@DEF _height_trouble
def p__height_trouble (A : CA) : PSp := fun xs Q X =>
  (∃ (rs : List (Int × Str)) (t b e : Int) (as : List Int), xs = [shfP A rs t b, .int e, il as] ∧ (rs.length ≤ 1000 ∧ (-10000 ≤ e ∧ e ≤ 10000) ∧ (-10000 ≤ t ∧ t ≤ 10000) ∧ Q (hgtL (spareL (rs.map Prod.fst) as) e (rgI e (t - e).toNat))))
instance ap__height_trouble {A : CA} {rs : List (Int × Str)} {t b e : Int} {as : List Int} {xs_as : List P} [h_as : EL P.int xs_as as] : PAp (p__height_trouble A) [shfP A rs t b, .int e, .lst xs_as] (fun Q X =>
  rs.length ≤ 1000 ∧ (-10000 ≤ e ∧ e ≤ 10000) ∧ (-10000 ≤ t ∧ t ≤ 10000) ∧ Q (hgtL (spareL (rs.map Prod.fst) as) e (rgI e (t - e).toNat))) := ⟨fun Q X => by
  unfold p__height_trouble
  simp only [h_as.eq, List.cons.injEq, P.lst.injEq, P.tup.injEq, P.ins.injEq, P.int.injEq, P.str.injEq, P.bl.injEq, P.scr.injEq, P.dct.injEq, int_inj, str_inj, bl_inj, row_inj, ii_inj, dd_inj, il_inj, tl_inj, dI_inj, rs_inj, lg_inj, ob_inj, and_true, true_and, and_assoc, exists_and_left, exists_eq_left', exists_eq_left, eq_self, reduceCtorEq, false_and, and_false, exists_false, or_false, false_or, List.nil_eq, List.map_eq_nil_iff]⟩
def w__height_trouble (A : CA) : WS :=
  (wSeq (wAV 3 (wCall0 (p_spare_sharpnesses A) (wCons (wC 0) (wCons (wC 2) wNil))))
  (wSeq (wFor (wIR2 (wCons (wC 1) (wCons (wProp A.Sheaf (p_Sheaf_top A) (wC 0)) wNil))) (wgN 4)
   (wSeq (wAV 5 (wCB fLen (wCons (wLc (wIL (wC 3)) (wgN 6) (wT (wOp (fB fun i j => decide (i ≤ j)) (wC 6) (wC 4))) (wV 6) [6]) wNil)))
   (wIfS (wT (wOp (fB fun i j => decide (i < j)) (wC 5) (wOp (fI fun i j => i - j) (wOp (fI fun i j => i + j) (wC 4) (wK (.int 1))) (wC 1))))
    (wRet (wTup (wCons (wK (.str "height")) (wCons (wV 4) (wCons (wV 5) wNil)))))
    wNx)))
  (wRet (wK .non))))
theorem pure__height_trouble (A : CA) : ∀ xs Q X, p__height_trouble A xs Q X → w__height_trouble A (endsP false Q X) (startP ["sheaf", "end", "aside", "spare", "height", "amount", "each"] [.b, .v, .b] xs) := by
  rintro _ Q X ⟨rs, t, b, e, as, rfl, hn, he, ht, q⟩
  unfold w__height_trouble
  have hsl := spareL_len (ls := rs.map Prod.fst) (as := as)
  rw [List.length_map] at hsl
  walk_at "x"
  generalize spareL (rs.map Prod.fst) as = sp at *
  refine forKr [4, 5, 6] (fun i => hgtL sp e (rgI e (t - e).toNat) = hgtL sp e ((rgI e (t - e).toNat).drop i)) rfl ?_ ⟨_, _, _, rfl⟩ ?_
  · rintro i e' hi hI ⟨v4, v5, v6, rfl⟩
    have hi2 : i < (rgI e (t - e).toNat).length := by rw [rgI_len]; exact hi
    have hge : (rgI e (t - e).toNat)[i] = e + (i : Int) := (List.getElem?_eq_some_iff.mp (rgI_at hi)).2
    rw [List.drop_eq_getElem_cons hi2, hge] at hI
    rw [hgtL_cons] at hI
    walk_at "x"
    refine lcIf (l := sp) (c := fun s => s ≤ e + (i : Int)) (ci := fun _ => inferInstance) (f := fun x => x) ?_ ?_ ?_
    · omega
    · intro x hx Q Q0 h
      walk_at "x"
      exact h
    rw [List.map_id']
    walk_at "x"
    split
    · rename_i h1
      rw [if_pos h1] at hI
      rw [hI] at q
      exact q
    · rename_i h1
      rw [if_neg h1] at hI
      exact hI
  · rintro e' hI ⟨v4, v5, v6, rfl⟩
    walk_at "x"
    rw [List.drop_eq_nil_of_le (by rw [rgI_len]; exact Nat.le_refl _)] at hI
    rw [hI] at q
    exact q
--@@DEF trouble
def p_trouble (A : CA) : PSp := fun xs Q X =>
  (∃ (rs : List (Int × Str)) (t b e w : Int) (d : List (Str × Int)), xs = [shfP A rs t b, .int e, dI d, .int w] ∧ (rs.length ≤ 1000 ∧ (-10000 ≤ e ∧ e ≤ 10000) ∧ (-10000 ≤ t ∧ t ≤ 10000) ∧ (0 ≤ w ∧ w < 65535) ∧ (d.map Prod.fst).length < 64 ∧ (∀ z ∈ d.map Prod.fst, SOk z) ∧ (∀ z ∈ d.map Prod.fst, dm d z ≤ 10000) ∧ match negL d with | [] => Q (trP rs t e w d) | z :: _ => X A.InvalidDemands ["record"] [.str z]))
instance ap_trouble {A : CA} {rs : List (Int × Str)} {t b e w : Int} {d : List (Str × Int)} {ks_d : List Key} {xs_d : List P} [h_d : ED P.int ks_d xs_d d] : PAp (p_trouble A) [shfP A rs t b, .int e, .dct ks_d xs_d, .int w] (fun Q X =>
  rs.length ≤ 1000 ∧ (-10000 ≤ e ∧ e ≤ 10000) ∧ (-10000 ≤ t ∧ t ≤ 10000) ∧ (0 ≤ w ∧ w < 65535) ∧ (d.map Prod.fst).length < 64 ∧ (∀ z ∈ d.map Prod.fst, SOk z) ∧ (∀ z ∈ d.map Prod.fst, dm d z ≤ 10000) ∧ match negL d with | [] => Q (trP rs t e w d) | z :: _ => X A.InvalidDemands ["record"] [.str z]) := ⟨fun Q X => by
  unfold p_trouble
  simp only [h_d.k, h_d.v, List.cons.injEq, P.lst.injEq, P.tup.injEq, P.ins.injEq, P.int.injEq, P.str.injEq, P.bl.injEq, P.scr.injEq, P.dct.injEq, int_inj, str_inj, bl_inj, row_inj, ii_inj, dd_inj, il_inj, tl_inj, dI_inj, rs_inj, lg_inj, ob_inj, and_true, true_and, and_assoc, exists_and_left, exists_eq_left', exists_eq_left, eq_self, reduceCtorEq, false_and, and_false, exists_false, or_false, false_or, List.nil_eq, List.map_eq_nil_iff]⟩
def w_trouble (A : CA) : WS :=
  (wSeq (wDo (wCallX (p_check_demands A) (wCons (wC 2) wNil)))
  (wSeq (wAV 4 (wCB fSum (wCons (wLcK 2 (wgN 6) (fun _ Q _ => Q true) (wDGet (wC 2) (wC 6)) [6]) wNil)))
  (wSeq (wIfS (wT (wOp (fB fun i j => decide (j < i)) (wC 4) (wCB (fLenO A.Sheaf (p_Sheaf___len__ A)) (wCons (wC 0) wNil))))
   (wRet (wTup (wCons (wK (.str "total")) (wCons (wV 4) wNil))))
   wNx)
  (wSeq (wAV 5 (wCall0 (p__reach_up_to A) (wCons (wMeth A.Sheaf "rows" (p_Sheaf_rows A) (wC 0) wNil) (wCons (wV 1) (wCons (wCB (fLenO A.Sheaf (p_Sheaf___len__ A)) (wCons (wC 0) wNil)) (wCons (wV 3) wNil))))))
  (wSeq (wIfS (wT (wOp (fB fun i j => decide (i < j)) (wC 5) (wCB (fLenO A.Sheaf (p_Sheaf___len__ A)) (wCons (wC 0) wNil))))
   (wRet (wTup (wCons (wK (.str "reach")) (wCons (wV 5) wNil))))
   wNx)
  (wSeq (wFor (wIL (wCB fSortD (wCons (wC 2) wNil))) (wgN 6)
   (wSeq (wAV 7 (wLc (wIOwn A.Sheaf "_rows" (wC 0)) (wgN 9) (wT (wOp fEq (wOp fIxT (wC 9) (wK (.int 1))) (wC 6))) (wV 9) [9]))
   (wSeq (wAV 8 (wCall0 (p__reach_up_to A) (wCons (wC 7) (wCons (wV 1) (wCons (wDGet (wC 2) (wC 6)) (wCons (wV 3) wNil))))))
   (wIfS (wT (wOp (fB fun i j => decide (i < j)) (wC 8) (wDGet (wC 2) (wC 6))))
    (wRet (wTup (wCons (wK (.str "record")) (wCons (wV 6) (wCons (wV 8) wNil)))))
    wNx))))
  (wRet (wCall0 (p__height_trouble A) (wCons (wC 0) (wCons (wV 1) (wCons (wCallNX (p_set_aside A) (wCons (wC 0) (wCons (wV 1) (wCons (wC 2) wNil))) (wCons (wV 3) wNil)) wNil)))))))))))
theorem pure_trouble (A : CA) : ∀ xs Q X, p_trouble A xs Q X → w_trouble A (endsP false Q X) (startP ["sheaf", "end", "demands", "breadth", "total", "reached", "record", "borne", "amount", "row"] [.b, .v, .b, .v] xs) := by
  rintro _ Q X ⟨rs, t, b, e, w, d, rfl, hn, he, ht, hw, hl, hz, hm, q⟩
  unfold w_trouble
  walk_at "x"
  refine ⟨by rw [← List.length_map (as := d) (f := Prod.fst)]; exact hl, hz, ?_⟩
  have hneg : negL d = [] → ∀ z ∈ d.map Prod.fst, 0 ≤ dm d z := fun h z hz => by
    by_cases h0 : 0 ≤ dm d z
    · exact h0
    have : z ∈ negL d := sortS_mem.mpr (List.mem_filter.mpr ⟨hz, decide_eq_true (by omega)⟩)
    rw [h] at this
    exact absurd this List.not_mem_nil
  cases e0 : negL d with
  | cons z r =>
    rw [e0] at q
    exact q
  | nil =>
    rw [e0] at q
    have hneg := hneg e0
    refine ⟨hz, ?_⟩
    refine lcI (l := d.map Prod.fst) (f := dm d) ?_ ?_ ?_
    · omega
    · intro z hmem Q hQ
      obtain ⟨a, ha⟩ := Option.isSome_iff_exists.mp (dget_mem.mpr hmem)
      have hd : dm d z = a := by unfold dm; rw [ha]; rfl
      walk_at "x"
      exact ⟨a, ha, hd ▸ hQ⟩
    have q : Q (trP rs t e w d) := q
    unfold trP totI at q
    walk_at "x"
    split
    · rename_i h1
      rw [if_pos h1] at q
      exact q
    rename_i h1
    rw [if_neg h1] at q
    refine ⟨by omega, by omega, by omega, by omega, by omega, by omega, by omega, by omega, by omega, ?_⟩
    split
    · rename_i h2
      rw [if_pos h2] at q
      exact q
    rename_i h2
    rw [if_neg h2] at q
    refine ⟨by rw [← List.length_map (as := d) (f := Prod.fst)]; exact hl, hz, ?_⟩
    refine forKi (l := sortS (d.map Prod.fst)) [6, 7, 8, 9] (fun i => recL (fun z => capSU ((lvZ rs z).map Prod.fst) e (dm d z) w) d (sortS (d.map Prod.fst)) = recL (fun z => capSU ((lvZ rs z).map Prod.fst) e (dm d z) w) d ((sortS (d.map Prod.fst)).drop i)) rfl ?_ ⟨_, _, _, _, rfl⟩ ?_
    · rintro i z e' hzi hi hI ⟨v6, v7, v8, v9, rfl⟩
      have hmem : z ∈ d.map Prod.fst := sortS_mem.mp (List.mem_of_getElem? hzi)
      have hm0 := hneg z hmem
      have hm1 := hm z hmem
      obtain ⟨a, ha⟩ := Option.isSome_iff_exists.mp (dget_mem.mpr hmem)
      have hd : dm d z = a := by unfold dm; rw [ha]; rfl
      obtain ⟨hi2, hz2⟩ := List.getElem?_eq_some_iff.mp hzi
      rw [List.drop_eq_getElem_cons hi2, hz2] at hI
      rw [recL_cons] at hI
      walk_at "x"
      refine lcMf (l := rs) (c := fun r => r.2 = z) (ci := fun _ => inferInstance) (f := rowP) ?_ ?_ ?_
      · omega
      · intro r hr Q Q0 h
        walk_at "x"
        exact h
      have hfl : (lvZ rs z).length ≤ 1000 := Nat.le_trans (List.length_filter_le _ _) hn
      rw [show rs.filter (fun r => decide (r.2 = z)) = lvZ rs z from rfl]
      refine ⟨a, ha, ?_⟩
      walk_at "x"
      refine ⟨a, ha, ?_⟩
      rw [← hd]
      split
      · rename_i h3
        rw [if_pos h3] at hI
        rw [hI] at q
        exact q
      · rename_i h3
        rw [if_neg h3] at hI
        exact hI
    · rintro e' hI ⟨v6, v7, v8, v9, rfl⟩
      rw [List.drop_length] at hI
      have hI : recL (fun z => capSU ((lvZ rs z).map Prod.fst) e (dm d z) w) d (sortS (d.map Prod.fst)) = none := hI
      rw [hI] at q
      walk_at "x"
      refine ⟨by rw [← List.length_map (as := d) (f := Prod.fst)]; exact hl, hz, hm, ?_⟩
      rw [e0]
      exact ⟨hn, by omega, by omega, by omega, by omega, q⟩
--@@DEF can_meet
def p_can_meet (A : CA) : PSp := fun xs Q X =>
  (∃ (rs : List (Int × Str)) (t b e w : Int) (d : List (Str × Int)), xs = [shfP A rs t b, .int e, dI d, .int w] ∧ (rs.length ≤ 1000 ∧ (-10000 ≤ e ∧ e ≤ 10000) ∧ (-10000 ≤ t ∧ t ≤ 10000) ∧ (0 ≤ w ∧ w < 65535) ∧ (d.map Prod.fst).length < 64 ∧ (∀ z ∈ d.map Prod.fst, SOk z) ∧ (∀ z ∈ d.map Prod.fst, dm d z ≤ 10000) ∧ match negL d with | [] => Q (.bl (isNon (trP rs t e w d))) | z :: _ => X A.InvalidDemands ["record"] [.str z]))
instance ap_can_meet {A : CA} {rs : List (Int × Str)} {t b e w : Int} {d : List (Str × Int)} {ks_d : List Key} {xs_d : List P} [h_d : ED P.int ks_d xs_d d] : PAp (p_can_meet A) [shfP A rs t b, .int e, .dct ks_d xs_d, .int w] (fun Q X =>
  rs.length ≤ 1000 ∧ (-10000 ≤ e ∧ e ≤ 10000) ∧ (-10000 ≤ t ∧ t ≤ 10000) ∧ (0 ≤ w ∧ w < 65535) ∧ (d.map Prod.fst).length < 64 ∧ (∀ z ∈ d.map Prod.fst, SOk z) ∧ (∀ z ∈ d.map Prod.fst, dm d z ≤ 10000) ∧ match negL d with | [] => Q (.bl (isNon (trP rs t e w d))) | z :: _ => X A.InvalidDemands ["record"] [.str z]) := ⟨fun Q X => by
  unfold p_can_meet
  simp only [h_d.k, h_d.v, List.cons.injEq, P.lst.injEq, P.tup.injEq, P.ins.injEq, P.int.injEq, P.str.injEq, P.bl.injEq, P.scr.injEq, P.dct.injEq, int_inj, str_inj, bl_inj, row_inj, ii_inj, dd_inj, il_inj, tl_inj, dI_inj, rs_inj, lg_inj, ob_inj, and_true, true_and, and_assoc, exists_and_left, exists_eq_left', exists_eq_left, eq_self, reduceCtorEq, false_and, and_false, exists_false, or_false, false_or, List.nil_eq, List.map_eq_nil_iff]⟩
def w_can_meet (A : CA) : WS :=
  (wRet (wOp fIsN (wCallNX (p_trouble A) (wCons (wC 0) (wCons (wV 1) (wCons (wC 2) wNil))) (wCons (wV 3) wNil)) (wK .non)))
theorem pure_can_meet (A : CA) : ∀ xs Q X, p_can_meet A xs Q X → w_can_meet A (endsP false Q X) (startP ["sheaf", "end", "demands", "breadth"] [.b, .v, .b, .v] xs) := by
  rintro _ Q X ⟨rs, t, b, e, w, d, rfl, hn, he, ht, hw, hl, hz, hm, q⟩
  unfold w_can_meet
  walk_at "x"
  refine ⟨by rw [← List.length_map (as := d) (f := Prod.fst)]; exact hl, hz, hm, ?_⟩
  exact q
--@@DEF _law_asked
def p__law_asked (A : CA) : PSp := fun xs Q X =>
  (∃ (rs : List (Int × Str)) (e w : Int) (d : List (Str × Int)) (pl : Bool), xs = [shf A rs, .int e, dI d, .int w, .bl pl] ∧ ((pl = true → w = 1) ∧ (0 < rs.length ∧ rs.length ≤ 1000) ∧ (-10000 ≤ e ∧ e ≤ 10000) ∧ (∀ r ∈ rs, -10000 ≤ r.1 ∧ r.1 ≤ 10000) ∧ (1 ≤ w ∧ w < 65535) ∧ (d.map Prod.fst).length < 64 ∧ (∀ z ∈ d.map Prod.fst, SOk z) ∧ (∀ z ∈ d.map Prod.fst, dm d z ≤ 10000) ∧ match negL d with | [] => Q (.tup [.str "told", .bl (isNon (trP rs (maxI (rs.map Prod.fst)) e w d))]) | z :: _ => Q (.tup [.str "negative", .str z])))
instance ap__law_asked {A : CA} {rs : List (Int × Str)} {e w : Int} {d : List (Str × Int)} {pl : Bool} {ks_d : List Key} {xs_d : List P} [h_d : ED P.int ks_d xs_d d] : PAp (p__law_asked A) [shf A rs, .int e, .dct ks_d xs_d, .int w, .bl pl] (fun Q X =>
  (pl = true → w = 1) ∧ (0 < rs.length ∧ rs.length ≤ 1000) ∧ (-10000 ≤ e ∧ e ≤ 10000) ∧ (∀ r ∈ rs, -10000 ≤ r.1 ∧ r.1 ≤ 10000) ∧ (1 ≤ w ∧ w < 65535) ∧ (d.map Prod.fst).length < 64 ∧ (∀ z ∈ d.map Prod.fst, SOk z) ∧ (∀ z ∈ d.map Prod.fst, dm d z ≤ 10000) ∧ match negL d with | [] => Q (.tup [.str "told", .bl (isNon (trP rs (maxI (rs.map Prod.fst)) e w d))]) | z :: _ => Q (.tup [.str "negative", .str z])) := ⟨fun Q X => by
  unfold p__law_asked
  simp only [h_d.k, h_d.v, List.cons.injEq, P.lst.injEq, P.tup.injEq, P.ins.injEq, P.int.injEq, P.str.injEq, P.bl.injEq, P.scr.injEq, P.dct.injEq, int_inj, str_inj, bl_inj, row_inj, ii_inj, dd_inj, il_inj, tl_inj, dI_inj, rs_inj, lg_inj, ob_inj, and_true, true_and, and_assoc, exists_and_left, exists_eq_left', exists_eq_left, eq_self, reduceCtorEq, false_and, and_false, exists_false, or_false, false_or, List.nil_eq, List.map_eq_nil_iff]⟩
def w__law_asked (A : CA) : WS :=
  (wSeq (wTry A.InvalidDemands 5 (wSeq (wIfS (wT (wC 4))
    (wRet (wTup (wCons (wK (.str "told")) (wCons (wCallDX (p_can_meet A) (.int 1) (wCons (wC 0) (wCons (wV 1) (wCons (wC 2) wNil)))) wNil))))
    wNx)
   (wRet (wTup (wCons (wK (.str "told")) (wCons (wCallNX (p_can_meet A) (wCons (wC 0) (wCons (wV 1) (wCons (wC 2) wNil))) (wCons (wV 3) wNil)) wNil)))))
   (fun ea ed => (wIfS (wAnd (wT (wCall0 (p__law_single__InvalidDemands A ea ed) (wCons (wV 5) wNil))) (wT (wCB fIsi (wCons (wXf ea ed A.InvalidDemands "record" (wC 5)) (wCons (wK (.ty "str")) wNil)))))
    (wRet (wTup (wCons (wK (.str "negative")) (wCons (wXf ea ed A.InvalidDemands "record" (wC 5)) wNil))))
    wNx)))
  (wRet (wTup (wCons (wK (.str "wrong")) (wCons (wK (.str "")) wNil)))))
theorem pure__law_asked (A : CA) : ∀ xs Q X, p__law_asked A xs Q X → w__law_asked A (endsP false Q X) (startP ["sheaf", "end", "demands", "width", "plain", "e"] [.b, .v, .b, .v, .v] xs) := by
  rintro _ Q X ⟨rs, e, w, d, pl, rfl, hp, hn, he, hr, hw, hl, hz, hm, q⟩
  unfold w__law_asked
  have ht : -10000 ≤ maxI (rs.map Prod.fst) ∧ maxI (rs.map Prod.fst) ≤ 10000 := by
    obtain ⟨r, hr2, e⟩ := List.mem_map.mp (maxI_mem (l := rs.map Prod.fst) (by rw [List.length_map]; exact hn.1))
    rw [← e]; exact hr r hr2
  walk_at "x"
  by_cases hpl : pl = true
  · rw [if_pos hpl]
    rw [hp hpl] at q
    refine ⟨hn.2, he.1, he.2, ht.1, ht.2, by rwa [List.length_map] at hl, hz, hm, ?_⟩
    split
    · rename_i h
      rw [h] at q
      exact q
    · rename_i z r h
      rw [h] at q
      intro a dd hs
      refine ⟨_, _, rfl, _, rfl, ?_⟩
      walk_at "x"
      exact ⟨_, _, rfl, _, rfl, q⟩
  · rw [if_neg hpl]
    refine ⟨hn.2, he.1, he.2, ht.1, ht.2, by omega, hw.2, by rwa [List.length_map] at hl, hz, hm, ?_⟩
    split
    · rename_i h
      rw [h] at q
      exact q
    · rename_i z r h
      rw [h] at q
      intro a dd hs
      refine ⟨_, _, rfl, _, rfl, ?_⟩
      walk_at "x"
      exact ⟨_, _, rfl, _, rfl, q⟩
--@@DEF _law_met
def p__law_met (A : CA) : PSp := fun xs Q X =>
  (∃ (rs : List (Int × Str)) (e w : Int) (d : List (Str × Int)) (pl due : Bool), xs = [rl rs, .int e, dI d, .int w, .bl pl, .bl due] ∧ ((pl = true → w = 1) ∧ (0 < rs.length ∧ rs.length ≤ 1000) ∧ (∀ r ∈ rs, isRec r.2 = true) ∧ (-10000 ≤ e ∧ e ≤ 10000) ∧ (∀ r ∈ rs, -10000 ≤ r.1 ∧ r.1 ≤ 10000) ∧ (1 ≤ w ∧ w < 65535) ∧ (d.map Prod.fst).length < 64 ∧ (d.map Prod.fst).Nodup ∧ (∀ z ∈ d.map Prod.fst, SOk z) ∧ (∀ z ∈ d.map Prod.fst, 0 ≤ dm d z ∧ dm d z ≤ 10000) ∧ isNon (trP rs (maxI (rs.map Prod.fst)) e w d) = due ∧ Q (.bl true)))
instance ap__law_met {A : CA} {rs : List (Int × Str)} {e w : Int} {d : List (Str × Int)} {pl due : Bool} {xs_rs : List P} [h_rs : EL rowP xs_rs rs] {ks_d : List Key} {xs_d : List P} [h_d : ED P.int ks_d xs_d d] : PAp (p__law_met A) [.lst xs_rs, .int e, .dct ks_d xs_d, .int w, .bl pl, .bl due] (fun Q X =>
  (pl = true → w = 1) ∧ (0 < rs.length ∧ rs.length ≤ 1000) ∧ (∀ r ∈ rs, isRec r.2 = true) ∧ (-10000 ≤ e ∧ e ≤ 10000) ∧ (∀ r ∈ rs, -10000 ≤ r.1 ∧ r.1 ≤ 10000) ∧ (1 ≤ w ∧ w < 65535) ∧ (d.map Prod.fst).length < 64 ∧ (d.map Prod.fst).Nodup ∧ (∀ z ∈ d.map Prod.fst, SOk z) ∧ (∀ z ∈ d.map Prod.fst, 0 ≤ dm d z ∧ dm d z ≤ 10000) ∧ isNon (trP rs (maxI (rs.map Prod.fst)) e w d) = due ∧ Q (.bl true)) := ⟨fun Q X => by
  unfold p__law_met
  simp only [h_rs.eq, h_d.k, h_d.v, List.cons.injEq, P.lst.injEq, P.tup.injEq, P.ins.injEq, P.int.injEq, P.str.injEq, P.bl.injEq, P.scr.injEq, P.dct.injEq, int_inj, str_inj, bl_inj, row_inj, ii_inj, dd_inj, il_inj, tl_inj, dI_inj, rs_inj, lg_inj, ob_inj, and_true, true_and, and_assoc, exists_and_left, exists_eq_left', exists_eq_left, eq_self, reduceCtorEq, false_and, and_false, exists_false, or_false, false_or, List.nil_eq, List.map_eq_nil_iff]⟩
def w__law_met (A : CA) : WS :=
  (wSeq (wAV 6 (wCall0 (p_Sheaf___init__ A) (wCons (wCB fList (wCons (wC 0) wNil)) wNil)))
  (wSeq (wAV 7 (wCB fDictD (wCons (wC 2) wNil)))
  (wSeq (wAV 8 (wCall0 (p__law_asked A) (wCons (wC 6) (wCons (wV 1) (wCons (wC 7) (wCons (wV 3) (wCons (wV 4) wNil)))))))
  (wSeq (wIfS (wOr (wT (wOp (fDEq false) (wC 7) (wC 2))) (wNot (wT (wOp (fEqO A.Sheaf (p_Sheaf___eq__ A)) (wC 6) (wCall0 (p_Sheaf___init__ A) (wCons (wCB fList (wCons (wC 0) wNil)) wNil))))))
   (wRet (wK (.bl false)))
   wNx)
  (wRet (wAndV (wOp fEq (wOp fIxT (wC 8) (wK (.int 0))) (wK (.str "told"))) (wAndV (wCB fIsi (wCons (wOp fIxT (wC 8) (wK (.int 1))) (wCons (wK (.ty "bool")) wNil))) (wOp fEq (wOp fIxT (wC 8) (wK (.int 1))) (wC 5)))))))))
theorem pure__law_met (A : CA) : ∀ xs Q X, p__law_met A xs Q X → w__law_met A (endsP false Q X) (startP ["rows", "end", "demands", "width", "plain", "due", "sheaf", "handed", "told"] [.b, .v, .b, .v, .v, .v] xs) := by
  rintro _ Q X ⟨rs, e, w, d, pl, due, rfl, hp, hn, hrc, he, hr, hw, hl, hnd, hz, hm, hdue, q⟩
  unfold w__law_met
  have hok := okR_of hn.1 hrc
  walk_at "x"
  have hng : negL d = [] := by
    rw [negL_eq]
    exact List.eq_nil_iff_forall_not_mem.mpr fun z h => by
      obtain ⟨h1, h2⟩ := List.mem_filter.mp h
      have := (hm z (sortS_mem.mp h1)).1
      have := of_decide_eq_true h2
      omega
  rw [hng]
  refine ⟨by rwa [List.length_map] at hl, hz, fun z h => (hm z h).2, hnd, hn.2, hok, ?_⟩
  rw [hdue, decide_eq_true rfl]
  exact q
--@@DEF _law_refused
def p__law_refused (A : CA) : PSp := fun xs Q X =>
  (∃ (rs : List (Int × Str)) (e w k : Int) (d : List (Str × Int)) (z y : Str) (pl : Bool), xs = [rl rs, .int e, dI d, .str z, .str y, .int k, .int w, .bl pl] ∧ ((pl = true → w = 1) ∧ (0 < rs.length ∧ rs.length ≤ 1000) ∧ (∀ r ∈ rs, isRec r.2 = true) ∧ (-9000 ≤ e ∧ e ≤ 9000) ∧ (∀ r ∈ rs, -9000 ≤ r.1 ∧ r.1 ≤ 9000) ∧ (1 ≤ w ∧ w < 65535) ∧ d.length ≤ 50 ∧ (d.map Prod.fst).Nodup ∧ (∀ x ∈ d.map Prod.fst, SOk x) ∧ (∀ x ∈ d.map Prod.fst, 0 ≤ dm d x ∧ dm d x ≤ 10000) ∧ SOk z ∧ SOk y ∧ (0 ≤ k ∧ k ≤ 20) ∧ Q (.bl true)))
instance ap__law_refused {A : CA} {rs : List (Int × Str)} {e w k : Int} {d : List (Str × Int)} {z y : Str} {pl : Bool} {xs_rs : List P} [h_rs : EL rowP xs_rs rs] {ks_d : List Key} {xs_d : List P} [h_d : ED P.int ks_d xs_d d] : PAp (p__law_refused A) [.lst xs_rs, .int e, .dct ks_d xs_d, .str z, .str y, .int k, .int w, .bl pl] (fun Q X =>
  (pl = true → w = 1) ∧ (0 < rs.length ∧ rs.length ≤ 1000) ∧ (∀ r ∈ rs, isRec r.2 = true) ∧ (-9000 ≤ e ∧ e ≤ 9000) ∧ (∀ r ∈ rs, -9000 ≤ r.1 ∧ r.1 ≤ 9000) ∧ (1 ≤ w ∧ w < 65535) ∧ d.length ≤ 50 ∧ (d.map Prod.fst).Nodup ∧ (∀ x ∈ d.map Prod.fst, SOk x) ∧ (∀ x ∈ d.map Prod.fst, 0 ≤ dm d x ∧ dm d x ≤ 10000) ∧ SOk z ∧ SOk y ∧ (0 ≤ k ∧ k ≤ 20) ∧ Q (.bl true)) := ⟨fun Q X => by
  unfold p__law_refused
  simp only [h_rs.eq, h_d.k, h_d.v, List.cons.injEq, P.lst.injEq, P.tup.injEq, P.ins.injEq, P.int.injEq, P.str.injEq, P.bl.injEq, P.scr.injEq, P.dct.injEq, int_inj, str_inj, bl_inj, row_inj, ii_inj, dd_inj, il_inj, tl_inj, dI_inj, rs_inj, lg_inj, ob_inj, and_true, true_and, and_assoc, exists_and_left, exists_eq_left', exists_eq_left, eq_self, reduceCtorEq, false_and, and_false, exists_false, or_false, false_or, List.nil_eq, List.map_eq_nil_iff]⟩
def w__law_refused (A : CA) : WS :=
  (wSeq (wAO 8 (wCB fDictD (wCons (wC 2) wNil)))
  (wSeq (wDPut 8 (wC 3) (wOp (fI fun i j => i - j) (wOp (fI fun i j => i - j) (wK (.int 0)) (wK (.int 1))) (wC 5)))
  (wCut (wIfS (wT (wOp (fB fun i j => decide (j < i)) (wC 5) (wK (.int 3))))
   (wDPut 8 (wC 4) (wOp (fI fun i j => i - j) (wK (.int 0)) (wC 5)))
   wNx)
  (wFrz 8 (wSeq (wAV 9 (wOp fIxL (wCB fSortS (wCons (wLcK 8 (wgN 11) (wT (wOp (fB fun i j => decide (i < j)) (wDGet (wC 8) (wC 11)) (wK (.int 0)))) (wV 11) [11]) wNil)) (wK (.int 0))))
  (wSeq (wAV 10 (wCB fDictD (wCons (wC 8) wNil)))
  (wRet (wAndV (wOp fEqD (wCall0 (p__law_asked A) (wCons (wCall0 (p_Sheaf___init__ A) (wCons (wCB fList (wCons (wC 0) wNil)) wNil)) (wCons (wV 1) (wCons (wC 10) (wCons (wV 6) (wCons (wV 7) wNil)))))) (wTup (wCons (wK (.str "negative")) (wCons (wV 9) wNil)))) (wOp (fDEq true) (wC 10) (wC 8))))))))))
theorem pure__law_refused (A : CA) : ∀ xs Q X, p__law_refused A xs Q X → w__law_refused A (endsP false Q X) (startP ["rows", "end", "demands", "name", "strange", "less", "width", "plain", "bad", "least", "handed", "one"] [.b, .v, .b, .v, .v, .v, .v, .v] xs) := by
  rintro _ Q X ⟨rs, e, w, k, d, z, y, pl, rfl, hp, hn, hrc, he, hr, hw, hl, hnd, hz, hm, sz, sy, hk, q⟩
  unfold w__law_refused
  have hok := okR_of hn.1 hrc
  walk_at "x"
  have key : ∀ (c : List (Str × Int)) (x : Str) (a : Int) (m : Nat), (c.length ≤ m ∧ (c.map Prod.fst).Nodup ∧ (∀ x ∈ c.map Prod.fst, SOk x) ∧ ∀ x ∈ c.map Prod.fst, dm c x ≤ 10000) → SOk x → a < 0 → (dput c x a).length ≤ m + 1 ∧ ((dput c x a).map Prod.fst).Nodup ∧ (∀ y ∈ (dput c x a).map Prod.fst, SOk y) ∧ (∀ y ∈ (dput c x a).map Prod.fst, dm (dput c x a) y ≤ 10000) ∧ negL (dput c x a) ≠ [] := fun c x a m ⟨c1, c2, c3, c4⟩ sx ha => by
    have hmem : ∀ y ∈ (dput c x a).map Prod.fst, y = x ∨ y ∈ c.map Prod.fst := fun y hy => by
      have h := dget_mem.mpr hy
      rw [dget_put] at h
      by_cases e : y = x
      · exact .inl e
      · rw [if_neg e] at h
        exact .inr (dget_mem.mp h)
    refine ⟨Nat.le_trans dput_len (by omega), dput_nodup c2, fun y hy => ?_, fun y hy => ?_, negL_some (z := x) (a := a) (by rw [dget_put, if_pos rfl]) ha⟩
    · rcases hmem y hy with rfl | h
      · exact sx
      · exact c3 y h
    · unfold dm
      rw [dget_put]
      by_cases e : y = x
      · rw [if_pos e]
        show a ≤ 10000
        omega
      · rw [if_neg e]
        exact c4 y ((hmem y hy).resolve_left e)
  have k1 := key d z (-1 - k) 50 ⟨hl, hnd, hz, fun x hx => (hm x hx).2⟩ sz (by omega)
  refine cutA 8 .o dI (fun c => c.length ≤ 52 ∧ (c.map Prod.fst).Nodup ∧ (∀ x ∈ c.map Prod.fst, SOk x) ∧ (∀ x ∈ c.map Prod.fst, dm c x ≤ 10000) ∧ negL c ≠ []) ?_ fun c hc => ?_
  · walk_at "x"
    split
    · have k2 := key (dput d z (-1 - k)) y (0 - k) 51 ⟨k1.1, k1.2.1, k1.2.2.1, k1.2.2.2.1⟩ sy (by omega)
      exact ⟨by omega, _, rfl, rfl, by omega, k2.2.1, k2.2.2.1, k2.2.2.2.1, k2.2.2.2.2⟩
    · exact ⟨_, rfl, rfl, by omega, k1.2.1, k1.2.2.1, k1.2.2.2.1, k1.2.2.2.2⟩
  obtain ⟨c1, c2, c3, c4, c5⟩ := hc
  walk_at "x"
  refine lcSf (l := c.map Prod.fst) (c := fun x => dm c x < 0) (ci := fun _ => inferInstance) (f := fun x => x) ?_ ?_ ?_
  · rw [List.length_map]; omega
  · intro x hx Q Q0 h
    obtain ⟨a, ha⟩ := Option.isSome_iff_exists.mp (dget_mem.mpr hx)
    have hd : dm c x = a := by unfold dm; rw [ha]; rfl
    walk_at "x"
    refine ⟨a, ha, ?_⟩
    rw [← hd]
    exact h
  rw [List.map_id']
  have hlen : ((c.map Prod.fst).filter fun a => decide (dm c a < 0)).length < 64 := Nat.lt_of_le_of_lt (List.length_filter_le _ _) (by rw [List.length_map]; omega)
  walk_at "x"
  rw [show sortS ((c.map Prod.fst).filter fun a => decide (dm c a < 0)) = negL c from rfl]
  cases hng : negL c with
  | nil => exact absurd hng c5
  | cons z0 rest =>
    have hrr : ∀ r ∈ rs, -10000 ≤ r.1 ∧ r.1 ≤ 10000 := fun r h => by have := hr r h; omega
    refine ⟨by rw [List.length_cons]; omega, hn.2, hok, hp, hn.1, hn.2, by omega, by omega, hrr, hw.1, hw.2, by omega, c3, c4, ?_⟩
    dsimp only
    rw [show gx (z0 :: rest) 0 = z0 from rfl, if_pos rfl]
    exact ⟨c2, q⟩
--@@DEF law
def p_law (_ : CA) : PSp := pLaw
def w_law (A : CA) : WS :=
  (wSeq (wAV 1 (wCall0 (p__law_sheets A) (wCons (wV 0) (wCons (wK (.int 6)) (wCons (wK (.int 5)) (wCons (wK (.int 7)) (wCons (wK (.int 10)) (wCons (wK (.int 5)) (wCons (wK (.int 8)) (wCons (wK (.int 1)) wNil))))))))))
  (wSeq (wAV 2 (wOp fIxT (wC 1) (wK (.int 0))))
  (wSeq (wAV 3 (wCB fLen (wCons (wC 2) wNil)))
  (wSeq (wAV 4 (wOp fIxL (wOp fIxT (wC 1) (wK (.int 1))) (wC 3)))
  (wSeq (wAV 5 (wCall0 (p__law_draws A) (wCons (wCall0 (p__law_given A) (wCons (wV 0) (wCons (wK (.int 3)) wNil))) (wCons (wLst (wCons (wK (.int 4)) (wCons (wK (.int 6)) (wCons (wK (.int 13)) (wCons (wK (.int 840)) (wCons (wV 3) (wCons (wK (.int 8)) (wCons (wK (.int 8)) (wCons (wK (.int 840)) (wCons (wK (.int 3)) wNil)))))))))) wNil))))
  (wSeq (wAV 6 (wOp fEq (wOp fIxL (wC 5) (wK (.int 0))) (wK (.int 0))))
  (wSeq (wAV 7 (wCall0 (p__law_width A) (wCons (wC 5) wNil)))
  (wSeq (wAV 8 (wCall0 (p__law_wild_log A) (wCons (wV 2) (wCons (wLc (wIR1 (wCons (wOp fIxL (wC 5) (wK (.int 2))) wNil)) (wgN 15) (fun _ Q _ => Q true) (wCall0 (p__law_given A) (wCons (wV 0) (wCons (wOp (fI fun i j => i + j) (wK (.int 6)) (wC 15)) wNil))) [15]) (wCons (wV 7) (wCons (wK (.int 12)) wNil))))))
  (wSeq (wAV 9 (wOp fIxL (wCall0 (p__law_walk A) (wCons (wV 2) (wCons (wC 8) wNil))) (wCB fLen (wCons (wC 8) wNil))))
  (wSeq (wAV 8 (wCall0 (p__law_finished A) (wCons (wV 9) (wCons (wC 8) (wCons (wOp fIxL (wC 5) (wK (.int 3))) wNil)))))
  (wSeq (wAV 10 (wCall0 (p__law_walk A) (wCons (wV 2) (wCons (wC 8) wNil))))
  (wSeq (wAV 11 (wOp fIxT (wOp fIxL (wOp fIxL (wC 10) (wCB fLen (wCons (wC 8) wNil))) (wK (.int 0))) (wK (.int 0))))
  (wSeq (wAV 12 (wCall0 (p__law_shares A) (wCons (wOp fIxL (wC 10) (wCB fLen (wCons (wC 8) wNil))) wNil)))
  (wSeq (wAV 13 (wOp fIxL (wC 10) (wOp (fIc (fun _ j => 0 < j) fun i j => i % j) (wCB fInt1 (wCons (wOp fIxL (wC 5) (wK (.int 7))) wNil)) (wCB fLen (wCons (wC 10) wNil)))))
  (wSeq (wFor (wIL (wLst (wCons (wV 2) (wCons (wV 13) (wCons (wOp fIxL (wC 10) (wCB fLen (wCons (wC 8) wNil))) wNil))))) (wgN 14)
   (wSeq (wFor (wIR1 (wCons (wK (.int 2)) wNil)) (wgN 15)
    (wSeq (wAV 16 (wCall0 (p__law_lessened A) (wCons (wC 12) (wCons (wCall0 (p__law_given A) (wCons (wV 0) (wCons (wOp (fI fun i j => i + j) (wK (.int 4)) (wC 15)) wNil))) wNil))))
    (wIfS (wNot (wT (wCall0 (p__law_met A) (wCons (wC 14) (wCons (wV 11) (wCons (wC 16) (wCons (wV 7) (wCons (wV 6) (wCons (wK (.bl true)) wNil)))))))))
     (wRet (wK (.bl false)))
     wNx)))
   (wSeq (wIfS (wNot (wT (wCall0 (p__law_met A) (wCons (wC 14) (wCons (wV 11) (wCons (wC 12) (wCons (wV 7) (wCons (wV 6) (wCons (wK (.bl true)) wNil)))))))))
    (wRet (wK (.bl false)))
    wNx)
   (wIfS (wAnd (wT (wOp (fB fun i j => decide (i < j)) (wC 7) (wK (.int 6)))) (wNot (wT (wCall0 (p__law_met A) (wCons (wC 14) (wCons (wV 11) (wCons (wC 12) (wCons (wOp (fI fun i j => i + j) (wC 7) (wK (.int 1))) (wCons (wK (.bl false)) (wCons (wK (.bl true)) wNil))))))))))
    (wRet (wK (.bl false)))
    wNx))))
  (wSeq (wAO 17 (wCB fDictD (wCons (wC 12) wNil)))
  (wSeq (wDPut 17 (wC 4) (wK (.int 0)))
  (wSeq (wIfS (wOr (wNot (wT (wCall0 (p__law_met A) (wCons (wC 2) (wCons (wV 11) (wCons (wC 17) (wCons (wV 7) (wCons (wV 6) (wCons (wK (.bl true)) wNil))))))))) (wNot (wT (wCall0 (p__law_met A) (wCons (wC 2) (wCons (wV 11) (wCons wDNew (wCons (wV 7) (wCons (wV 6) (wCons (wK (.bl true)) wNil))))))))))
   (wRet (wK (.bl false)))
   wNx)
  (wSeq (wAV 18 (wOp fIxT (wOp fIxL (wC 2) (wOp fIxL (wC 5) (wK (.int 4)))) (wK (.int 1))))
  (wSeq (wDPut 17 (wC 18) (wOp (fI fun i j => i + j) (wDGet2 (wC 17) (wC 18) (wK (.int 0))) (wK (.int 1))))
  (wSeq (wIfS (wNot (wT (wCall0 (p__law_met A) (wCons (wC 2) (wCons (wV 11) (wCons (wC 17) (wCons (wV 7) (wCons (wV 6) (wCons (wK (.bl false)) wNil)))))))))
   (wRet (wK (.bl false)))
   wNx)
  (wSeq (wIfS (wNot (wT (wCall0 (p__law_met A) (wCons (wC 2) (wCons (wV 11) (wCons (wDisp1 (wV 4) (wK (.int 1))) (wCons (wV 7) (wCons (wV 6) (wCons (wK (.bl false)) wNil)))))))))
   (wRet (wK (.bl false)))
   wNx)
  (wSeq (wAV 19 (wOp (fI fun i j => i + j) (wOp (fI fun i j => i + j) (wCB fMax (wCons (wLc (wIL (wC 2)) (wgN 20) (fun _ Q _ => Q true) (wOp fIxT (wC 20) (wK (.int 0))) [20]) wNil)) (wK (.int 1))) (wOp fIxL (wC 5) (wK (.int 8)))))
  (wSeq (wIfS (wNot (wT (wCall0 (p__law_met A) (wCons (wC 2) (wCons (wV 19) (wCons wDNew (wCons (wV 7) (wCons (wV 6) (wCons (wK (.bl false)) wNil)))))))))
   (wRet (wK (.bl false)))
   wNx)
  (wSeq (wIfS (wT (wOp (fB fun i j => decide (j < i)) (wOp fIxL (wC 5) (wK (.int 5))) (wK (.int 0))))
   (wRet (wK (.bl true)))
   wNx)
  (wRet (wCall0 (p__law_refused A) (wCons (wC 2) (wCons (wV 19) (wCons (wC 12) (wCons (wV 18) (wCons (wV 4) (wCons (wOp fIxL (wC 5) (wK (.int 6))) (wCons (wV 7) (wCons (wV 6) wNil)))))))))))))))))))))))))))))))))))
theorem pure_law (A : CA) : ∀ xs Q X, p_law A xs Q X → w_law A (endsP false Q X) (startP ["script", "built", "rows", "count", "strange", "drawn", "plain", "width", "log", "left", "states", "end", "shares", "middle", "state", "k", "lessened", "more", "name", "above", "row"] [.v] xs) := by
  rintro _ Q X ⟨sc, rfl, hn, q⟩
  unfold w_law
  walk_at "x"
  intro rs zs b D hS
  have n0 := hS.pos
  have nl := hS.zl
  have hrc := hS.rc
  have hsz := hS.sz
  have n16 : rs.length ≤ 16 := by omega
  have hDn : (D + 1) * (rs.length : Int) < 1600 := by
    have : (D + 1) * (rs.length : Int) ≤ 49 * 16 := Int.mul_le_mul (by omega) (by omega) (by omega) (by decide)
    omega
  refine ⟨by omega, by omega, fun s hs => ?_, fun ps hps => ?_⟩
  · simp only [List.mem_cons, List.not_mem_nil, or_false] at hs
    omega
  obtain ⟨d0, d1, d2, d3, d4, d5, d6, d7, d8, rfl, e0, e1, e2, e3, e4, e5, e6, e7, e8⟩ := hps.d9
  clear hps
  walk_at "x"
  intro w hw hw0
  refine ⟨by omega, by omega, ?_⟩
  refine lcAny (l := rgI 0 d2.toNat) P.int (fun _ _ => True) ?_ ?_ ?_
  · rw [rgI_len]; omega
  · intro k hk Q hQ
    have hk := rgI_mem.mp hk
    walk_at "x"
    intro c
    exact hQ c trivial
  intro cs hcl _
  rw [rgI_len] at hcl
  try walk_at "x"
  intro ds hdk hdw hdl
  have hwf := logOk_wf hdk
  have hL : gx (stsL rs ds) (ds.length : Int) = aftL rs ds := gx_stsE
  have hLl : (aftL rs ds).length = rs.length := aftL_len
  have hlo := hS.lo
  have hbb := hS.bb
  have hLb := logOk_b hdk hlo
  rw [hL, hLl]
  refine ⟨by omega, by omega, fun d hd => ⟨hwf d hd, hdw d hd⟩, by rw [stsL_len]; omega, by rw [stsL_len]; omega, by omega, by omega, by omega, by omega, by omega, ⟨b, D, hLb, hDn⟩, ?_⟩
  intro es hek hew hel hev
  have hwk := logOk_app hdk (logOk_mono hw.1 hek)
  have hMM : aftL (aftL rs ds) es = aftL rs (ds ++ es) := aftL_app.symm
  rw [hMM] at hev
  have hll : (ds ++ es).length = ds.length + es.length := List.length_append
  have hlw : ∀ d ∈ ds ++ es, d.2.length ≤ 1000 := fun d hd => (List.mem_append.mp hd).elim (hdw d) (hew d)
  rw [← hll]
  generalize hlog : ds ++ es = log at *
  clear hdk hdw hwf hL hLl hLb hek hew hMM
  have hE : gx (stsL rs log) (log.length : Int) = aftL rs log := gx_stsE
  rw [hE]
  have hsl : (stsL rs log).length = log.length + 1 := stsL_len
  have hMl : (aftL rs log).length = rs.length := aftL_len
  have hMr := aftL_rc hwk hrc
  have hMb := logOk_b hwk hlo
  generalize hMdef : aftL rs log = M at *
  have m0 := Int.emod_nonneg d7 (show ((stsL rs log).length : Int) ≠ 0 by omega)
  have m1 := Int.emod_lt_of_pos d7 (show 0 < ((stsL rs log).length : Int) by omega)
  refine ⟨by omega, by omega, fun d hd => ⟨logOk_wf hwk d hd, hlw d hd⟩, by omega, by omega, by omega, by omega, by omega, by omega, by omega, by omega, by omega, by omega, ?_⟩
  have hmid : gx (stsL rs log) (d7 % ((stsL rs log).length : Int)) = aftL rs (log.take (d7 % ((stsL rs log).length : Int)).toNat) := gx_sts m0 (by omega)
  have hst : ∀ i : Nat, (0 < (aftL rs (log.take i)).length ∧ (aftL rs (log.take i)).length = rs.length) ∧ (∀ r ∈ aftL rs (log.take i), isRec r.2 = true) ∧ (∀ r ∈ aftL rs (log.take i), b ≤ r.1 ∧ r.1 ≤ b + D) ∧ ∀ (w' : Int) (d2 : List (Str × Int)), w ≤ w' → (d2.map Prod.fst).Nodup → (∀ z, 0 ≤ dm d2 z ∧ dm d2 z ≤ (cntR M z : Int)) → isNon (trP (aftL rs (log.take i)) (maxI ((aftL rs (log.take i)).map Prod.fst)) (gx M 0).1 w' d2) = true := fun i => by
    have h1 : (aftL rs (log.take i)).length = rs.length := aftL_len
    have hk := logOk_take i hwk
    refine ⟨⟨by omega, h1⟩, aftL_rc hk hrc, logOk_b hk hlo, fun w' d2 hw' hn2 hc2 => ?_⟩
    have hd := logOk_mono hw' (logOk_drop i hwk)
    have he := aftL_drop (rs := rs) (ds := log) i
    rw [hMdef] at he
    rw [log_met (by omega) (by omega) hd (by rw [he]; exact hev) hn2 (fun z => (hc2 z).1) (fun z => by rw [he]; exact (hc2 z).2)]
    rfl
  have h0 := hst 0
  have hL := hst log.length
  rw [List.take_length, hMdef] at hL
  have h0 : (0 < rs.length ∧ rs.length = rs.length) ∧ (∀ r ∈ rs, isRec r.2 = true) ∧ (∀ r ∈ rs, b ≤ r.1 ∧ r.1 ≤ b + D) ∧ ∀ (w' : Int) (d2 : List (Str × Int)), w ≤ w' → (d2.map Prod.fst).Nodup → (∀ z, 0 ≤ dm d2 z ∧ dm d2 z ≤ (cntR M z : Int)) → isNon (trP rs (maxI (rs.map Prod.fst)) (gx M 0).1 w' d2) = true := h0
  have hm := hst (d7 % ((stsL rs log).length : Int)).toNat
  rw [← hmid] at hm
  generalize gx (stsL rs log) (d7 % ((stsL rs log).length : Int)) = mid at *
  have hSh : DG (shD M) 16 16 := DG.sh (by omega) hMr
  have hShd : ∀ z, dm (shD M) z = (cntR M z : Int) := fun z => dm_shD'
  have hShp : ∀ z ∈ (shD M).map Prod.fst, 1 ≤ dm (shD M) z := fun z hz => by
    rw [dm_shD']
    have : cntR M z ≠ 0 := fun e => cntR_zero.mp e (shD_mem.mp hz)
    omega
  have heb : b ≤ (gx M 0).1 ∧ (gx M 0).1 ≤ b + D := hMb _ (gx_mem ⟨by omega, by omega⟩)
  generalize (gx M 0).1 = e at *
  have hShT : totI (shD M) = (M.length : Int) := totI_sh
  generalize shD M = sh at *
  have hall : ∀ st ∈ [rs, mid, M], (0 < st.length ∧ st.length = rs.length) ∧ (∀ r ∈ st, isRec r.2 = true) ∧ (∀ r ∈ st, b ≤ r.1 ∧ r.1 ≤ b + D) ∧ ∀ (w' : Int) (d2 : List (Str × Int)), w ≤ w' → (d2.map Prod.fst).Nodup → (∀ z, 0 ≤ dm d2 z ∧ dm d2 z ≤ (cntR M z : Int)) → isNon (trP st (maxI (st.map Prod.fst)) e w' d2) = true := fun st hs => by
    simp only [List.mem_cons, List.not_mem_nil, or_false] at hs
    rcases hs with rfl | rfl | rfl
    · exact h0
    · exact hm
    · exact hL
  clear hst hmid hm hL
  refine ⟨by omega, by omega, ?_⟩
  haveI : ML [rl rs, rl mid, rl M] (List (Int × Str)) rl [rs, mid, M] := ⟨rfl⟩
  refine forKi (l := [rs, mid, M]) [14, 15, 16] (fun _ => True) trivial (fun i st e' hsti hi _ he' => ?_) ⟨_, _, _, rfl⟩ ?_
  · obtain ⟨v14, v15, v16, rfl⟩ := he'
    obtain ⟨⟨s0, s1⟩, s2, s3, s4⟩ := hall st (List.mem_of_getElem? hsti)
    have sb : ∀ r ∈ st, -10000 ≤ r.1 ∧ r.1 ≤ 10000 := fun r hr => by have := s3 r hr; omega
    walk_at "x"
    refine forKr [15, 16] (fun _ => True) trivial (fun j e' hj _ he' => ?_) ⟨_, _, rfl⟩ ?_
    · obtain ⟨v15, v16, rfl⟩ := he'
      walk_at "x"
      refine ⟨by have := hSh.ln; omega, hSh.nd, hSh.sk, fun z hz => by have := hShp z hz; have := hSh.b z; omega, fun d2 l2 n2 k2 b2 => ?_⟩
      exact ⟨hw0, s0, by omega, s2, by omega, by omega, sb, hw.1, by omega, by omega, n2, k2, fun z hz => by have := b2 z; have := hSh.b z; omega, s4 w d2 (Int.le_refl _) n2 fun z => by rw [← hShd]; exact b2 z⟩
    rintro e' _ ⟨v15, v16, rfl⟩
    walk_at "x"
    have hShb : ∀ z ∈ sh.map Prod.fst, 0 ≤ dm sh z ∧ dm sh z ≤ 10000 := fun z _ => by have := hSh.b z; omega
    have hShl := hSh.ln
    have hShc : ∀ z, 0 ≤ dm sh z ∧ dm sh z ≤ (cntR M z : Int) := fun z => by rw [hShd]; omega
    refine ⟨by omega, hSh.nd, hSh.sk, hShb, s4 w sh (Int.le_refl _) hSh.nd hShc, ?_⟩
    split
    · exact ⟨fun h => h.elim, s0, by omega, s2, by omega, by omega, sb, by omega, by omega, by omega, hSh.nd, hSh.sk, hShb, s4 (w + 1) sh (by omega) hSh.nd hShc⟩
    · trivial
  rintro e' _ ⟨v14, v15, v16, rfl⟩
  try walk_at "x"
  have hzn : gx zs (rs.length : Int) ∉ zs.take rs.length := ShtR_none hS.nd (by omega)
  have hzr : isRec (gx zs (rs.length : Int)) = true := hS.zr _ (gx_mem ⟨by omega, by omega⟩)
  have hzM : gx zs (rs.length : Int) ∉ M.map Prod.snd := fun h => by
    obtain ⟨r, hr, e⟩ := List.mem_map.mp h
    rw [← hMdef] at hr
    exact hzn (e ▸ logOk_p (p := fun z => z ∈ zs.take rs.length) hwk hS.rz r hr)
  have hzR : gx zs (rs.length : Int) ∉ rs.map Prod.snd := fun h => by
    obtain ⟨r, hr, e⟩ := List.mem_map.mp h
    exact hzn (e ▸ hS.rz r hr)
  generalize gx zs (rs.length : Int) = sz at *
  obtain ⟨⟨a0, a1⟩, a2, a3, a4⟩ := h0
  have ab : ∀ r ∈ rs, -10000 ≤ r.1 ∧ r.1 ≤ 10000 := fun r hr => by have := a3 r hr; omega
  have szM : dm sh sz = 0 := by rw [hShd, cntR_zero.mpr hzM]; rfl
  have hD1 : DG (dput sh sz 0) 17 16 := hSh.put (rec_sok hzr) ⟨Int.le_refl _, by decide⟩ (by decide)
  have hD1b : ∀ z ∈ (dput sh sz 0).map Prod.fst, 0 ≤ dm (dput sh sz 0) z ∧ dm (dput sh sz 0) z ≤ 10000 := fun z _ => by have := hD1.b z; omega
  have hD1c : ∀ z, 0 ≤ dm (dput sh sz 0) z ∧ dm (dput sh sz 0) z ≤ (cntR M z : Int) := fun z => by
    rw [dm_put]
    split
    · omega
    · rw [hShd]; omega
  have hnil : ∀ z ∈ ([] : List (Str × Int)).map Prod.fst, 0 ≤ dm [] z ∧ dm [] z ≤ 10000 := fun z h => by cases h
  refine ⟨by have := hSh.ln; omega, hw0, a0, by omega, a2, by omega, by omega, ab, hw.1, by omega, by have := hD1.ln; omega, hD1.nd, hD1.sk, hD1b, a4 w _ (Int.le_refl _) hD1.nd hD1c,
    hw0, a0, by omega, a2, by omega, by omega, ab, hw.1, by omega, List.nodup_nil, fun z h => absurd h List.not_mem_nil, hnil, a4 w [] (Int.le_refl _) List.nodup_nil fun z => ⟨Int.le_refl _, Int.natCast_nonneg _⟩, by omega, by omega, by have := hD1.ln; omega, ?_⟩
  have hgd : isRec (gx rs d4).2 = true := a2 _ (gx_mem ⟨by omega, by omega⟩)
  have hT1 : totI (dput sh sz 0) = (rs.length : Int) := by
    rw [totI_put hSh.nd, szM, hShT, hMl]; omega
  rw [show (dget (dput sh sz 0) (gx rs d4).2).getD 0 = dm (dput sh sz 0) (gx rs d4).2 from rfl]
  generalize (gx rs d4).2 = nm at *
  generalize hm1 : dput sh sz 0 = mo at *
  have hD2 : DG (dput mo nm (dm mo nm + 1)) 18 17 := hD1.put (rec_sok hgd) (by have := hD1.b nm; omega) (by decide)
  have hT2 : totI (dput mo nm (dm mo nm + 1)) = (rs.length : Int) + 1 := by
    rw [totI_put hD1.nd, hT1]; omega
  generalize dput mo nm (dm mo nm + 1) = mq at *
  haveI : ED P.int [Sum.inr sz] [P.int 1] [(sz, (1 : Int))] := ⟨rfl, rfl⟩
  refine ⟨hw0, a0, by omega, a2, by omega, by omega, ab, hw.1, by omega, by have := hD2.ln; omega, hD2.nd, hD2.sk, fun z _ => by have := hD2.b z; omega, isNon_f fun h => by have := (trP_imp h).1; omega, ?_⟩
  walk_at "x"
  have hD3 : DG [(sz, (1 : Int))] 1 1 := (DG.nil (m := 0) (b := 0) (Int.le_refl _)).put (z := sz) (a := 1) (c := 1) (rec_sok hzr) ⟨by decide, by decide⟩ (by decide)
  refine ⟨hD3.nd, hD3.sk, fun z _ => by have := hD3.b z; omega, isNon_f fun h => ?_, ?_⟩
  · have h3 := (trP_imp h).2.2 sz List.mem_cons_self
    rw [lvZ_none hzR] at h3
    have h4 : dm [(sz, (1 : Int))] sz = 1 := by
      show dm (dput [] sz 1) sz = 1
      rw [dm_put, if_pos rfl]
    rw [h4, show capSU (([] : List (Int × Str)).map Prod.fst) e 1 w = 0 from rfl] at h3
    exact absurd h3 (by decide)
  refine lcI (l := rs) (f := fun r => r.1) ?_ ?_ ?_
  · omega
  · intro r hr Q hQ
    walk_at "x"
    exact hQ
  have htop := maxI_mem (l := rs.map fun r => r.1) (by rw [List.length_map]; omega)
  have htopb : b ≤ maxI (rs.map fun r => r.1) ∧ maxI (rs.map fun r => r.1) ≤ b + D := by
    obtain ⟨r, hr, e⟩ := List.mem_map.mp htop
    rw [← e]
    exact a3 r hr
  have habove : ∀ l ∈ rs.map Prod.fst, l < maxI (rs.map fun r => r.1) + 1 + d8 := fun l hl => by
    have : l ≤ maxI (rs.map fun r => r.1) := le_maxI hl
    omega
  walk_at "x"
  refine ⟨List.nodup_nil, fun z h => absurd h List.not_mem_nil, hnil, isNon_f fun h => ?_, ?_⟩
  · have h3 := (trP_imp h).2.1
    rw [capSU_lo (by omega) habove] at h3
    omega
  split
  · exact q
  · exact ⟨hw0, a0, by omega, a2, by omega, by omega, fun r hr => by have := a3 r hr; omega, hw.1, by omega, by have := hSh.ln; omega, hSh.nd, hSh.sk, fun z _ => by have := hSh.b z; omega, rec_sok hgd, rec_sok hzr, by omega, by omega, q⟩
end Pf
--@@ROW

namespace Pf
open PySem PySem.Spec PyProof.Rows L2
def topS (i : Nat) : Stmt := PySem.Challenge.pw_wornsheaf_k56_whole_shares_met_again.main.body.getD i (.Pass ⟨0, 0, 0, 0⟩)
abbrev s__power : Stmt := topS 3
theorem sc__power : FnScope ["base", "exponent", "power", "square", "rest"] ["base", "exponent"] (defScope s__power) := ⟨rfl, rfl, rfl, by decide +kernel, rfl, by decide +kernel, by decide +kernel⟩
abbrev s_valid_record : Stmt := topS 40
theorem sc_valid_record : FnScope ["text"] ["text"] (defScope s_valid_record) := ⟨rfl, rfl, rfl, by decide +kernel, rfl, by decide +kernel, by decide +kernel⟩
abbrev s__law_cell : Stmt := topS 43
theorem sc__law_cell : FnScope ["script", "k"] ["script", "k"] (defScope s__law_cell) := ⟨rfl, rfl, rfl, by decide +kernel, rfl, by decide +kernel, by decide +kernel⟩
abbrev s__law_draws : Stmt := topS 44
theorem sc__law_draws : FnScope ["cell", "sizes", "drawn", "left", "packed", "k", "mixed"] ["cell", "sizes"] (defScope s__law_draws) := ⟨rfl, rfl, rfl, by decide +kernel, rfl, by decide +kernel, by decide +kernel⟩
abbrev s__law_width : Stmt := topS 48
theorem sc__law_width : FnScope ["drawn"] ["drawn"] (defScope s__law_width) := ⟨rfl, rfl, rfl, by decide +kernel, rfl, by decide +kernel, by decide +kernel⟩
abbrev s__law_moved : Stmt := topS 49
theorem sc__law_moved : FnScope ["rows", "source", "targets", "after", "k"] ["rows", "source", "targets"] (defScope s__law_moved) := ⟨rfl, rfl, rfl, by decide +kernel, rfl, by decide +kernel, by decide +kernel⟩
abbrev s__law_single : Stmt := topS 52
theorem sc__law_single : FnScope ["error", "kinds", "kind"] ["error"] (defScope s__law_single) := ⟨rfl, rfl, rfl, by decide +kernel, rfl, by decide +kernel, by decide +kernel⟩
abbrev s__law_shares : Stmt := topS 54
theorem sc__law_shares : FnScope ["rows", "shares", "row"] ["rows"] (defScope s__law_shares) := ⟨rfl, rfl, rfl, by decide +kernel, rfl, by decide +kernel, by decide +kernel⟩
abbrev s_InvalidSheaf___init__ : Stmt := inClass (topS 6) 0
theorem sc_InvalidSheaf___init__ : FnScope ["self", "index"] ["self", "index"] (defScope s_InvalidSheaf___init__) := ⟨rfl, rfl, rfl, by decide +kernel, rfl, by decide +kernel, by decide +kernel⟩
abbrev s_InvalidDemands___init__ : Stmt := inClass (topS 11) 0
theorem sc_InvalidDemands___init__ : FnScope ["self", "record"] ["self", "record"] (defScope s_InvalidDemands___init__) := ⟨rfl, rfl, rfl, by decide +kernel, rfl, by decide +kernel, by decide +kernel⟩
abbrev s_Sheaf___len__ : Stmt := inClass (topS 41) 1
theorem sc_Sheaf___len__ : FnScope ["self"] ["self"] (defScope s_Sheaf___len__) := ⟨rfl, rfl, rfl, by decide +kernel, rfl, by decide +kernel, by decide +kernel⟩
abbrev s_Sheaf___iter__ : Stmt := inClass (topS 41) 2
theorem sc_Sheaf___iter__ : FnScope ["self"] ["self"] (defScope s_Sheaf___iter__) := ⟨rfl, rfl, rfl, by decide +kernel, rfl, by decide +kernel, by decide +kernel⟩
abbrev s_Sheaf___eq__ : Stmt := inClass (topS 41) 3
theorem sc_Sheaf___eq__ : FnScope ["self", "other"] ["self", "other"] (defScope s_Sheaf___eq__) := ⟨rfl, rfl, rfl, by decide +kernel, rfl, by decide +kernel, by decide +kernel⟩
abbrev s_Sheaf_top : Stmt := inClass (topS 41) 5
theorem sc_Sheaf_top : FnScope ["self"] ["self"] (defScope s_Sheaf_top) := ⟨rfl, rfl, rfl, by decide +kernel, rfl, by decide +kernel, by decide +kernel⟩
abbrev s_Sheaf_rows : Stmt := inClass (topS 41) 7
theorem sc_Sheaf_rows : FnScope ["self"] ["self"] (defScope s_Sheaf_rows) := ⟨rfl, rfl, rfl, by decide +kernel, rfl, by decide +kernel, by decide +kernel⟩
abbrev s_Sheaf_sharpness_of : Stmt := inClass (topS 41) 8
theorem sc_Sheaf_sharpness_of : FnScope ["self", "index"] ["self", "index"] (defScope s_Sheaf_sharpness_of) := ⟨rfl, rfl, rfl, by decide +kernel, rfl, by decide +kernel, by decide +kernel⟩
abbrev s_Sheaf_sheets_of : Stmt := inClass (topS 41) 13
theorem sc_Sheaf_sheets_of : FnScope ["self", "record", "index", "row"] ["self", "record"] (defScope s_Sheaf_sheets_of) := ⟨rfl, rfl, rfl, by decide +kernel, rfl, by decide +kernel, by decide +kernel⟩
abbrev s_cap : Stmt := topS 2
theorem sc_cap : FnScope ["sharpness", "end", "breadth"] ["sharpness", "end", "breadth"] (defScope s_cap) := ⟨rfl, rfl, rfl, by decide +kernel, rfl, by decide +kernel, by decide +kernel⟩
abbrev s_falling_sheets : Stmt := topS 28
theorem sc_falling_sheets : FnScope ["sheaf", "record", "marks", "index", "_"] ["sheaf", "record"] (defScope s_falling_sheets) := ⟨rfl, rfl, rfl, by decide +kernel, rfl, by decide +kernel, by decide +kernel⟩
abbrev s__law_given : Stmt := topS 45
theorem sc__law_given : FnScope ["script", "k"] ["script", "k"] (defScope s__law_given) := ⟨rfl, rfl, rfl, by decide +kernel, rfl, by decide +kernel, by decide +kernel⟩
abbrev s__law_names : Stmt := topS 46
theorem sc__law_names : FnScope ["cell", "count", "letters", "drawn", "names", "k", "code", "place", "own", "front", "telling"] ["cell", "count"] (defScope s__law_names) := ⟨rfl, rfl, rfl, by decide +kernel, rfl, by decide +kernel, by decide +kernel⟩
abbrev s__law_wild_log : Stmt := topS 50
theorem sc__law_wild_log : FnScope ["rows", "cells", "width", "most", "log", "cell", "drawn", "sources", "source", "under", "picked", "k", "row"] ["rows", "cells", "width", "most"] (defScope s__law_wild_log) := ⟨rfl, rfl, rfl, by decide +kernel, rfl, by decide +kernel, by decide +kernel⟩
abbrev s__law_finished : Stmt := topS 51
theorem sc__law_finished : FnScope ["rows", "log", "pick", "done", "k", "top", "under", "source", "target", "row", "j"] ["rows", "log", "pick"] (defScope s__law_finished) := ⟨rfl, rfl, rfl, by decide +kernel, rfl, by decide +kernel, by decide +kernel⟩
abbrev s__law_walk : Stmt := topS 53
theorem sc__law_walk : FnScope ["rows", "log", "states", "deed"] ["rows", "log"] (defScope s__law_walk) := ⟨rfl, rfl, rfl, by decide +kernel, rfl, by decide +kernel, by decide +kernel⟩
abbrev s__law_lessened : Stmt := topS 55
theorem sc__law_lessened : FnScope ["shares", "cell", "names", "drawn", "lessened", "k"] ["shares", "cell"] (defScope s__law_lessened) := ⟨rfl, rfl, rfl, by decide +kernel, rfl, by decide +kernel, by decide +kernel⟩
abbrev s_check_demands : Stmt := topS 27
theorem sc_check_demands : FnScope ["demands", "record"] ["demands"] (defScope s_check_demands) := ⟨rfl, rfl, rfl, by decide +kernel, rfl, by decide +kernel, by decide +kernel⟩
abbrev s__cap_up_to : Stmt := topS 31
theorem sc__cap_up_to : FnScope ["sharpness", "end", "most", "breadth"] ["sharpness", "end", "most", "breadth"] (defScope s__cap_up_to) := ⟨rfl, rfl, rfl, by decide +kernel, rfl, by decide +kernel, by decide +kernel⟩
abbrev s__law_sheets : Stmt := topS 47
theorem sc__law_sheets : FnScope ["script", "small", "wide", "large", "more", "tall", "hand", "kind", "drawn", "count", "spread", "shape", "cells", "levels", "base", "names", "picks", "pool", "k"] ["script", "small", "wide", "large", "more", "tall", "hand", "kind"] (defScope s__law_sheets) := ⟨rfl, rfl, rfl, by decide +kernel, rfl, by decide +kernel, by decide +kernel⟩
abbrev s_Sheaf___init__ : Stmt := inClass (topS 41) 0
theorem sc_Sheaf___init__ : FnScope ["self", "rows", "index", "row"] ["self", "rows"] (defScope s_Sheaf___init__) := ⟨rfl, rfl, rfl, by decide +kernel, rfl, by decide +kernel, by decide +kernel⟩
abbrev s__taken : Stmt := topS 30
theorem sc__taken : FnScope ["sheaf", "end", "record", "demand", "breadth", "taken", "gathered", "index", "found"] ["sheaf", "end", "record", "demand", "breadth"] (defScope s__taken) := ⟨rfl, rfl, rfl, by decide +kernel, rfl, by decide +kernel, by decide +kernel⟩
abbrev s__reach_up_to : Stmt := topS 32
theorem sc__reach_up_to : FnScope ["rows", "end", "most", "breadth", "row"] ["rows", "end", "most", "breadth"] (defScope s__reach_up_to) := ⟨rfl, rfl, rfl, by decide +kernel, rfl, by decide +kernel, by decide +kernel⟩
abbrev s_spare_sharpnesses : Stmt := topS 33
theorem sc_spare_sharpnesses : FnScope ["sheaf", "aside", "index", "row"] ["sheaf", "aside"] (defScope s_spare_sharpnesses) := ⟨rfl, rfl, rfl, by decide +kernel, rfl, by decide +kernel, by decide +kernel⟩
abbrev s_set_aside : Stmt := topS 29
theorem sc_set_aside : FnScope ["sheaf", "end", "demands", "breadth", "aside", "record"] ["sheaf", "end", "demands", "breadth"] (defScope s_set_aside) := ⟨rfl, rfl, rfl, by decide +kernel, rfl, by decide +kernel, by decide +kernel⟩
abbrev s__height_trouble : Stmt := topS 35
theorem sc__height_trouble : FnScope ["sheaf", "end", "aside", "spare", "height", "amount", "each"] ["sheaf", "end", "aside"] (defScope s__height_trouble) := ⟨rfl, rfl, rfl, by decide +kernel, rfl, by decide +kernel, by decide +kernel⟩
abbrev s_trouble : Stmt := topS 34
theorem sc_trouble : FnScope ["sheaf", "end", "demands", "breadth", "total", "reached", "record", "borne", "amount", "row"] ["sheaf", "end", "demands", "breadth"] (defScope s_trouble) := ⟨rfl, rfl, rfl, by decide +kernel, rfl, by decide +kernel, by decide +kernel⟩
abbrev s_can_meet : Stmt := topS 36
theorem sc_can_meet : FnScope ["sheaf", "end", "demands", "breadth"] ["sheaf", "end", "demands", "breadth"] (defScope s_can_meet) := ⟨rfl, rfl, rfl, by decide +kernel, rfl, by decide +kernel, by decide +kernel⟩
abbrev s__law_asked : Stmt := topS 56
theorem sc__law_asked : FnScope ["sheaf", "end", "demands", "width", "plain", "e"] ["sheaf", "end", "demands", "width", "plain"] (defScope s__law_asked) := ⟨rfl, rfl, rfl, by decide +kernel, rfl, by decide +kernel, by decide +kernel⟩
abbrev s__law_met : Stmt := topS 57
theorem sc__law_met : FnScope ["rows", "end", "demands", "width", "plain", "due", "sheaf", "handed", "told"] ["rows", "end", "demands", "width", "plain", "due"] (defScope s__law_met) := ⟨rfl, rfl, rfl, by decide +kernel, rfl, by decide +kernel, by decide +kernel⟩
abbrev s__law_refused : Stmt := topS 58
theorem sc__law_refused : FnScope ["rows", "end", "demands", "name", "strange", "less", "width", "plain", "bad", "least", "handed", "one"] ["rows", "end", "demands", "name", "strange", "less", "width", "plain"] (defScope s__law_refused) := ⟨rfl, rfl, rfl, by decide +kernel, rfl, by decide +kernel, by decide +kernel⟩
abbrev s_law : Stmt := topS 59
theorem sc_law : FnScope ["script", "built", "rows", "count", "strange", "drawn", "plain", "width", "log", "left", "states", "end", "shares", "middle", "state", "k", "lessened", "more", "name", "above", "row"] ["script"] (defScope s_law) := ⟨rfl, rfl, rfl, by decide +kernel, rfl, by decide +kernel, by decide +kernel⟩
--@@ENV
set_option genInjectivity false in
structure Env (K : PySem.W.Frag) (mg : Str → Option Value) where
  C_WornError : Addr
  C_InvalidSheaf : Addr
  C_InvalidDeed : Addr
  C_InvalidEntry : Addr
  C_InvalidText : Addr
  C_InvalidBox : Addr
  C_InvalidDemands : Addr
  C_UnknownRecord : Addr
  C_Impossible : Addr
  C_RepeatedRecord : Addr
  C_NoOutcome : Addr
  C_ContradictoryLog : Addr
  C_InvalidRound : Addr
  C_WrongMove : Addr
  C_InvalidName : Addr
  C_UsedName : Addr
  C_UnknownName : Addr
  C_NothingToUndo : Addr
  C_NothingToRedo : Addr
  C_Spoiled : Addr
  C_InvalidPage : Addr
  C_Sheaf : Addr
  f__power : Addr
  d__power : FuncData
  F__power : Fun K "_power" "_power" s__power f__power d__power
  b__power : Binds K d__power ["base", "exponent"] []
  g__power : mg "_power" = some (.ref f__power)
  f_valid_record : Addr
  d_valid_record : FuncData
  F_valid_record : Fun K "valid_record" "valid_record" s_valid_record f_valid_record d_valid_record
  b_valid_record : Binds K d_valid_record ["text"] []
  g_valid_record : mg "valid_record" = some (.ref f_valid_record)
  f__law_cell : Addr
  d__law_cell : FuncData
  F__law_cell : Fun K "_law_cell" "_law_cell" s__law_cell f__law_cell d__law_cell
  b__law_cell : Binds K d__law_cell ["script", "k"] []
  g__law_cell : mg "_law_cell" = some (.ref f__law_cell)
  f__law_draws : Addr
  d__law_draws : FuncData
  F__law_draws : Fun K "_law_draws" "_law_draws" s__law_draws f__law_draws d__law_draws
  b__law_draws : Binds K d__law_draws ["cell", "sizes"] []
  g__law_draws : mg "_law_draws" = some (.ref f__law_draws)
  f__law_width : Addr
  d__law_width : FuncData
  F__law_width : Fun K "_law_width" "_law_width" s__law_width f__law_width d__law_width
  b__law_width : Binds K d__law_width ["drawn"] []
  g__law_width : mg "_law_width" = some (.ref f__law_width)
  f__law_moved : Addr
  d__law_moved : FuncData
  F__law_moved : Fun K "_law_moved" "_law_moved" s__law_moved f__law_moved d__law_moved
  b__law_moved : Binds K d__law_moved ["rows", "source", "targets"] []
  g__law_moved : mg "_law_moved" = some (.ref f__law_moved)
  f__law_single : Addr
  d__law_single : FuncData
  F__law_single : Fun K "_law_single" "_law_single" s__law_single f__law_single d__law_single
  b__law_single : Binds K d__law_single ["error"] []
  g__law_single : mg "_law_single" = some (.ref f__law_single)
  f__law_shares : Addr
  d__law_shares : FuncData
  F__law_shares : Fun K "_law_shares" "_law_shares" s__law_shares f__law_shares d__law_shares
  b__law_shares : Binds K d__law_shares ["rows"] []
  g__law_shares : mg "_law_shares" = some (.ref f__law_shares)
  f_InvalidSheaf___init__ : Addr
  d_InvalidSheaf___init__ : FuncData
  F_InvalidSheaf___init__ : Fun K "__init__" "InvalidSheaf.__init__" s_InvalidSheaf___init__ f_InvalidSheaf___init__ d_InvalidSheaf___init__
  b_InvalidSheaf___init__ : Binds K d_InvalidSheaf___init__ ["self", "index"] []
  f_InvalidDemands___init__ : Addr
  d_InvalidDemands___init__ : FuncData
  F_InvalidDemands___init__ : Fun K "__init__" "InvalidDemands.__init__" s_InvalidDemands___init__ f_InvalidDemands___init__ d_InvalidDemands___init__
  b_InvalidDemands___init__ : Binds K d_InvalidDemands___init__ ["self", "record"] []
  f_Sheaf___len__ : Addr
  d_Sheaf___len__ : FuncData
  F_Sheaf___len__ : Fun K "__len__" "Sheaf.__len__" s_Sheaf___len__ f_Sheaf___len__ d_Sheaf___len__
  b_Sheaf___len__ : Binds K d_Sheaf___len__ ["self"] []
  f_Sheaf___iter__ : Addr
  d_Sheaf___iter__ : FuncData
  F_Sheaf___iter__ : Fun K "__iter__" "Sheaf.__iter__" s_Sheaf___iter__ f_Sheaf___iter__ d_Sheaf___iter__
  b_Sheaf___iter__ : Binds K d_Sheaf___iter__ ["self"] []
  f_Sheaf___eq__ : Addr
  d_Sheaf___eq__ : FuncData
  F_Sheaf___eq__ : Fun K "__eq__" "Sheaf.__eq__" s_Sheaf___eq__ f_Sheaf___eq__ d_Sheaf___eq__
  b_Sheaf___eq__ : Binds K d_Sheaf___eq__ ["self", "other"] []
  f_Sheaf_top : Addr
  d_Sheaf_top : FuncData
  F_Sheaf_top : Fun K "top" "Sheaf.top" s_Sheaf_top f_Sheaf_top d_Sheaf_top
  b_Sheaf_top : Binds K d_Sheaf_top ["self"] []
  f_Sheaf_rows : Addr
  d_Sheaf_rows : FuncData
  F_Sheaf_rows : Fun K "rows" "Sheaf.rows" s_Sheaf_rows f_Sheaf_rows d_Sheaf_rows
  b_Sheaf_rows : Binds K d_Sheaf_rows ["self"] []
  f_Sheaf_sharpness_of : Addr
  d_Sheaf_sharpness_of : FuncData
  F_Sheaf_sharpness_of : Fun K "sharpness_of" "Sheaf.sharpness_of" s_Sheaf_sharpness_of f_Sheaf_sharpness_of d_Sheaf_sharpness_of
  b_Sheaf_sharpness_of : Binds K d_Sheaf_sharpness_of ["self", "index"] []
  f_Sheaf_sheets_of : Addr
  d_Sheaf_sheets_of : FuncData
  F_Sheaf_sheets_of : Fun K "sheets_of" "Sheaf.sheets_of" s_Sheaf_sheets_of f_Sheaf_sheets_of d_Sheaf_sheets_of
  b_Sheaf_sheets_of : Binds K d_Sheaf_sheets_of ["self", "record"] []
  f_cap : Addr
  d_cap : FuncData
  F_cap : Fun K "cap" "cap" s_cap f_cap d_cap
  kb_cap : KBn K d_cap ["sharpness", "end", "breadth"] 2 ["breadth"] (fun us ws => us ++ ws) (fun vs zs => vs ++ zs)
  bd_cap : ∃ ds, Vals [V.int 1] ds ∧ Binds K d_cap ["sharpness", "end", "breadth"] ds
  g_cap : mg "cap" = some (.ref f_cap)
  f_falling_sheets : Addr
  d_falling_sheets : FuncData
  F_falling_sheets : Fun K "falling_sheets" "falling_sheets" s_falling_sheets f_falling_sheets d_falling_sheets
  b_falling_sheets : Binds K d_falling_sheets ["sheaf", "record"] []
  g_falling_sheets : mg "falling_sheets" = some (.ref f_falling_sheets)
  f__law_given : Addr
  d__law_given : FuncData
  F__law_given : Fun K "_law_given" "_law_given" s__law_given f__law_given d__law_given
  b__law_given : Binds K d__law_given ["script", "k"] []
  g__law_given : mg "_law_given" = some (.ref f__law_given)
  f__law_names : Addr
  d__law_names : FuncData
  F__law_names : Fun K "_law_names" "_law_names" s__law_names f__law_names d__law_names
  b__law_names : Binds K d__law_names ["cell", "count"] []
  g__law_names : mg "_law_names" = some (.ref f__law_names)
  f__law_wild_log : Addr
  d__law_wild_log : FuncData
  F__law_wild_log : Fun K "_law_wild_log" "_law_wild_log" s__law_wild_log f__law_wild_log d__law_wild_log
  b__law_wild_log : Binds K d__law_wild_log ["rows", "cells", "width", "most"] []
  g__law_wild_log : mg "_law_wild_log" = some (.ref f__law_wild_log)
  f__law_finished : Addr
  d__law_finished : FuncData
  F__law_finished : Fun K "_law_finished" "_law_finished" s__law_finished f__law_finished d__law_finished
  b__law_finished : Binds K d__law_finished ["rows", "log", "pick"] []
  g__law_finished : mg "_law_finished" = some (.ref f__law_finished)
  f__law_walk : Addr
  d__law_walk : FuncData
  F__law_walk : Fun K "_law_walk" "_law_walk" s__law_walk f__law_walk d__law_walk
  b__law_walk : Binds K d__law_walk ["rows", "log"] []
  g__law_walk : mg "_law_walk" = some (.ref f__law_walk)
  f__law_lessened : Addr
  d__law_lessened : FuncData
  F__law_lessened : Fun K "_law_lessened" "_law_lessened" s__law_lessened f__law_lessened d__law_lessened
  b__law_lessened : Binds K d__law_lessened ["shares", "cell"] []
  g__law_lessened : mg "_law_lessened" = some (.ref f__law_lessened)
  f_check_demands : Addr
  d_check_demands : FuncData
  F_check_demands : Fun K "check_demands" "check_demands" s_check_demands f_check_demands d_check_demands
  b_check_demands : Binds K d_check_demands ["demands"] []
  g_check_demands : mg "check_demands" = some (.ref f_check_demands)
  f__cap_up_to : Addr
  d__cap_up_to : FuncData
  F__cap_up_to : Fun K "_cap_up_to" "_cap_up_to" s__cap_up_to f__cap_up_to d__cap_up_to
  b__cap_up_to : Binds K d__cap_up_to ["sharpness", "end", "most", "breadth"] []
  g__cap_up_to : mg "_cap_up_to" = some (.ref f__cap_up_to)
  f__law_sheets : Addr
  d__law_sheets : FuncData
  F__law_sheets : Fun K "_law_sheets" "_law_sheets" s__law_sheets f__law_sheets d__law_sheets
  b__law_sheets : Binds K d__law_sheets ["script", "small", "wide", "large", "more", "tall", "hand", "kind"] []
  g__law_sheets : mg "_law_sheets" = some (.ref f__law_sheets)
  f_Sheaf___init__ : Addr
  d_Sheaf___init__ : FuncData
  F_Sheaf___init__ : Fun K "__init__" "Sheaf.__init__" s_Sheaf___init__ f_Sheaf___init__ d_Sheaf___init__
  b_Sheaf___init__ : Binds K d_Sheaf___init__ ["self", "rows"] []
  f__taken : Addr
  d__taken : FuncData
  F__taken : Fun K "_taken" "_taken" s__taken f__taken d__taken
  b__taken : Binds K d__taken ["sheaf", "end", "record", "demand", "breadth"] []
  g__taken : mg "_taken" = some (.ref f__taken)
  f__reach_up_to : Addr
  d__reach_up_to : FuncData
  F__reach_up_to : Fun K "_reach_up_to" "_reach_up_to" s__reach_up_to f__reach_up_to d__reach_up_to
  b__reach_up_to : Binds K d__reach_up_to ["rows", "end", "most", "breadth"] []
  g__reach_up_to : mg "_reach_up_to" = some (.ref f__reach_up_to)
  f_spare_sharpnesses : Addr
  d_spare_sharpnesses : FuncData
  F_spare_sharpnesses : Fun K "spare_sharpnesses" "spare_sharpnesses" s_spare_sharpnesses f_spare_sharpnesses d_spare_sharpnesses
  b_spare_sharpnesses : Binds K d_spare_sharpnesses ["sheaf", "aside"] []
  g_spare_sharpnesses : mg "spare_sharpnesses" = some (.ref f_spare_sharpnesses)
  f_set_aside : Addr
  d_set_aside : FuncData
  F_set_aside : Fun K "set_aside" "set_aside" s_set_aside f_set_aside d_set_aside
  kb_set_aside : KBn K d_set_aside ["sheaf", "end", "demands", "breadth"] 3 ["breadth"] (fun us ws => us ++ ws) (fun vs zs => vs ++ zs)
  bd_set_aside : ∃ ds, Vals [V.int 1] ds ∧ Binds K d_set_aside ["sheaf", "end", "demands", "breadth"] ds
  g_set_aside : mg "set_aside" = some (.ref f_set_aside)
  f__height_trouble : Addr
  d__height_trouble : FuncData
  F__height_trouble : Fun K "_height_trouble" "_height_trouble" s__height_trouble f__height_trouble d__height_trouble
  b__height_trouble : Binds K d__height_trouble ["sheaf", "end", "aside"] []
  g__height_trouble : mg "_height_trouble" = some (.ref f__height_trouble)
  f_trouble : Addr
  d_trouble : FuncData
  F_trouble : Fun K "trouble" "trouble" s_trouble f_trouble d_trouble
  kb_trouble : KBn K d_trouble ["sheaf", "end", "demands", "breadth"] 3 ["breadth"] (fun us ws => us ++ ws) (fun vs zs => vs ++ zs)
  bd_trouble : ∃ ds, Vals [V.int 1] ds ∧ Binds K d_trouble ["sheaf", "end", "demands", "breadth"] ds
  g_trouble : mg "trouble" = some (.ref f_trouble)
  f_can_meet : Addr
  d_can_meet : FuncData
  F_can_meet : Fun K "can_meet" "can_meet" s_can_meet f_can_meet d_can_meet
  kb_can_meet : KBn K d_can_meet ["sheaf", "end", "demands", "breadth"] 3 ["breadth"] (fun us ws => us ++ ws) (fun vs zs => vs ++ zs)
  bd_can_meet : ∃ ds, Vals [V.int 1] ds ∧ Binds K d_can_meet ["sheaf", "end", "demands", "breadth"] ds
  g_can_meet : mg "can_meet" = some (.ref f_can_meet)
  f__law_asked : Addr
  d__law_asked : FuncData
  F__law_asked : Fun K "_law_asked" "_law_asked" s__law_asked f__law_asked d__law_asked
  b__law_asked : Binds K d__law_asked ["sheaf", "end", "demands", "width", "plain"] []
  g__law_asked : mg "_law_asked" = some (.ref f__law_asked)
  f__law_met : Addr
  d__law_met : FuncData
  F__law_met : Fun K "_law_met" "_law_met" s__law_met f__law_met d__law_met
  b__law_met : Binds K d__law_met ["rows", "end", "demands", "width", "plain", "due"] []
  g__law_met : mg "_law_met" = some (.ref f__law_met)
  f__law_refused : Addr
  d__law_refused : FuncData
  F__law_refused : Fun K "_law_refused" "_law_refused" s__law_refused f__law_refused d__law_refused
  b__law_refused : Binds K d__law_refused ["rows", "end", "demands", "name", "strange", "less", "width", "plain"] []
  g__law_refused : mg "_law_refused" = some (.ref f__law_refused)
  f_law : Addr
  d_law : FuncData
  F_law : Fun K "law" "law" s_law f_law d_law
  b_law : Binds K d_law ["script"] []
  g_law : mg "law" = some (.ref f_law)
  t__RECORD_SIGNS : Tok
  g__RECORD_SIGNS : mg "_RECORD_SIGNS" = some (.str "abcdefghijklmnopqrstuvwxyz0123456789" t__RECORD_SIGNS)
  t__LONGEST_RECORD : Tok
  g__LONGEST_RECORD : mg "_LONGEST_RECORD" = some (.int 8 t__LONGEST_RECORD)
  n_len : mg "len" = none
  n_int : mg "int" = none
  n_range : mg "range" = none
  n_list : mg "list" = none
  n_isinstance : mg "isinstance" = none
  n_ValueError : mg "ValueError" = none
  n_iter : mg "iter" = none
  n_enumerate : mg "enumerate" = none
  n_sorted : mg "sorted" = none
  n_tuple : mg "tuple" = none
  n_max : mg "max" = none
  n_min : mg "min" = none
  n_sum : mg "sum" = none
  n_str : mg "str" = none
  n_dict : mg "dict" = none
  n_bool : mg "bool" = none
  ox_InvalidDemands : OexC K C_InvalidDemands
  xf_InvalidDemands : XfC K C_InvalidDemands
  ox_InvalidSheaf : OexC K C_InvalidSheaf
  xf_InvalidSheaf : XfC K C_InvalidSheaf
  ec_InvalidDemands : ExcC K C_InvalidDemands
  po_Sheaf_top : Addr
  ins_Sheaf : InsC K C_Sheaf
  g_InvalidDemands : mg "InvalidDemands" = some (.ref C_InvalidDemands)
  na_InvalidDemands_record : PySem.W.findIn K (.ref C_InvalidDemands) "record" = some none
  g_InvalidEntry : mg "InvalidEntry" = some (.ref C_InvalidEntry)
  kit_InvalidDemands_InvalidEntry : PySem.W.kitOne K (.ref C_InvalidDemands) (.ref C_InvalidEntry) = some false
  g_InvalidDeed : mg "InvalidDeed" = some (.ref C_InvalidDeed)
  kit_InvalidDemands_InvalidDeed : PySem.W.kitOne K (.ref C_InvalidDemands) (.ref C_InvalidDeed) = some false
  g_InvalidSheaf : mg "InvalidSheaf" = some (.ref C_InvalidSheaf)
  kit_InvalidDemands_InvalidSheaf : PySem.W.kitOne K (.ref C_InvalidDemands) (.ref C_InvalidSheaf) = some false
  g_NoOutcome : mg "NoOutcome" = some (.ref C_NoOutcome)
  kit_InvalidDemands_NoOutcome : PySem.W.kitOne K (.ref C_InvalidDemands) (.ref C_NoOutcome) = some false
  g_InvalidBox : mg "InvalidBox" = some (.ref C_InvalidBox)
  kit_InvalidDemands_InvalidBox : PySem.W.kitOne K (.ref C_InvalidDemands) (.ref C_InvalidBox) = some false
  g_InvalidText : mg "InvalidText" = some (.ref C_InvalidText)
  kit_InvalidDemands_InvalidText : PySem.W.kitOne K (.ref C_InvalidDemands) (.ref C_InvalidText) = some false
  g_Spoiled : mg "Spoiled" = some (.ref C_Spoiled)
  kit_InvalidDemands_Spoiled : PySem.W.kitOne K (.ref C_InvalidDemands) (.ref C_Spoiled) = some false
  g_UnknownRecord : mg "UnknownRecord" = some (.ref C_UnknownRecord)
  kit_InvalidDemands_UnknownRecord : PySem.W.kitOne K (.ref C_InvalidDemands) (.ref C_UnknownRecord) = some false
  kit_InvalidDemands_InvalidDemands : PySem.W.kitOne K (.ref C_InvalidDemands) (.ref C_InvalidDemands) = some true
  g_WrongMove : mg "WrongMove" = some (.ref C_WrongMove)
  kit_InvalidDemands_WrongMove : PySem.W.kitOne K (.ref C_InvalidDemands) (.ref C_WrongMove) = some false
  g_RepeatedRecord : mg "RepeatedRecord" = some (.ref C_RepeatedRecord)
  kit_InvalidDemands_RepeatedRecord : PySem.W.kitOne K (.ref C_InvalidDemands) (.ref C_RepeatedRecord) = some false
  g_Impossible : mg "Impossible" = some (.ref C_Impossible)
  kit_InvalidDemands_Impossible : PySem.W.kitOne K (.ref C_InvalidDemands) (.ref C_Impossible) = some false
  g_UsedName : mg "UsedName" = some (.ref C_UsedName)
  kit_InvalidDemands_UsedName : PySem.W.kitOne K (.ref C_InvalidDemands) (.ref C_UsedName) = some false
  g_InvalidRound : mg "InvalidRound" = some (.ref C_InvalidRound)
  kit_InvalidDemands_InvalidRound : PySem.W.kitOne K (.ref C_InvalidDemands) (.ref C_InvalidRound) = some false
  g_ContradictoryLog : mg "ContradictoryLog" = some (.ref C_ContradictoryLog)
  kit_InvalidDemands_ContradictoryLog : PySem.W.kitOne K (.ref C_InvalidDemands) (.ref C_ContradictoryLog) = some false
  g_InvalidPage : mg "InvalidPage" = some (.ref C_InvalidPage)
  kit_InvalidDemands_InvalidPage : PySem.W.kitOne K (.ref C_InvalidDemands) (.ref C_InvalidPage) = some false
  g_UnknownName : mg "UnknownName" = some (.ref C_UnknownName)
  kit_InvalidDemands_UnknownName : PySem.W.kitOne K (.ref C_InvalidDemands) (.ref C_UnknownName) = some false
  g_InvalidName : mg "InvalidName" = some (.ref C_InvalidName)
  kit_InvalidDemands_InvalidName : PySem.W.kitOne K (.ref C_InvalidDemands) (.ref C_InvalidName) = some false
  g_NothingToRedo : mg "NothingToRedo" = some (.ref C_NothingToRedo)
  kit_InvalidDemands_NothingToRedo : PySem.W.kitOne K (.ref C_InvalidDemands) (.ref C_NothingToRedo) = some false
  g_NothingToUndo : mg "NothingToUndo" = some (.ref C_NothingToUndo)
  kit_InvalidDemands_NothingToUndo : PySem.W.kitOne K (.ref C_InvalidDemands) (.ref C_NothingToUndo) = some false
  kit_InvalidDemands_ValueError : PySem.W.kitOne K (.ref C_InvalidDemands) (.type "ValueError") = some true
  g_WornError : mg "WornError" = some (.ref C_WornError)
  kit_InvalidDemands_WornError : PySem.W.kitOne K (.ref C_InvalidDemands) (.ref C_WornError) = some true
  g_Sheaf : mg "Sheaf" = some (.ref C_Sheaf)
  pg_Sheaf : PySem.W.plainGet K C_Sheaf Str.empty = true
  hd_Sheaf : PySem.W.hasDictIn K C_Sheaf = true
  po_Sheaf : PySem.W.plainOver K C_Sheaf = true
  sa_Sheaf : PySem.W.findIn K (.ref C_Sheaf) "__setattr__" = some (some (.builtin "object.__setattr__"))
  na_Sheaf__rows : NoAttr K C_Sheaf "_rows"
  na_Sheaf__top : NoAttr K C_Sheaf "_top"
  na_Sheaf__bottom : NoAttr K C_Sheaf "_bottom"
  me_Sheaf_sheets_of : Meth K C_Sheaf "sheets_of" f_Sheaf_sheets_of
  me_Sheaf_sharpness_of : Meth K C_Sheaf "sharpness_of" f_Sheaf_sharpness_of
  iC_InvalidDemands : PySem.W.findIn K (.ref C_InvalidDemands) "__init__" = some (some (.ref f_InvalidDemands___init__))
  tI_InvalidDemands : PySem.W.typeIn K (.ref f_InvalidDemands___init__) = some (.type "function")
  na_InvalidSheaf_index : PySem.W.findIn K (.ref C_InvalidSheaf) "index" = some none
  iC_InvalidSheaf : PySem.W.findIn K (.ref C_InvalidSheaf) "__init__" = some (some (.ref f_InvalidSheaf___init__))
  tI_InvalidSheaf : PySem.W.typeIn K (.ref f_InvalidSheaf___init__) = some (.type "function")
  at_Sheaf___iter__ : PySem.W.findIn K (.ref C_Sheaf) "__iter__" = some (some (.ref f_Sheaf___iter__))
  fn_Sheaf___iter__ : PySem.W.isFn K (.ref f_Sheaf___iter__) = true
  pr_Sheaf_top : PropOf K C_Sheaf "top" po_Sheaf_top f_Sheaf_top
  at_Sheaf___len__ : PySem.W.findIn K (.ref C_Sheaf) "__len__" = some (some (.ref f_Sheaf___len__))
  fn_Sheaf___len__ : PySem.W.isFn K (.ref f_Sheaf___len__) = true
  me_Sheaf_rows : Meth K C_Sheaf "rows" f_Sheaf_rows
  te_InvalidDemands_InvalidDemands : PySem.W.exmOne K (.ref C_InvalidDemands) (.ref C_InvalidDemands) = some true
  mk_Sheaf : Mk K C_Sheaf f_Sheaf___init__
  at_Sheaf___eq__ : PySem.W.findIn K (.ref C_Sheaf) "__eq__" = some (some (.ref f_Sheaf___eq__))
  fn_Sheaf___eq__ : PySem.W.isFn K (.ref f_Sheaf___eq__) = true
section
variable {P : Program} {w : World} {K : PySem.W.Frag} {mg : Str → Option Value} {base : Heap}
theorem Env.cl_Sheaf (T : Env K mg) : Cls K T.C_Sheaf := ⟨T.pg_Sheaf, T.hd_Sheaf, T.po_Sheaf, T.sa_Sheaf⟩
def Env.ca (T : Env K mg) : CA := ⟨(), T.C_ContradictoryLog, T.C_Impossible, T.C_InvalidBox, T.C_InvalidDeed, T.C_InvalidDemands, T.C_InvalidEntry, T.C_InvalidName, T.C_InvalidPage, T.C_InvalidRound, T.C_InvalidSheaf, T.C_InvalidText, T.C_NoOutcome, T.C_NothingToRedo, T.C_NothingToUndo, T.C_RepeatedRecord, T.C_Sheaf, T.C_Spoiled, T.C_UnknownName, T.C_UnknownRecord, T.C_UsedName, T.C_WornError, T.C_WrongMove⟩
--@@DEF _power
theorem ok__power (T : Env K mg) : FnOk P w K mg base CX0 1 T.f__power T.d__power ["base", "exponent"] (spOf K [.v, .v] false (p__power T.ca)) :=
  fn_sim (ms := [.v, .v]) (ro := false) (b := w__power T.ca) T.F__power sc__power rfl (fun cdv A outer s H E hr => ⟨_, (pss_cons (ps_set (i := 2) sc__power.nd rfl (Or.inl rfl) pe_int)
  (pss_cons (ps_set (i := 3) sc__power.nd rfl (Or.inl rfl) (pv 0))
  (pss_cons (ps_set (i := 4) sc__power.nd rfl (Or.inl rfl) (pv 1))
  (pss_cons (ps_while PassesOwn.never (pt_cmpR op_gt (pv 4) pe_int (nomark _))
   (Evl.pss_cut (ps_if (pt_cmpR op_eq (pe_op op_and (pv 4) pe_int) pe_int (nomark _))
    (pss_one (ps_set (i := 2) sc__power.nd rfl (Or.inl rfl) (pe_op op_mulW (pv 2) (pv 3))))
    pss_nil)
   (pss_cons (ps_set (i := 3) sc__power.nd rfl (Or.inl rfl) (pe_op op_mulW (pv 3) (pv 3)))
   (pss_one (ps_set (i := 4) sc__power.nd rfl (Or.inl rfl) (pe_op op_fdivW (pv 4) pe_int))))))
  (pss_one (ps_ret (pv 2))))))),
    (ss_seq (ss_av (i := 2) se_int)
  (ss_seq (ss_av (i := 3) (se_v 0))
  (ss_seq (ss_av (i := 4) (se_v 1))
  (ss_seq (ss_while (st_test (se_vc (se_op os_b (se_c 4) (se_vc se_int))))
   (ss_cut (ss_if (st_test (se_vc (se_op os_eq (se_vc (se_op os_i (se_c 4) (se_vc se_int))) (se_vc se_int))))
    (ss_av (i := 2) (se_op os_ic (se_c 2) (se_c 3)))
    ss_nx)
   (ss_seq (ss_av (i := 3) (se_op os_ic (se_c 3) (se_c 3)))
   (ss_av (i := 4) (se_op os_ic (se_c 4) (se_vc se_int))))))
  (ss_rv (se_v 2))))))⟩) (fun _ _ _ h => h) (fun xs Q h => pure__power T.ca xs Q noX h)
--@@DEF valid_record
theorem ok_valid_record (T : Env K mg) : FnOk P w K mg base CX0 1 T.f_valid_record T.d_valid_record ["text"] (spOf K [.v] false (p_valid_record T.ca)) :=
  fn_sim (ms := [.v]) (ro := false) (b := w_valid_record T.ca) T.F_valid_record sc_valid_record rfl (fun cdv A outer s H E hr => ⟨_, (pss_one (ps_ret (pe_and (pe_chain op_le op_le pe_int (pe_callB call_len_str (by rfl) T.n_len (by decide +kernel) (pa_cons (pv 0) pa_nil)) (pe_glob (v := .int 8) (by rfl) T.g__LONGEST_RECORD ⟨_, rfl⟩)) (pe_one (pe_cmpR op_eq (pe_bm PySem.F.plainAttrs_str PySem.F.slot_str_strip PySem.F.type_str_strip mt_stripChars (pv 0) (pa_cons (pe_glob (v := .str "abcdefghijklmnopqrstuvwxyz0123456789") (by rfl) T.g__RECORD_SIGNS ⟨_, rfl⟩) pa_nil)) pe_str (nomark _)))))),
    (ss_rv (se_and (se_vc (se_chain os_b os_b (se_vc se_int) (se_vc (se_cb cs_lenS (sa_b (se_c 0) sa_nil))) (se_vc se_int))) (se_op os_eq (se_vc (se_bm ms_strip (se_c 0) (sa_b (se_vc (se_str (sok_by (by decide +kernel)))) sa_nil))) (se_vc (se_str (sok_by (by decide +kernel)))))))⟩) (fun _ _ _ h => h) (fun xs Q h => pure_valid_record T.ca xs Q noX h)
--@@DEF _law_cell
theorem ok__law_cell (T : Env K mg) : FnOk P w K mg base CX0 1 T.f__law_cell T.d__law_cell ["script", "k"] (spOf K [.v, .v] false (p__law_cell T.ca)) :=
  fn_sim (ms := [.v, .v]) (ro := false) (b := w__law_cell T.ca) T.F__law_cell sc__law_cell rfl (fun cdv A outer s H E hr => ⟨_, (pss_cons (ps_if (pt_cmpR op_lt (pv 1) (pe_callB call_len_seq (by rfl) T.n_len (by decide +kernel) (pa_cons (pv 0) pa_nil)) (nomark _))
   (pss_one (ps_ret (pe_callTy call_int1 (by rfl) T.n_int (by decide +kernel) (pa_cons (pe_ix ix_list (pv 0) (pv 1) (fun _ _ => rfl)) pa_nil))))
   pss_nil)
  (pss_one (ps_ret pe_int))),
    (ss_seq (ss_if (st_test (se_vc (se_op os_b (se_c 1) (se_vc (se_cb cs_len (sa_b (se_c 0) sa_nil))))))
   (ss_rv (se_cb cs_int1 (sa_b (se_vc (se_op os_ixScr (se_c 0) (se_c 1))) sa_nil)))
   ss_nx)
  (ss_rv se_int))⟩) (fun _ _ _ h => h) (fun xs Q h => pure__law_cell T.ca xs Q noX h)
--@@DEF _law_draws
theorem ok__law_draws (T : Env K mg) : FnOk P w K mg base CX0 1 T.f__law_draws T.d__law_draws ["cell", "sizes"] (spOf K [.v, .b] true (p__law_draws T.ca)) :=
  fn_sim (ms := [.v, .b]) (ro := true) (b := w__law_draws T.ca) T.F__law_draws sc__law_draws rfl (fun cdv A outer s H E hr => ⟨_, (pss_cons (ps_set (i := 2) sc__law_draws.nd rfl (Or.inl rfl) (pe_lst pa_nil))
  (pss_cons (ps_set (i := 3) sc__law_draws.nd rfl (Or.inl rfl) (pe_callTy call_int1 (by rfl) T.n_int (by decide +kernel) (pa_cons (pv 0) pa_nil)))
  (pss_cons (ps_set (i := 4) sc__law_draws.nd rfl (Or.inl rfl) (pe_cmpR op_ge (pv 3) (pe_op op_pow pe_int pe_int) (nomark _)))
  (pss_cons (ps_for PassesOwn.never rfl (pi_range1 (by rfl) T.n_range (pa_cons (pe_callB call_len_seq (by rfl) T.n_len (by decide +kernel) (pa_cons (pv 1) pa_nil)) pa_nil)) (pg_name (i := 5) sc__law_draws.nd rfl (Or.inl rfl))
   (pss_one (ps_if (PW.pt (pw_and (pt_val (pv 4)) (pw_and1 (pt_cmpR op_gt (pv 3) pe_int (nomark _)))))
    (pss_cons (ps_expr (pe_bm PySem.F.plainAttrs_list PySem.F.slot_list_append PySem.F.type_list_append mt_append (pv 2) (pa_cons (pe_op op_mod (pe_callTy call_int1 (by rfl) T.n_int (by decide +kernel) (pa_cons (pv 3) pa_nil)) (pe_ix ix_list (pv 1) (pv 5) (fun _ _ => rfl))) pa_nil)))
    (pss_one (ps_set (i := 3) sc__law_draws.nd rfl (Or.inl rfl) (pe_op op_fdivW (pe_callTy call_int1 (by rfl) T.n_int (by decide +kernel) (pa_cons (pv 3) pa_nil)) (pe_ix ix_list (pv 1) (pv 5) (fun _ _ => rfl))))))
    (pss_cons (ps_set (i := 6) sc__law_draws.nd rfl (Or.inl rfl) (pe_op op_mod (pe_callTy call_int1 (by rfl) T.n_int (by decide +kernel) (pa_cons (pe_op op_add (pe_op op_add (pv 0) (pe_op op_mulW pe_int (pv 5))) pe_int) pa_nil)) pe_int))
    (pss_cons (ps_set (i := 6) sc__law_draws.nd rfl (Or.inl rfl) (pe_op op_mod (pe_callTy call_int1 (by rfl) T.n_int (by decide +kernel) (pa_cons (pe_op op_mulW (pv 6) (pe_op op_add (pv 6) pe_int)) pa_nil)) pe_int))
    (pss_cons (ps_set (i := 6) sc__law_draws.nd rfl (Or.inl rfl) (pe_op op_mod (pe_callTy call_int1 (by rfl) T.n_int (by decide +kernel) (pa_cons (pe_op op_add (pe_op op_mulW (pv 6) (pe_op op_add (pv 6) pe_int)) (pe_op op_mulW pe_int (pv 5))) pa_nil)) pe_int))
    (pss_one (ps_expr (pe_bm PySem.F.plainAttrs_list PySem.F.slot_list_append PySem.F.type_list_append mt_append (pv 2) (pa_cons (pe_op op_mod (pe_callTy call_int1 (by rfl) T.n_int (by decide +kernel) (pa_cons (pe_op op_fdivW (pv 6) pe_int) pa_nil)) (pe_ix ix_list (pv 1) (pv 5) (fun _ _ => rfl))) pa_nil))))))))))
  (pss_one (ps_ret (pv 2))))))),
    (ss_seq (ss_ao (i := 2) (se_lst sa_nil))
  (ss_seq (ss_av (i := 3) (se_cb cs_int1 (sa_b (se_c 0) sa_nil)))
  (ss_seq (ss_av (i := 4) (se_op os_b (se_c 3) (se_vc (se_op os_ic (se_vc se_int) (se_vc se_int)))))
  (ss_seq (ss_for (si_r1 (sa_b (se_vc (se_cb cs_len (sa_b (se_c 1) sa_nil))) sa_nil)) (sg_n 5)
   (ss_if (st_and (st_val (se_c 4)) (st_test (se_vc (se_op os_b (se_c 3) (se_vc se_int)))))
    (ss_seq (ss_app (i := 2) (se_op os_ic (se_vc (se_cb cs_int1 (sa_b (se_c 3) sa_nil))) (se_vc (se_op os_ixL (se_c 1) (se_c 5)))))
    (ss_av (i := 3) (se_op os_ic (se_vc (se_cb cs_int1 (sa_b (se_c 3) sa_nil))) (se_vc (se_op os_ixL (se_c 1) (se_c 5))))))
    (ss_seq (ss_av (i := 6) (se_op os_ic (se_vc (se_cb cs_int1 (sa_b (se_vc (se_op os_i (se_vc (se_op os_i (se_c 0) (se_vc (se_op os_ic (se_vc se_int) (se_c 5))))) (se_vc se_int))) sa_nil))) (se_vc se_int)))
    (ss_seq (ss_av (i := 6) (se_op os_ic (se_vc (se_cb cs_int1 (sa_b (se_vc (se_op os_ic (se_c 6) (se_vc (se_op os_i (se_c 6) (se_vc se_int))))) sa_nil))) (se_vc se_int)))
    (ss_seq (ss_av (i := 6) (se_op os_ic (se_vc (se_cb cs_int1 (sa_b (se_vc (se_op os_i (se_vc (se_op os_ic (se_c 6) (se_vc (se_op os_i (se_c 6) (se_vc se_int))))) (se_vc (se_op os_ic (se_vc se_int) (se_c 5))))) sa_nil))) (se_vc se_int)))
    (ss_app (i := 2) (se_op os_ic (se_vc (se_cb cs_int1 (sa_b (se_vc (se_op os_ic (se_c 6) (se_vc se_int))) sa_nil))) (se_vc (se_op os_ixL (se_c 1) (se_c 5))))))))))
  (ss_roV 2)))))⟩) (fun _ _ _ h => h) (fun xs Q h => pure__law_draws T.ca xs Q noX h)
--@@DEF _law_width
theorem ok__law_width (T : Env K mg) : FnOk P w K mg base CX0 1 T.f__law_width T.d__law_width ["drawn"] (spOf K [.b] false (p__law_width T.ca)) :=
  fn_sim (ms := [.b]) (ro := false) (b := w__law_width T.ca) T.F__law_width sc__law_width rfl (fun cdv A outer s H E hr => ⟨_, (pss_cons (ps_if (pt_cmpR op_gt (pe_ix ix_list (pv 0) pe_int (fun _ _ => rfl)) pe_int (nomark _))
   (pss_one (ps_ret (pe_op op_add pe_int (pe_ix ix_list (pv 0) pe_int (fun _ _ => rfl)))))
   pss_nil)
  (pss_one (ps_ret pe_int))),
    (ss_seq (ss_if (st_test (se_vc (se_op os_b (se_vc (se_op os_ixL (se_c 0) (se_vc se_int))) (se_vc se_int))))
   (ss_rv (se_op os_i (se_vc se_int) (se_vc (se_op os_ixL (se_c 0) (se_vc se_int)))))
   ss_nx)
  (ss_rv se_int))⟩) (fun _ _ _ h => h) (fun xs Q h => pure__law_width T.ca xs Q noX h)
--@@DEF _law_moved
theorem ok__law_moved (T : Env K mg) : FnOk P w K mg base CX0 1 T.f__law_moved T.d__law_moved ["rows", "source", "targets"] (spOf K [.b, .v, .b] true (p__law_moved T.ca)) :=
  fn_sim (ms := [.b, .v, .b]) (ro := true) (b := w__law_moved T.ca) T.F__law_moved sc__law_moved rfl (fun cdv A outer s H E hr => ⟨_, (pss_cons (ps_set (i := 3) sc__law_moved.nd rfl (Or.inl rfl) (pe_callTy call_list_of (by rfl) T.n_list (by decide +kernel) (pa_cons (pv 0) pa_nil)))
  (pss_cons (ps_for PassesOwn.never rfl (pi_list (pe_op op_cat (pe_lst (pa_cons (pv 1) pa_nil)) (pe_callTy call_list_of (by rfl) T.n_list (by decide +kernel) (pa_cons (pv 2) pa_nil)))) (pg_name (i := 4) sc__law_moved.nd rfl (Or.inl rfl))
   (pss_one (ps_asg (pe_tup (pa_cons (pe_op op_sub (pe_ix ix_tup (pe_ix ix_list (pv 0) (pv 1) (fun _ _ => rfl)) pe_int (fun _ _ => rfl)) pe_int) (pa_cons (pe_ix ix_tup (pe_ix ix_list (pv 0) (pv 1) (fun _ _ => rfl)) pe_int (fun _ _ => rfl)) pa_nil))) (pg_sub (pv 3) (pv 4) set_list))))
  (pss_one (ps_ret (pv 3))))),
    (ss_seq (ss_ao (i := 3) (se_cb cs_list (sa_b (se_c 0) sa_nil)))
  (ss_seq (ss_for (si_list (se_ov (se_op os_cat (se_oc (se_lst (sa_v (se_v 1) sa_nil))) (se_oc (se_cb cs_list (sa_b (se_c 2) sa_nil)))))) (sg_n 4)
   (ss_set (i := 3) (se_tup (sa_v (se_op os_i (se_vc (se_op os_ixT (se_vc (se_op os_ixL (se_c 0) (se_c 1))) (se_vc se_int))) (se_vc se_int)) (sa_v (se_op os_ixT (se_vc (se_op os_ixL (se_c 0) (se_c 1))) (se_vc se_int)) sa_nil))) (se_c 4)))
  (ss_roV 3)))⟩) (fun _ _ _ h => h) (fun xs Q h => pure__law_moved T.ca xs Q noX h)
--@@DEF _law_single
theorem okWX__law_single__InvalidDemands (T : Env K mg) : FnWX P w K mg base 1 T.f__law_single T.d__law_single ["error"] T.C_InvalidDemands (fun ea ed => spOf K [.v] false (p__law_single__InvalidDemands T.ca ea ed)) :=
  fn_simWX (ms := [.v]) (ro := false) (p := p__law_single__InvalidDemands T.ca) (b := w__law_single__InvalidDemands T.ca) T.F__law_single sc__law_single rfl (fun cdv A outer s H E pp d hr hc hz hf => ⟨_, (pss_cons (ps_set (i := 1) sc__law_single.nd rfl (Or.inl rfl) (pe_lst (pa_cons (pe_callB (call_isP List.mem_cons_self hz hf) (by rfl) T.n_isinstance (by decide +kernel) (pa_cons (pv 0) (pa_cons (pe_glob (v := .ref T.C_InvalidSheaf) (by rfl) T.g_InvalidSheaf rfl) pa_nil))) (pa_cons (pe_callB (call_isP List.mem_cons_self hz hf) (by rfl) T.n_isinstance (by decide +kernel) (pa_cons (pv 0) (pa_cons (pe_glob (v := .ref T.C_InvalidDeed) (by rfl) T.g_InvalidDeed rfl) pa_nil))) (pa_cons (pe_callB (call_isP List.mem_cons_self hz hf) (by rfl) T.n_isinstance (by decide +kernel) (pa_cons (pv 0) (pa_cons (pe_glob (v := .ref T.C_InvalidEntry) (by rfl) T.g_InvalidEntry rfl) pa_nil))) pa_nil)))))
  (pss_cons (ps_set (i := 1) sc__law_single.nd rfl (Or.inl rfl) (pe_op op_cat (pv 1) (pe_lst (pa_cons (pe_callB (call_isP List.mem_cons_self hz hf) (by rfl) T.n_isinstance (by decide +kernel) (pa_cons (pv 0) (pa_cons (pe_glob (v := .ref T.C_InvalidText) (by rfl) T.g_InvalidText rfl) pa_nil))) (pa_cons (pe_callB (call_isP List.mem_cons_self hz hf) (by rfl) T.n_isinstance (by decide +kernel) (pa_cons (pv 0) (pa_cons (pe_glob (v := .ref T.C_InvalidBox) (by rfl) T.g_InvalidBox rfl) pa_nil))) (pa_cons (pe_callB (call_isP List.mem_cons_self hz hf) (by rfl) T.n_isinstance (by decide +kernel) (pa_cons (pv 0) (pa_cons (pe_glob (v := .ref T.C_NoOutcome) (by rfl) T.g_NoOutcome rfl) pa_nil))) pa_nil))))))
  (pss_cons (ps_set (i := 1) sc__law_single.nd rfl (Or.inl rfl) (pe_op op_cat (pv 1) (pe_lst (pa_cons (pe_callB (call_isP List.mem_cons_self hz hf) (by rfl) T.n_isinstance (by decide +kernel) (pa_cons (pv 0) (pa_cons (pe_glob (v := .ref T.C_InvalidDemands) (by rfl) T.g_InvalidDemands rfl) pa_nil))) (pa_cons (pe_callB (call_isP List.mem_cons_self hz hf) (by rfl) T.n_isinstance (by decide +kernel) (pa_cons (pv 0) (pa_cons (pe_glob (v := .ref T.C_UnknownRecord) (by rfl) T.g_UnknownRecord rfl) pa_nil))) (pa_cons (pe_callB (call_isP List.mem_cons_self hz hf) (by rfl) T.n_isinstance (by decide +kernel) (pa_cons (pv 0) (pa_cons (pe_glob (v := .ref T.C_Spoiled) (by rfl) T.g_Spoiled rfl) pa_nil))) pa_nil))))))
  (pss_cons (ps_set (i := 1) sc__law_single.nd rfl (Or.inl rfl) (pe_op op_cat (pv 1) (pe_lst (pa_cons (pe_callB (call_isP List.mem_cons_self hz hf) (by rfl) T.n_isinstance (by decide +kernel) (pa_cons (pv 0) (pa_cons (pe_glob (v := .ref T.C_Impossible) (by rfl) T.g_Impossible rfl) pa_nil))) (pa_cons (pe_callB (call_isP List.mem_cons_self hz hf) (by rfl) T.n_isinstance (by decide +kernel) (pa_cons (pv 0) (pa_cons (pe_glob (v := .ref T.C_RepeatedRecord) (by rfl) T.g_RepeatedRecord rfl) pa_nil))) (pa_cons (pe_callB (call_isP List.mem_cons_self hz hf) (by rfl) T.n_isinstance (by decide +kernel) (pa_cons (pv 0) (pa_cons (pe_glob (v := .ref T.C_WrongMove) (by rfl) T.g_WrongMove rfl) pa_nil))) pa_nil))))))
  (pss_cons (ps_set (i := 1) sc__law_single.nd rfl (Or.inl rfl) (pe_op op_cat (pv 1) (pe_lst (pa_cons (pe_callB (call_isP List.mem_cons_self hz hf) (by rfl) T.n_isinstance (by decide +kernel) (pa_cons (pv 0) (pa_cons (pe_glob (v := .ref T.C_ContradictoryLog) (by rfl) T.g_ContradictoryLog rfl) pa_nil))) (pa_cons (pe_callB (call_isP List.mem_cons_self hz hf) (by rfl) T.n_isinstance (by decide +kernel) (pa_cons (pv 0) (pa_cons (pe_glob (v := .ref T.C_InvalidRound) (by rfl) T.g_InvalidRound rfl) pa_nil))) (pa_cons (pe_callB (call_isP List.mem_cons_self hz hf) (by rfl) T.n_isinstance (by decide +kernel) (pa_cons (pv 0) (pa_cons (pe_glob (v := .ref T.C_UsedName) (by rfl) T.g_UsedName rfl) pa_nil))) pa_nil))))))
  (pss_cons (ps_set (i := 1) sc__law_single.nd rfl (Or.inl rfl) (pe_op op_cat (pv 1) (pe_lst (pa_cons (pe_callB (call_isP List.mem_cons_self hz hf) (by rfl) T.n_isinstance (by decide +kernel) (pa_cons (pv 0) (pa_cons (pe_glob (v := .ref T.C_InvalidName) (by rfl) T.g_InvalidName rfl) pa_nil))) (pa_cons (pe_callB (call_isP List.mem_cons_self hz hf) (by rfl) T.n_isinstance (by decide +kernel) (pa_cons (pv 0) (pa_cons (pe_glob (v := .ref T.C_UnknownName) (by rfl) T.g_UnknownName rfl) pa_nil))) (pa_cons (pe_callB (call_isP List.mem_cons_self hz hf) (by rfl) T.n_isinstance (by decide +kernel) (pa_cons (pv 0) (pa_cons (pe_glob (v := .ref T.C_InvalidPage) (by rfl) T.g_InvalidPage rfl) pa_nil))) pa_nil))))))
  (pss_cons (ps_set (i := 1) sc__law_single.nd rfl (Or.inl rfl) (pe_op op_cat (pv 1) (pe_lst (pa_cons (pe_callB (call_isP List.mem_cons_self hz hf) (by rfl) T.n_isinstance (by decide +kernel) (pa_cons (pv 0) (pa_cons (pe_glob (v := .ref T.C_NothingToUndo) (by rfl) T.g_NothingToUndo rfl) pa_nil))) (pa_cons (pe_callB (call_isP List.mem_cons_self hz hf) (by rfl) T.n_isinstance (by decide +kernel) (pa_cons (pv 0) (pa_cons (pe_glob (v := .ref T.C_NothingToRedo) (by rfl) T.g_NothingToRedo rfl) pa_nil))) pa_nil)))))
  (pss_cons (ps_if (PW.pt (pw_or (pt_not (pt_val (pe_callB (call_isP List.mem_cons_self hz hf) (by rfl) T.n_isinstance (by decide +kernel) (pa_cons (pv 0) (pa_cons (pe_glob (v := .ref T.C_WornError) (by rfl) T.g_WornError rfl) pa_nil))))) (pw_or1 (pt_not (pt_val (pe_callB (call_isP List.mem_cons_self hz hf) (by rfl) T.n_isinstance (by decide +kernel) (pa_cons (pv 0) (pa_cons (pe_bltn (v := .ty "ValueError") (by rfl) T.n_ValueError (by decide +kernel) rfl) pa_nil))))))))
   (pss_one (ps_ret pe_bl))
   pss_nil)
  (pss_one (ps_ret (pe_cmpR op_eq (pe_callB call_len_seq (by rfl) T.n_len (by decide +kernel) (pa_cons (pe_lcPX (own := [("kind", 2)]) hc sc__law_single.nd (pi_listP (pv 1)) (blkOk_by (N := ["error", "kinds", "kind"]) (sc := defScope s__law_single) (own := [("kind", 2)]) (by decide +kernel)) (fun _ _ _ _ _ => (pg_name (i := 2) sc__law_single.nd rfl (Or.inl rfl))) (fun _ _ _ _ _ => (pts_one (pt_val (pv 2)))) (fun _ _ _ _ _ => (pv 2))) pa_nil)) pe_int (nomark _)))))))))))),
    (ss_seq (ss_av (i := 1) (se_ov (se_lst (sa_v (se_cb (cs_isD T.ec_InvalidDemands T.kit_InvalidDemands_InvalidSheaf) (sa_b (se_c 0) (sa_b (se_vc se_adr) sa_nil))) (sa_v (se_cb (cs_isD T.ec_InvalidDemands T.kit_InvalidDemands_InvalidDeed) (sa_b (se_c 0) (sa_b (se_vc se_adr) sa_nil))) (sa_v (se_cb (cs_isD T.ec_InvalidDemands T.kit_InvalidDemands_InvalidEntry) (sa_b (se_c 0) (sa_b (se_vc se_adr) sa_nil))) sa_nil))))))
  (ss_seq (ss_av (i := 1) (se_ov (se_op os_cat (se_c 1) (se_oc (se_lst (sa_v (se_cb (cs_isD T.ec_InvalidDemands T.kit_InvalidDemands_InvalidText) (sa_b (se_c 0) (sa_b (se_vc se_adr) sa_nil))) (sa_v (se_cb (cs_isD T.ec_InvalidDemands T.kit_InvalidDemands_InvalidBox) (sa_b (se_c 0) (sa_b (se_vc se_adr) sa_nil))) (sa_v (se_cb (cs_isD T.ec_InvalidDemands T.kit_InvalidDemands_NoOutcome) (sa_b (se_c 0) (sa_b (se_vc se_adr) sa_nil))) sa_nil))))))))
  (ss_seq (ss_av (i := 1) (se_ov (se_op os_cat (se_c 1) (se_oc (se_lst (sa_v (se_cb (cs_isD T.ec_InvalidDemands T.kit_InvalidDemands_InvalidDemands) (sa_b (se_c 0) (sa_b (se_vc se_adr) sa_nil))) (sa_v (se_cb (cs_isD T.ec_InvalidDemands T.kit_InvalidDemands_UnknownRecord) (sa_b (se_c 0) (sa_b (se_vc se_adr) sa_nil))) (sa_v (se_cb (cs_isD T.ec_InvalidDemands T.kit_InvalidDemands_Spoiled) (sa_b (se_c 0) (sa_b (se_vc se_adr) sa_nil))) sa_nil))))))))
  (ss_seq (ss_av (i := 1) (se_ov (se_op os_cat (se_c 1) (se_oc (se_lst (sa_v (se_cb (cs_isD T.ec_InvalidDemands T.kit_InvalidDemands_Impossible) (sa_b (se_c 0) (sa_b (se_vc se_adr) sa_nil))) (sa_v (se_cb (cs_isD T.ec_InvalidDemands T.kit_InvalidDemands_RepeatedRecord) (sa_b (se_c 0) (sa_b (se_vc se_adr) sa_nil))) (sa_v (se_cb (cs_isD T.ec_InvalidDemands T.kit_InvalidDemands_WrongMove) (sa_b (se_c 0) (sa_b (se_vc se_adr) sa_nil))) sa_nil))))))))
  (ss_seq (ss_av (i := 1) (se_ov (se_op os_cat (se_c 1) (se_oc (se_lst (sa_v (se_cb (cs_isD T.ec_InvalidDemands T.kit_InvalidDemands_ContradictoryLog) (sa_b (se_c 0) (sa_b (se_vc se_adr) sa_nil))) (sa_v (se_cb (cs_isD T.ec_InvalidDemands T.kit_InvalidDemands_InvalidRound) (sa_b (se_c 0) (sa_b (se_vc se_adr) sa_nil))) (sa_v (se_cb (cs_isD T.ec_InvalidDemands T.kit_InvalidDemands_UsedName) (sa_b (se_c 0) (sa_b (se_vc se_adr) sa_nil))) sa_nil))))))))
  (ss_seq (ss_av (i := 1) (se_ov (se_op os_cat (se_c 1) (se_oc (se_lst (sa_v (se_cb (cs_isD T.ec_InvalidDemands T.kit_InvalidDemands_InvalidName) (sa_b (se_c 0) (sa_b (se_vc se_adr) sa_nil))) (sa_v (se_cb (cs_isD T.ec_InvalidDemands T.kit_InvalidDemands_UnknownName) (sa_b (se_c 0) (sa_b (se_vc se_adr) sa_nil))) (sa_v (se_cb (cs_isD T.ec_InvalidDemands T.kit_InvalidDemands_InvalidPage) (sa_b (se_c 0) (sa_b (se_vc se_adr) sa_nil))) sa_nil))))))))
  (ss_seq (ss_av (i := 1) (se_ov (se_op os_cat (se_c 1) (se_oc (se_lst (sa_v (se_cb (cs_isD T.ec_InvalidDemands T.kit_InvalidDemands_NothingToUndo) (sa_b (se_c 0) (sa_b (se_vc se_adr) sa_nil))) (sa_v (se_cb (cs_isD T.ec_InvalidDemands T.kit_InvalidDemands_NothingToRedo) (sa_b (se_c 0) (sa_b (se_vc se_adr) sa_nil))) sa_nil)))))))
  (ss_seq (ss_if (st_or (st_not (st_val (se_vc (se_cb (cs_isD T.ec_InvalidDemands T.kit_InvalidDemands_WornError) (sa_b (se_c 0) (sa_b (se_vc se_adr) sa_nil)))))) (st_not (st_val (se_vc (se_cb (cs_isDT T.ec_InvalidDemands T.kit_InvalidDemands_ValueError) (sa_b (se_c 0) (sa_b (se_vc se_ty) sa_nil)))))))
   (ss_rv se_bl)
   ss_nx)
  (ss_rv (se_op os_eq (se_vc (se_cb cs_len (sa_b (se_oc (se_lc (si_listc (se_c 1)) (sg_all fun _ _ _ _ _ => (sg_n 2)) (st_all fun _ _ _ _ _ => (st_val (se_c 2))) (se_all fun _ _ _ _ _ => (se_v 2)) (by decide))) sa_nil))) (se_vc se_int)))))))))))⟩) (fun _ _ _ _ _ h => h) (fun ea ed xs Q h => pure__law_single__InvalidDemands T.ca ea ed xs Q noX h)
--@@DEF _law_shares
theorem ok__law_shares (T : Env K mg) : FnOk P w K mg base CX0 1 T.f__law_shares T.d__law_shares ["rows"] (spOf K [.b] true (p__law_shares T.ca)) :=
  fn_sim (ms := [.b]) (ro := true) (b := w__law_shares T.ca) T.F__law_shares sc__law_shares rfl (fun cdv A outer s H E hr => ⟨_, (pss_cons (ps_set (i := 1) sc__law_shares.nd rfl (Or.inl rfl) pe_dnewK)
  (pss_cons (ps_for PassesOwn.never rfl (pi_list (pv 0)) (pg_name (i := 2) sc__law_shares.nd rfl (Or.inl rfl))
   (pss_one (ps_dput (hu_of hr) (pv 1) (pe_ix ix_tup (pv 2) pe_int (fun _ _ => rfl)) (pe_op op_add (pe_dget2 (hu_of hr) (pv 1) (pe_ix ix_tup (pv 2) pe_int (fun _ _ => rfl)) pe_int ⟨rfl, rfl, rfl, rfl⟩) pe_int) rfl)))
  (pss_one (ps_ret (pv 1))))),
    (ss_seq (ss_ao (i := 1) se_dnew)
  (ss_seq (ss_for (si_var 0) (sg_n 2)
   (ss_dput (i := 1) (se_op os_i (se_vc (se_dget2 (se_c 1) (se_vc (se_op os_ixT (se_c 2) (se_vc se_int))) se_int)) (se_vc se_int)) (se_vc (se_op os_ixT (se_c 2) (se_vc se_int)))))
  (ss_roV 1)))⟩) (fun _ _ _ h => h) (fun xs Q h => pure__law_shares T.ca xs Q noX h)
--@@DEF InvalidSheaf___init__
theorem ok_InvalidSheaf___init__ (T : Env K mg) : FnOk P w K mg base CX0 1 T.f_InvalidSheaf___init__ T.d_InvalidSheaf___init__ ["self", "index"] (spExc T.C_InvalidSheaf "index") :=
  T.F_InvalidSheaf___init__.ok sc_InvalidSheaf___init__ (fun vs H Q E h => by obtain ⟨a, v, rfl, _⟩ := h; rfl) (fun cdv A outer s H vs Q E hr h => ⟨_, pss_one (ps_ost (pv 0) (pv 1)), exc_read T.ox_InvalidSheaf T.na_InvalidSheaf_index h⟩)
--@@DEF InvalidDemands___init__
theorem ok_InvalidDemands___init__ (T : Env K mg) : FnOk P w K mg base CX0 1 T.f_InvalidDemands___init__ T.d_InvalidDemands___init__ ["self", "record"] (spExc T.C_InvalidDemands "record") :=
  T.F_InvalidDemands___init__.ok sc_InvalidDemands___init__ (fun vs H Q E h => by obtain ⟨a, v, rfl, _⟩ := h; rfl) (fun cdv A outer s H vs Q E hr h => ⟨_, pss_one (ps_ost (pv 0) (pv 1)), exc_read T.ox_InvalidDemands T.na_InvalidDemands_record h⟩)
--@@DEF Sheaf___len__
theorem ok_Sheaf___len__ (T : Env K mg) : FnOk P w K mg base CX0 1 T.f_Sheaf___len__ T.d_Sheaf___len__ ["self"] (spOf K [.b] false (p_Sheaf___len__ T.ca)) :=
  fn_sim (ms := [.b]) (ro := false) (b := w_Sheaf___len__ T.ca) T.F_Sheaf___len__ sc_Sheaf___len__ rfl (fun cdv A outer s H E hr => ⟨_, (pss_one (ps_ret (pe_callB call_len_seq (by rfl) T.n_len (by decide +kernel) (pa_cons (pe_fld (pv 0) rfl) pa_nil)))),
    (ss_rv (se_cb cs_len (sa_b (se_vc (se_fld T.cl_Sheaf T.na_Sheaf__rows (se_c 0))) sa_nil)))⟩) (fun _ _ _ h => h) (fun xs Q h => pure_Sheaf___len__ T.ca xs Q noX h)
--@@DEF Sheaf___iter__
theorem okN_Sheaf___iter__ (T : Env K mg) : FnN P w K mg base CX0 1 T.f_Sheaf___iter__ T.d_Sheaf___iter__ ["self"] (spIter K T.C_Sheaf "_rows") :=
  fnN_of T.F_Sheaf___iter__ sc_Sheaf___iter__ (fun n vs H Q E h => by obtain ⟨a, dx, fs, l, zs, rfl, _⟩ := h; rfl) (fun cdv A outer s H vs Q E hr h => ⟨_, pss_one (ps_ret (pe_callB ItX.call_iterN (by rfl) T.n_iter (by decide +kernel) (pa_cons (pe_fld (pv 0) rfl) pa_nil))), iter_read T.cl_Sheaf T.na_Sheaf__rows h⟩)
--@@DEF Sheaf___eq__
theorem ok_Sheaf___eq__ (T : Env K mg) : FnOk P w K mg base CX0 1 T.f_Sheaf___eq__ T.d_Sheaf___eq__ ["self", "other"] (spOf K [.b, .b] false (p_Sheaf___eq__ T.ca)) :=
  fn_sim (ms := [.b, .b]) (ro := false) (b := w_Sheaf___eq__ T.ca) T.F_Sheaf___eq__ sc_Sheaf___eq__ rfl (fun cdv A outer s H E hr => ⟨_, (pss_one (ps_ret (pe_and (pe_callB call_isi (by rfl) T.n_isinstance (by decide +kernel) (pa_cons (pv 1) (pa_cons (pe_glob (v := .ref T.C_Sheaf) (by rfl) T.g_Sheaf rfl) pa_nil))) (pe_one (pe_cmpR (op_eqD hr.units) (pe_fld (pv 0) rfl) (pe_fld (pv 1) rfl) (nomark _)))))),
    (ss_rv (se_and (se_vc (se_cb (cs_isO T.ins_Sheaf) (sa_b (se_c 1) (sa_b (se_vc se_adr) sa_nil)))) (se_op os_eqD (se_vc (se_fld T.cl_Sheaf T.na_Sheaf__rows (se_c 0))) (se_vc (se_fld T.cl_Sheaf T.na_Sheaf__rows (se_c 1))))))⟩) (fun _ _ _ h => h) (fun xs Q h => pure_Sheaf___eq__ T.ca xs Q noX h)
--@@DEF Sheaf_top
theorem ok_Sheaf_top (T : Env K mg) : FnOk P w K mg base CX0 1 T.f_Sheaf_top T.d_Sheaf_top ["self"] (spOf K [.b] false (p_Sheaf_top T.ca)) :=
  fn_sim (ms := [.b]) (ro := false) (b := w_Sheaf_top T.ca) T.F_Sheaf_top sc_Sheaf_top rfl (fun cdv A outer s H E hr => ⟨_, (pss_one (ps_ret (pe_fld (pv 0) rfl))),
    (ss_rv (se_fld T.cl_Sheaf T.na_Sheaf__top (se_c 0)))⟩) (fun _ _ _ h => h) (fun xs Q h => pure_Sheaf_top T.ca xs Q noX h)
--@@DEF Sheaf_rows
theorem ok_Sheaf_rows (T : Env K mg) : FnOk P w K mg base CX0 1 T.f_Sheaf_rows T.d_Sheaf_rows ["self"] (spOf K [.b] true (p_Sheaf_rows T.ca)) :=
  fn_sim (ms := [.b]) (ro := true) (b := w_Sheaf_rows T.ca) T.F_Sheaf_rows sc_Sheaf_rows rfl (fun cdv A outer s H E hr => ⟨_, (pss_one (ps_ret (pe_callTy call_list_of (by rfl) T.n_list (by decide +kernel) (pa_cons (pe_fld (pv 0) rfl) pa_nil)))),
    (ss_ro (se_cb cs_list (sa_b (se_vc (se_fld T.cl_Sheaf T.na_Sheaf__rows (se_c 0))) sa_nil)))⟩) (fun _ _ _ h => h) (fun xs Q h => pure_Sheaf_rows T.ca xs Q noX h)
--@@DEF Sheaf_sharpness_of
theorem ok_Sheaf_sharpness_of (T : Env K mg) : FnOk P w K mg base CX0 1 T.f_Sheaf_sharpness_of T.d_Sheaf_sharpness_of ["self", "index"] (spOf K [.b, .v] false (p_Sheaf_sharpness_of T.ca)) :=
  fn_sim (ms := [.b, .v]) (ro := false) (b := w_Sheaf_sharpness_of T.ca) T.F_Sheaf_sharpness_of sc_Sheaf_sharpness_of rfl (fun cdv A outer s H E hr => ⟨_, (pss_one (ps_ret (pe_ix ix_tup (pe_ix ix_list (pe_fld (pv 0) rfl) (pv 1) (fun _ _ => rfl)) pe_int (fun _ _ => rfl)))),
    (ss_rv (se_op os_ixT (se_vc (se_op os_ixL (se_vc (se_fld T.cl_Sheaf T.na_Sheaf__rows (se_c 0))) (se_c 1))) (se_vc se_int)))⟩) (fun _ _ _ h => h) (fun xs Q h => pure_Sheaf_sharpness_of T.ca xs Q noX h)
--@@DEF Sheaf_sheets_of
theorem ok_Sheaf_sheets_of (T : Env K mg) : FnOk P w K mg base CX0 1 T.f_Sheaf_sheets_of T.d_Sheaf_sheets_of ["self", "record"] (spOf K [.b, .v] true (p_Sheaf_sheets_of T.ca)) :=
  fn_sim (ms := [.b, .v]) (ro := true) (b := w_Sheaf_sheets_of T.ca) T.F_Sheaf_sheets_of sc_Sheaf_sheets_of rfl (fun cdv A outer s H E hr => ⟨_, (pss_one (ps_ret (pe_lcX (own := [("index", 2), ("row", 3)]) rfl sc_Sheaf_sheets_of.nd (pi_enum (by rfl) T.n_enumerate (pa_cons (pe_fld (pv 0) rfl) pa_nil)) (blkOk_by (N := ["self", "record", "index", "row"]) (sc := defScope s_Sheaf_sheets_of) (own := [("index", 2), ("row", 3)]) (by decide +kernel)) (fun _ _ _ _ _ => (pg_tup (by rfl) (pgs_cons (pg_name (i := 2) sc_Sheaf_sheets_of.nd rfl (Or.inl rfl)) (pgs_cons (pg_name (i := 3) sc_Sheaf_sheets_of.nd rfl (Or.inl rfl)) pgs_nil)))) (fun _ _ _ _ _ => (pts_one (pt_cmpR op_eq (pe_ix ix_tup (pv 3) pe_int (fun _ _ => rfl)) (pv 1) (nomark _)))) (fun _ _ _ _ _ => (pv 2))))),
    (ss_ro (se_lc (si_enumc (sa_b (se_vc (se_fld T.cl_Sheaf T.na_Sheaf__rows (se_c 0))) sa_nil)) (sg_all fun _ _ _ _ _ => (sg_t (sg_cons (sg_n 2) (sg_cons (sg_n 3) sg_nil)))) (st_all fun _ _ _ _ _ => (st_test (se_vc (se_op os_eq (se_vc (se_op os_ixT (se_c 3) (se_vc se_int))) (se_c 1))))) (se_all fun _ _ _ _ _ => (se_v 2)) (by decide)))⟩) (fun _ _ _ h => h) (fun xs Q h => pure_Sheaf_sheets_of T.ca xs Q noX h)
--@@DEF cap
theorem ok_cap (T : Env K mg) : FnOk P w K mg base CX0 2 T.f_cap T.d_cap ["sharpness", "end", "breadth"] (spOf K [.v, .v, .v] false (p_cap T.ca)) :=
  fn_sim (ms := [.v, .v, .v]) (ro := false) (b := w_cap T.ca) T.F_cap sc_cap rfl (fun cdv A outer s H E hr => ⟨_, (pss_cons (ps_if (pt_cmpR op_lt (pv 0) (pv 1) (nomark _))
   (pss_one (ps_ret pe_int))
   pss_nil)
  (pss_one (ps_ret (pe_call (ok__power T) hr (by rfl) T.g__power T.F__power.kp T.b__power .nil pass0 (pa_cons (pe_op op_add (pv 2) pe_int) (pa_cons (pe_op op_sub (pv 0) (pv 1)) pa_nil)))))),
    (ss_seq (ss_if (st_test (se_vc (se_op os_b (se_c 0) (se_c 1))))
   (ss_rv se_int)
   ss_nx)
  (ss_rv (se_call0 (ro := false) (sa_v (se_op os_i (se_c 2) (se_vc se_int)) (sa_v (se_op os_i (se_c 0) (se_c 1)) sa_nil)))))⟩) (fun _ _ _ h => h) (fun xs Q h => pure_cap T.ca xs Q noX h)
--@@DEF falling_sheets
theorem ok_falling_sheets (T : Env K mg) : FnOk P w K mg base CX0 2 T.f_falling_sheets T.d_falling_sheets ["sheaf", "record"] (spOf K [.b, .v] true (p_falling_sheets T.ca)) :=
  fn_sim (ms := [.b, .v]) (ro := true) (b := w_falling_sheets T.ca) T.F_falling_sheets sc_falling_sheets rfl (fun cdv A outer s H E hr => ⟨_, (pss_cons (ps_set (i := 2) sc_falling_sheets.nd rfl (Or.inl rfl) (pe_callB cr_sortedPO (by rfl) T.n_sorted (by decide +kernel) (pa_cons (pe_lcX (own := [("index", 3)]) rfl sc_falling_sheets.nd (pi_list (pe_meth (pv 0) T.cl_Sheaf T.me_Sheaf_sheets_of (ok_Sheaf_sheets_of T) hr T.b_Sheaf_sheets_of .nil pass0 (pa_cons (pv 1) pa_nil))) (blkOk_by (N := ["sheaf", "record", "marks", "index", "_"]) (sc := defScope s_falling_sheets) (own := [("index", 3)]) (by decide +kernel)) (fun _ _ _ _ _ => (pg_name (i := 3) sc_falling_sheets.nd rfl (Or.inl rfl))) (fun _ _ _ _ _ => pts_nil) (fun _ _ _ _ _ => (pe_tup (pa_cons (pe_un un_neg (pe_meth (pv 0) T.cl_Sheaf T.me_Sheaf_sharpness_of (ok_Sheaf_sharpness_of T) hr T.b_Sheaf_sharpness_of .nil pass0 (pa_cons (pv 3) pa_nil))) (pa_cons (pv 3) pa_nil))))) pa_nil)))
  (pss_one (ps_ret (pe_lcX (own := [("_", 4), ("index", 3)]) rfl sc_falling_sheets.nd (pi_list (pv 2)) (blkOk_by (N := ["sheaf", "record", "marks", "index", "_"]) (sc := defScope s_falling_sheets) (own := [("_", 4), ("index", 3)]) (by decide +kernel)) (fun _ _ _ _ _ => (pg_tup (by rfl) (pgs_cons (pg_name (i := 4) sc_falling_sheets.nd rfl (Or.inl rfl)) (pgs_cons (pg_name (i := 3) sc_falling_sheets.nd rfl (Or.inl rfl)) pgs_nil)))) (fun _ _ _ _ _ => pts_nil) (fun _ _ _ _ _ => (pv 3)))))),
    (ss_seq (ss_av (i := 2) (se_ov (se_cb cs_sortII (sa_b (se_oc (se_lc (si_listc (se_oc (se_meth (ro := true) (se_c 0) (sa_v (se_v 1) sa_nil)))) (sg_all fun _ _ _ _ _ => (sg_n 3)) (st_all fun _ _ _ _ _ => st_yes) (se_all fun _ _ _ _ _ => (se_tup (sa_v (se_un us_i (se_vc (se_meth (ro := false) (se_c 0) (sa_v (se_v 3) sa_nil)))) (sa_v (se_v 3) sa_nil)))) (by decide))) sa_nil))))
  (ss_ro (se_lc (si_listc (se_c 2)) (sg_all fun _ _ _ _ _ => (sg_t (sg_cons (sg_n 4) (sg_cons (sg_n 3) sg_nil)))) (st_all fun _ _ _ _ _ => st_yes) (se_all fun _ _ _ _ _ => (se_v 3)) (by decide))))⟩) (fun _ _ _ h => h) (fun xs Q h => pure_falling_sheets T.ca xs Q noX h)
--@@DEF _law_given
theorem ok__law_given (T : Env K mg) : FnOk P w K mg base CX0 2 T.f__law_given T.d__law_given ["script", "k"] (spOf K [.v, .v] false (p__law_given T.ca)) :=
  fn_sim (ms := [.v, .v]) (ro := false) (b := w__law_given T.ca) T.F__law_given sc__law_given rfl (fun cdv A outer s H E hr => ⟨_, (pss_cons (ps_if (pt_cmpR op_lt (pv 1) (pe_callB call_len_seq (by rfl) T.n_len (by decide +kernel) (pa_cons (pv 0) pa_nil)) (nomark _))
   (pss_one (ps_ret (pe_callTy call_int1 (by rfl) T.n_int (by decide +kernel) (pa_cons (pe_ix ix_list (pv 0) (pv 1) (fun _ _ => rfl)) pa_nil))))
   pss_nil)
  (pss_one (ps_ret (pe_op op_add (pe_op op_mulW pe_int (pe_op op_add (pv 1) pe_int)) (pe_op op_mulL pe_int (pe_call (ok__law_cell T) hr (by rfl) T.g__law_cell T.F__law_cell.kp T.b__law_cell .nil pass0 (pa_cons (pv 0) (pa_cons pe_int pa_nil)))))))),
    (ss_seq (ss_if (st_test (se_vc (se_op os_b (se_c 1) (se_vc (se_cb cs_len (sa_b (se_c 0) sa_nil))))))
   (ss_rv (se_cb cs_int1 (sa_b (se_vc (se_op os_ixScr (se_c 0) (se_c 1))) sa_nil)))
   ss_nx)
  (ss_rv (se_op os_i (se_vc (se_op os_ic (se_vc se_int) (se_vc (se_op os_i (se_c 1) (se_vc se_int))))) (se_vc (se_op os_ic (se_vc se_int) (se_vc (se_call0 (ro := false) (sa_v (se_v 0) (sa_v se_int sa_nil)))))))))⟩) (fun _ _ _ h => h) (fun xs Q h => pure__law_given T.ca xs Q noX h)
--@@DEF _law_names
theorem ok__law_names (T : Env K mg) : FnOk P w K mg base CX0 2 T.f__law_names T.d__law_names ["cell", "count"] (spOf K [.v, .v] true (p__law_names T.ca)) :=
  fn_sim (ms := [.v, .v]) (ro := true) (b := w__law_names T.ca) T.F__law_names sc__law_names rfl (fun cdv A outer s H E hr => ⟨_, (pss_cons (ps_set (i := 2) sc__law_names.nd rfl (Or.inl rfl) pe_str)
  (pss_cons (ps_set (i := 3) sc__law_names.nd rfl (Or.inl rfl) (pe_call (ok__law_draws T) hr (by rfl) T.g__law_draws T.F__law_draws.kp T.b__law_draws .nil pass0 (pa_cons (pv 0) (pa_cons (pe_op op_cat (pe_lst (pa_cons pe_int (pa_cons pe_int (pa_cons pe_int pa_nil)))) (pe_op op_rep (pe_lst (pa_cons pe_int (pa_cons pe_int (pa_cons pe_int (pa_cons pe_int pa_nil))))) (pv 1))) pa_nil))))
  (pss_cons (ps_set (i := 4) sc__law_names.nd rfl (Or.inl rfl) (pe_lst pa_nil))
  (pss_cons (ps_for PassesOwn.never rfl (pi_range1 (by rfl) T.n_range (pa_cons (pv 1) pa_nil)) (pg_name (i := 5) sc__law_names.nd rfl (Or.inl rfl))
   (pss_cons (ps_set (i := 6) sc__law_names.nd rfl (Or.inl rfl) (pe_op op_mod (pe_callTy call_int1 (by rfl) T.n_int (by decide +kernel) (pa_cons (pe_op op_add (pe_ix ix_list (pv 3) pe_int (fun _ _ => rfl)) (pe_op op_mulW (pv 5) (pe_op op_add pe_int (pe_op op_fdivW (pe_ix ix_list (pv 3) pe_int (fun _ _ => rfl)) pe_int)))) pa_nil)) pe_int))
   (pss_one (ps_if (PW.pt (pw_and (pt_cmpR op_eq (pe_ix ix_list (pv 3) pe_int (fun _ _ => rfl)) pe_int (nomark _)) (pw_and1 (pt_cmpR op_le (pe_op op_mulW (pv 1) (pe_op op_add pe_int (pe_op op_fdivW (pe_ix ix_list (pv 3) pe_int (fun _ _ => rfl)) pe_int))) pe_int (nomark _)))))
    (pss_one (ps_expr (pe_bm PySem.F.plainAttrs_list PySem.F.slot_list_append PySem.F.type_list_append mt_append (pv 4) (pa_cons (pe_ix ix_str (pv 2) (pv 6) (fun _ _ => rfl)) pa_nil))))
    (pss_cons (ps_set (i := 7) sc__law_names.nd rfl (Or.inl rfl) (pe_op op_mod (pe_callTy call_int1 (by rfl) T.n_int (by decide +kernel) (pa_cons (pe_op op_add (pe_op op_add (pe_op op_mulW pe_int (pe_ix ix_list (pv 3) pe_int (fun _ _ => rfl))) (pe_ix ix_list (pv 3) pe_int (fun _ _ => rfl))) (pe_op op_mulW pe_int (pv 5))) pa_nil)) pe_int))
    (pss_cons (ps_set (i := 8) sc__law_names.nd rfl (Or.inl rfl) (pe_op op_mulW (pe_op op_mulW pe_int (pv 5)) (pe_callTy call_int1 (by rfl) T.n_int (by decide +kernel) (pa_cons (pe_cmpR op_gt (pe_op op_mod (pe_callTy call_int1 (by rfl) T.n_int (by decide +kernel) (pa_cons (pe_ix ix_list (pv 3) pe_int (fun _ _ => rfl)) pa_nil)) pe_int) pe_int (nomark _)) pa_nil))))
    (pss_cons (ps_set (i := 9) sc__law_names.nd rfl (Or.inl rfl) (pe_op op_add_str (pe_op op_add_str (pe_ix ix_str (pv 2) (pe_ix ix_list (pv 3) (pe_op op_add pe_int (pv 8)) (fun _ _ => rfl)) (fun _ _ => rfl)) (pe_ix ix_str (pv 2) (pe_ix ix_list (pv 3) (pe_op op_add pe_int (pv 8)) (fun _ _ => rfl)) (fun _ _ => rfl))) (pe_ix ix_str (pv 2) (pe_ix ix_list (pv 3) (pe_op op_add pe_int (pv 8)) (fun _ _ => rfl)) (fun _ _ => rfl))))
    (pss_cons (ps_set (i := 9) sc__law_names.nd rfl (Or.inl rfl) (pe_slice sl_str (pe_op op_add_str (pv 9) (pv 9)) po_none (po_some (pe_ix ix_list (pv 3) (pe_op op_add pe_int (pv 8)) (fun _ _ => rfl)))))
    (pss_cons (ps_set (i := 10) sc__law_names.nd rfl (Or.inl rfl) (pe_op op_add_str (pe_ix ix_str (pv 2) (pe_op op_fdivW (pv 7) pe_int) (fun _ _ => rfl)) (pe_ix ix_str (pv 2) (pe_op op_mod (pe_callTy call_int1 (by rfl) T.n_int (by decide +kernel) (pa_cons (pv 7) pa_nil)) pe_int) (fun _ _ => rfl))))
    (pss_one (ps_expr (pe_bm PySem.F.plainAttrs_list PySem.F.slot_list_append PySem.F.type_list_append mt_append (pv 4) (pa_cons (pe_ix ix_list (pe_lst (pa_cons (pe_op op_add_str (pv 9) (pv 10)) (pa_cons (pe_op op_add_str (pv 10) (pv 9)) pa_nil))) (pe_op op_mod (pe_callTy call_int1 (by rfl) T.n_int (by decide +kernel) (pa_cons (pe_ix ix_list (pv 3) pe_int (fun _ _ => rfl)) pa_nil)) pe_int) (fun _ _ => rfl)) pa_nil)))))))))))))
  (pss_one (ps_ret (pv 4))))))),
    (ss_seq (ss_av (i := 2) (se_str (sok_by (by decide +kernel))))
  (ss_seq (ss_av (i := 3) (se_ov (se_call0 (ro := true) (sa_v (se_v 0) (sa_b (se_oc (se_op os_cat (se_oc (se_lst (sa_v se_int (sa_v se_int (sa_v se_int sa_nil))))) (se_oc (se_op os_rep (se_oc (se_lst (sa_v se_int (sa_v se_int (sa_v se_int (sa_v se_int sa_nil)))))) (se_c 1))))) sa_nil)))))
  (ss_seq (ss_ao (i := 4) (se_lst sa_nil))
  (ss_seq (ss_for (si_r1 (sa_b (se_c 1) sa_nil)) (sg_n 5)
   (ss_seq (ss_av (i := 6) (se_op os_ic (se_vc (se_cb cs_int1 (sa_b (se_vc (se_op os_i (se_vc (se_op os_ixL (se_c 3) (se_vc se_int))) (se_vc (se_op os_ic (se_c 5) (se_vc (se_op os_i (se_vc se_int) (se_vc (se_op os_ic (se_vc (se_op os_ixL (se_c 3) (se_vc se_int))) (se_vc se_int))))))))) sa_nil))) (se_vc se_int)))
   (ss_if (st_and (st_test (se_vc (se_op os_eq (se_vc (se_op os_ixL (se_c 3) (se_vc se_int))) (se_vc se_int)))) (st_test (se_vc (se_op os_b (se_vc (se_op os_ic (se_c 1) (se_vc (se_op os_i (se_vc se_int) (se_vc (se_op os_ic (se_vc (se_op os_ixL (se_c 3) (se_vc se_int))) (se_vc se_int))))))) (se_vc se_int)))))
    (ss_app (i := 4) (se_op os_ixS (se_c 2) (se_c 6)))
    (ss_seq (ss_av (i := 7) (se_op os_ic (se_vc (se_cb cs_int1 (sa_b (se_vc (se_op os_i (se_vc (se_op os_i (se_vc (se_op os_ic (se_vc se_int) (se_vc (se_op os_ixL (se_c 3) (se_vc se_int))))) (se_vc (se_op os_ixL (se_c 3) (se_vc se_int))))) (se_vc (se_op os_ic (se_vc se_int) (se_c 5))))) sa_nil))) (se_vc se_int)))
    (ss_seq (ss_av (i := 8) (se_op os_ic (se_vc (se_op os_ic (se_vc se_int) (se_c 5))) (se_vc (se_cb cs_int1 (sa_b (se_vc (se_op os_b (se_vc (se_op os_ic (se_vc (se_cb cs_int1 (sa_b (se_vc (se_op os_ixL (se_c 3) (se_vc se_int))) sa_nil))) (se_vc se_int))) (se_vc se_int))) sa_nil)))))
    (ss_seq (ss_av (i := 9) (se_op os_addS (se_vc (se_op os_addS (se_vc (se_op os_ixS (se_c 2) (se_vc (se_op os_ixL (se_c 3) (se_vc (se_op os_i (se_vc se_int) (se_c 8))))))) (se_vc (se_op os_ixS (se_c 2) (se_vc (se_op os_ixL (se_c 3) (se_vc (se_op os_i (se_vc se_int) (se_c 8))))))))) (se_vc (se_op os_ixS (se_c 2) (se_vc (se_op os_ixL (se_c 3) (se_vc (se_op os_i (se_vc se_int) (se_c 8)))))))))
    (ss_seq (ss_av (i := 9) (se_sl ls_str (se_vc (se_op os_addS (se_c 9) (se_c 9))) so_none (so_some (se_vc (se_op os_ixL (se_c 3) (se_vc (se_op os_i (se_vc se_int) (se_c 8))))))))
    (ss_seq (ss_av (i := 10) (se_op os_addS (se_vc (se_op os_ixS (se_c 2) (se_vc (se_op os_ic (se_c 7) (se_vc se_int))))) (se_vc (se_op os_ixS (se_c 2) (se_vc (se_op os_ic (se_vc (se_cb cs_int1 (sa_b (se_c 7) sa_nil))) (se_vc se_int)))))))
    (ss_app (i := 4) (se_op os_ixL (se_oc (se_lst (sa_v (se_op os_addS (se_c 9) (se_c 10)) (sa_v (se_op os_addS (se_c 10) (se_c 9)) sa_nil)))) (se_vc (se_op os_ic (se_vc (se_cb cs_int1 (sa_b (se_vc (se_op os_ixL (se_c 3) (se_vc se_int))) sa_nil))) (se_vc se_int)))))))))))))
  (ss_roV 4)))))⟩) (fun _ _ _ h => h) (fun xs Q h => pure__law_names T.ca xs Q noX h)
--@@DEF _law_wild_log
theorem ok__law_wild_log (T : Env K mg) : FnOk P w K mg base CX0 2 T.f__law_wild_log T.d__law_wild_log ["rows", "cells", "width", "most"] (spOf K [.v, .b, .v, .v] true (p__law_wild_log T.ca)) :=
  fn_sim (ms := [.v, .b, .v, .v]) (ro := true) (b := w__law_wild_log T.ca) T.F__law_wild_log sc__law_wild_log rfl (fun cdv A outer s H E hr => ⟨_, (pss_cons (ps_set (i := 4) sc__law_wild_log.nd rfl (Or.inl rfl) (pe_lst pa_nil))
  (pss_cons (ps_for PassesOwn.never rfl (pi_list (pv 1)) (pg_name (i := 5) sc__law_wild_log.nd rfl (Or.inl rfl))
   (pss_cons (ps_set (i := 6) sc__law_wild_log.nd rfl (Or.inr rfl) (pe_call (ok__law_draws T) hr (by rfl) T.g__law_draws T.F__law_draws.kp T.b__law_draws .nil pass0 (pa_cons (pv 5) (pa_cons (pe_op op_cat (pe_lst (pa_cons pe_int (pa_cons pe_int pa_nil))) (pe_op op_rep (pe_lst (pa_cons pe_int pa_nil)) (pe_callB call_len_seq (by rfl) T.n_len (by decide +kernel) (pa_cons (pv 0) pa_nil)))) pa_nil))))
   (pss_cons (ps_setLcX (i := 7) (own := [("k", 11)]) rfl sc__law_wild_log.nd rfl rfl (sw_true rfl rfl rfl (by decide +kernel)) (pi_range1 (by rfl) T.n_range (pa_cons (pe_callB call_len_seq (by rfl) T.n_len (by decide +kernel) (pa_cons (pv 0) pa_nil)) pa_nil)) (blkOk_by (N := ["rows", "cells", "width", "most", "log", "cell", "drawn", "sources", "source", "under", "picked", "k", "row"]) (sc := defScope s__law_wild_log) (own := [("k", 11)]) (by decide +kernel)) (fun _ _ _ _ _ => (pg_name (i := 11) sc__law_wild_log.nd rfl (Or.inr rfl))) (fun _ _ _ _ _ => (pts_one (pt_cmpR op_gt (pe_callB call_len_seq (by rfl) T.n_len (by decide +kernel) (pa_cons (pe_lcX (own := [("row", 12)]) rfl sc__law_wild_log.nd (pi_list (pv 0)) (blkOk_by (N := ["rows", "cells", "width", "most", "log", "cell", "drawn", "sources", "source", "under", "picked", "k", "row"]) (sc := _) (own := [("row", 12)]) (by rfl)) (fun _ _ _ _ _ => (pg_name (i := 12) sc__law_wild_log.nd rfl (Or.inl rfl))) (fun _ _ _ _ _ => (pts_one (pt_cmpR op_lt (pe_ix ix_tup (pv 12) pe_int (fun _ _ => rfl)) (pe_ix ix_tup (pe_ix ix_list (pv 0) (pv 11) (fun _ _ => rfl)) pe_int (fun _ _ => rfl)) (nomark _)))) (fun _ _ _ _ _ => (pv 12))) pa_nil)) pe_int (nomark _)))) (fun _ _ _ _ _ => (pv 11)))
   (pss_cons (ps_if (PW.pt (pw_or (pt_cmpR op_eq (pe_callB call_len_seq (by rfl) T.n_len (by decide +kernel) (pa_cons (pv 7) pa_nil)) pe_int (nomark _)) (pw_or1 (pt_cmpR op_ge (pe_callB call_len_seq (by rfl) T.n_len (by decide +kernel) (pa_cons (pv 4) pa_nil)) (pv 3) (nomark _)))))
    (pss_one (ps_ret (pv 4)))
    pss_nil)
   (pss_cons (ps_set (i := 8) sc__law_wild_log.nd rfl (Or.inr rfl) (pe_ix ix_list (pv 7) (pe_op op_mod (pe_callTy call_int1 (by rfl) T.n_int (by decide +kernel) (pa_cons (pe_ix ix_list (pv 6) pe_int (fun _ _ => rfl)) pa_nil)) (pe_callB call_len_seq (by rfl) T.n_len (by decide +kernel) (pa_cons (pv 7) pa_nil))) (fun _ _ => rfl)))
   (pss_cons (ps_set (i := 9) sc__law_wild_log.nd rfl (Or.inr rfl) (pe_lcX (own := [("k", 11)]) rfl sc__law_wild_log.nd (pi_range1 (by rfl) T.n_range (pa_cons (pe_callB call_len_seq (by rfl) T.n_len (by decide +kernel) (pa_cons (pv 0) pa_nil)) pa_nil)) (blkOk_by (N := ["rows", "cells", "width", "most", "log", "cell", "drawn", "sources", "source", "under", "picked", "k", "row"]) (sc := defScope s__law_wild_log) (own := [("k", 11)]) (by decide +kernel)) (fun _ _ _ _ _ => (pg_name (i := 11) sc__law_wild_log.nd rfl (Or.inl rfl))) (fun _ _ _ _ _ => (pts_one (pt_cmpR op_lt (pe_ix ix_tup (pe_ix ix_list (pv 0) (pv 11) (fun _ _ => rfl)) pe_int (fun _ _ => rfl)) (pe_ix ix_tup (pe_ix ix_list (pv 0) (pv 8) (fun _ _ => rfl)) pe_int (fun _ _ => rfl)) (nomark _)))) (fun _ _ _ _ _ => (pv 11))))
   (pss_cons (ps_setLcX (i := 10) (own := [("k", 11)]) rfl sc__law_wild_log.nd rfl rfl (sw_true rfl rfl rfl (by decide +kernel)) (pi_range1 (by rfl) T.n_range (pa_cons (pe_callB call_len_seq (by rfl) T.n_len (by decide +kernel) (pa_cons (pv 9) pa_nil)) pa_nil)) (blkOk_by (N := ["rows", "cells", "width", "most", "log", "cell", "drawn", "sources", "source", "under", "picked", "k", "row"]) (sc := defScope s__law_wild_log) (own := [("k", 11)]) (by decide +kernel)) (fun _ _ _ _ _ => (pg_name (i := 11) sc__law_wild_log.nd rfl (Or.inl rfl))) (fun _ _ _ _ _ => (pts_one (pt_cmpR op_eq (pe_ix ix_list (pv 6) (pe_op op_add pe_int (pv 11)) (fun _ _ => rfl)) pe_int (nomark _)))) (fun _ _ _ _ _ => (pe_ix ix_list (pv 9) (pv 11) (fun _ _ => rfl))))
   (pss_cons (ps_set (i := 10) sc__law_wild_log.nd rfl (Or.inl rfl) (pe_slice sl_list (pv 10) po_none (po_some (pe_op op_add pe_int (pe_op op_fdivW (pe_op op_mulW (pe_ix ix_list (pv 6) pe_int (fun _ _ => rfl)) (pe_op op_sub (pv 2) pe_int)) pe_int)))))
   (Evl.pss_cut (ps_if (pt_cmpR op_eq (pe_callB call_len_seq (by rfl) T.n_len (by decide +kernel) (pa_cons (pv 10) pa_nil)) pe_int (nomark _))
    (pss_one (ps_set (i := 10) sc__law_wild_log.nd rfl (Or.inl rfl) (pe_lst (pa_cons (pe_ix ix_list (pv 9) (pe_op op_mod (pe_callTy call_int1 (by rfl) T.n_int (by decide +kernel) (pa_cons (pe_op op_fdivW (pe_ix ix_list (pv 6) pe_int (fun _ _ => rfl)) pe_int) pa_nil)) (pe_callB call_len_seq (by rfl) T.n_len (by decide +kernel) (pa_cons (pv 9) pa_nil))) (fun _ _ => rfl)) pa_nil))))
    pss_nil)
   (pss_cons (ps_expr (pe_bm PySem.F.plainAttrs_list PySem.F.slot_list_append PySem.F.type_list_append mt_append (pv 4) (pa_cons (pe_tup (pa_cons (pv 8) (pa_cons (pe_callTy call_tuple_of (by rfl) T.n_tuple (by decide +kernel) (pa_cons (pv 10) pa_nil)) pa_nil))) pa_nil)))
   (pss_one (ps_set (i := 0) sc__law_wild_log.nd rfl (Or.inr rfl) (pe_call (ok__law_moved T) hr (by rfl) T.g__law_moved T.F__law_moved.kp T.b__law_moved .nil pass0 (pa_cons (pv 0) (pa_cons (pv 8) (pa_cons (pv 10) pa_nil))))))))))))))))
  (pss_one (ps_ret (pv 4))))),
    (ss_seq (ss_ao (i := 4) (se_lst sa_nil))
  (ss_seq (ss_for (si_var 1) (sg_n 5)
   (ss_seq (ss_av (i := 6) (se_ov (se_call0 (ro := true) (sa_v (se_v 5) (sa_b (se_oc (se_op os_cat (se_oc (se_lst (sa_v se_int (sa_v se_int sa_nil)))) (se_oc (se_op os_rep (se_oc (se_lst (sa_v se_int sa_nil))) (se_vc (se_cb cs_len (sa_b (se_c 0) sa_nil))))))) sa_nil)))))
   (ss_seq (ss_av (i := 7) (se_ov (se_lc (SimI.c (si_r1 (sa_b (se_vc (se_cb cs_len (sa_b (se_c 0) sa_nil))) sa_nil))) (sg_all fun _ _ _ _ _ => (sg_n 11)) (st_all fun _ _ _ _ _ => (st_test (se_vc (se_op os_b (se_vc (se_cb cs_len (sa_b (se_oc (se_lc (si_listc (se_c 0)) (sg_all fun _ _ _ _ _ => (sg_n 12)) (st_all fun _ _ _ _ _ => (st_test (se_vc (se_op os_b (se_vc (se_op os_ixT (se_c 12) (se_vc se_int))) (se_vc (se_op os_ixT (se_vc (se_op os_ixL (se_c 0) (se_c 11))) (se_vc se_int))))))) (se_all fun _ _ _ _ _ => (se_v 12)) (by decide))) sa_nil))) (se_vc se_int))))) (se_all fun _ _ _ _ _ => (se_v 11)) (by decide))))
   (ss_seq (ss_if (st_or (st_test (se_vc (se_op os_eq (se_vc (se_cb cs_len (sa_b (se_c 7) sa_nil))) (se_vc se_int)))) (st_test (se_vc (se_op os_b (se_vc (se_cb cs_len (sa_b (se_c 4) sa_nil))) (se_c 3)))))
    (ss_roV 4)
    ss_nx)
   (ss_seq (ss_av (i := 8) (se_op os_ixL (se_c 7) (se_vc (se_op os_ic (se_vc (se_cb cs_int1 (sa_b (se_vc (se_op os_ixL (se_c 6) (se_vc se_int))) sa_nil))) (se_vc (se_cb cs_len (sa_b (se_c 7) sa_nil)))))))
   (ss_seq (ss_av (i := 9) (se_ov (se_lc (SimI.c (si_r1 (sa_b (se_vc (se_cb cs_len (sa_b (se_c 0) sa_nil))) sa_nil))) (sg_all fun _ _ _ _ _ => (sg_n 11)) (st_all fun _ _ _ _ _ => (st_test (se_vc (se_op os_b (se_vc (se_op os_ixT (se_vc (se_op os_ixL (se_c 0) (se_c 11))) (se_vc se_int))) (se_vc (se_op os_ixT (se_vc (se_op os_ixL (se_c 0) (se_c 8))) (se_vc se_int))))))) (se_all fun _ _ _ _ _ => (se_v 11)) (by decide))))
   (ss_seq (ss_av (i := 10) (se_ov (se_lc (SimI.c (si_r1 (sa_b (se_vc (se_cb cs_len (sa_b (se_c 9) sa_nil))) sa_nil))) (sg_all fun _ _ _ _ _ => (sg_n 11)) (st_all fun _ _ _ _ _ => (st_test (se_vc (se_op os_eq (se_vc (se_op os_ixL (se_c 6) (se_vc (se_op os_i (se_vc se_int) (se_c 11))))) (se_vc se_int))))) (se_all fun _ _ _ _ _ => (se_op os_ixL (se_c 9) (se_c 11))) (by decide))))
   (ss_seq (ss_av (i := 10) (se_ov (se_sl ls_list (se_c 10) so_none (so_some (se_vc (se_op os_i (se_vc se_int) (se_vc (se_op os_ic (se_vc (se_op os_ic (se_vc (se_op os_ixL (se_c 6) (se_vc se_int))) (se_vc (se_op os_i (se_c 2) (se_vc se_int))))) (se_vc se_int)))))))))
   (ss_cut (ss_if (st_test (se_vc (se_op os_eq (se_vc (se_cb cs_len (sa_b (se_c 10) sa_nil))) (se_vc se_int))))
    (ss_av (i := 10) (se_ov (se_lst (sa_v (se_op os_ixL (se_c 9) (se_vc (se_op os_ic (se_vc (se_cb cs_int1 (sa_b (se_vc (se_op os_ic (se_vc (se_op os_ixL (se_c 6) (se_vc se_int))) (se_vc se_int))) sa_nil))) (se_vc (se_cb cs_len (sa_b (se_c 9) sa_nil)))))) sa_nil))))
    ss_nx)
   (ss_seq (ss_app (i := 4) (se_tup (sa_v (se_v 8) (sa_v (se_cb cs_tup (sa_b (se_c 10) sa_nil)) sa_nil))))
   (ss_av (i := 0) (se_ov (se_call0 (ro := true) (sa_b (se_c 0) (sa_v (se_v 8) (sa_b (se_c 10) sa_nil))))))))))))))))
  (ss_roV 4)))⟩) (fun _ _ _ h => h) (fun xs Q h => pure__law_wild_log T.ca xs Q noX h)
--@@DEF _law_finished
theorem ok__law_finished (T : Env K mg) : FnOk P w K mg base CX0 2 T.f__law_finished T.d__law_finished ["rows", "log", "pick"] (spOf K [.v, .b, .v] true (p__law_finished T.ca)) :=
  fn_sim (ms := [.v, .b, .v]) (ro := true) (b := w__law_finished T.ca) T.F__law_finished sc__law_finished rfl (fun cdv A outer s H E hr => ⟨_, (pss_cons (ps_set (i := 3) sc__law_finished.nd rfl (Or.inl rfl) (pe_callTy call_list_of (by rfl) T.n_list (by decide +kernel) (pa_cons (pv 1) pa_nil)))
  (pss_cons (ps_for PassesOwn.never rfl (pi_range1 (by rfl) T.n_range (pa_cons pe_int pa_nil)) (pg_name (i := 4) sc__law_finished.nd rfl (Or.inl rfl))
   (pss_cons (ps_set (i := 5) sc__law_finished.nd rfl (Or.inr rfl) (pe_callB (cr_max rfl) (by rfl) T.n_max (by decide +kernel) (pa_cons (pe_lcX (own := [("row", 9)]) rfl sc__law_finished.nd (pi_list (pv 0)) (blkOk_by (N := ["rows", "log", "pick", "done", "k", "top", "under", "source", "target", "row", "j"]) (sc := defScope s__law_finished) (own := [("row", 9)]) (by decide +kernel)) (fun _ _ _ _ _ => (pg_name (i := 9) sc__law_finished.nd rfl (Or.inl rfl))) (fun _ _ _ _ _ => pts_nil) (fun _ _ _ _ _ => (pe_ix ix_tup (pv 9) pe_int (fun _ _ => rfl)))) pa_nil)))
   (pss_cons (ps_setLcX (i := 6) (own := [("j", 10)]) rfl sc__law_finished.nd rfl rfl (sw_true rfl rfl rfl (by decide +kernel)) (pi_range1 (by rfl) T.n_range (pa_cons (pe_callB call_len_seq (by rfl) T.n_len (by decide +kernel) (pa_cons (pv 0) pa_nil)) pa_nil)) (blkOk_by (N := ["rows", "log", "pick", "done", "k", "top", "under", "source", "target", "row", "j"]) (sc := defScope s__law_finished) (own := [("j", 10)]) (by decide +kernel)) (fun _ _ _ _ _ => (pg_name (i := 10) sc__law_finished.nd rfl (Or.inl rfl))) (fun _ _ _ _ _ => (pts_one (pt_cmpR op_lt (pe_ix ix_tup (pe_ix ix_list (pv 0) (pv 10) (fun _ _ => rfl)) pe_int (fun _ _ => rfl)) (pv 5) (nomark _)))) (fun _ _ _ _ _ => (pv 10)))
   (pss_cons (ps_if (pt_cmpR op_eq (pe_callB call_len_seq (by rfl) T.n_len (by decide +kernel) (pa_cons (pv 6) pa_nil)) pe_int (nomark _))
    (pss_one (ps_ret (pv 3)))
    pss_nil)
   (pss_cons (ps_set (i := 7) sc__law_finished.nd rfl (Or.inl rfl) (pe_ix ix_list (pe_lcX (own := [("j", 10)]) rfl sc__law_finished.nd (pi_range1 (by rfl) T.n_range (pa_cons (pe_callB call_len_seq (by rfl) T.n_len (by decide +kernel) (pa_cons (pv 0) pa_nil)) pa_nil)) (blkOk_by (N := ["rows", "log", "pick", "done", "k", "top", "under", "source", "target", "row", "j"]) (sc := defScope s__law_finished) (own := [("j", 10)]) (by decide +kernel)) (fun _ _ _ _ _ => (pg_name (i := 10) sc__law_finished.nd rfl (Or.inl rfl))) (fun _ _ _ _ _ => (pts_one (pt_cmpR op_eq (pe_ix ix_tup (pe_ix ix_list (pv 0) (pv 10) (fun _ _ => rfl)) pe_int (fun _ _ => rfl)) (pv 5) (nomark _)))) (fun _ _ _ _ _ => (pv 10))) pe_int (fun _ _ => rfl)))
   (pss_cons (ps_set (i := 8) sc__law_finished.nd rfl (Or.inl rfl) (pe_ix ix_list (pv 6) (pe_op op_mod (pe_callTy call_int1 (by rfl) T.n_int (by decide +kernel) (pa_cons (pe_op op_add (pv 2) (pe_op op_mulW pe_int (pv 4))) pa_nil)) (pe_callB call_len_seq (by rfl) T.n_len (by decide +kernel) (pa_cons (pv 6) pa_nil))) (fun _ _ => rfl)))
   (pss_cons (ps_expr (pe_bm PySem.F.plainAttrs_list PySem.F.slot_list_append PySem.F.type_list_append mt_append (pv 3) (pa_cons (pe_tup (pa_cons (pv 7) (pa_cons (pe_tup (pa_cons (pv 8) pa_nil)) pa_nil))) pa_nil)))
   (pss_one (ps_set (i := 0) sc__law_finished.nd rfl (Or.inr rfl) (pe_call (ok__law_moved T) hr (by rfl) T.g__law_moved T.F__law_moved.kp T.b__law_moved .nil pass0 (pa_cons (pv 0) (pa_cons (pv 7) (pa_cons (pe_lst (pa_cons (pv 8) pa_nil)) pa_nil)))))))))))))
  (pss_one (ps_ret (pv 3))))),
    (ss_seq (ss_ao (i := 3) (se_cb cs_list (sa_b (se_c 1) sa_nil)))
  (ss_seq (ss_for (si_r1 (sa_b (se_vc se_int) sa_nil)) (sg_n 4)
   (ss_seq (ss_av (i := 5) (se_cb cs_max (sa_b (se_oc (se_lc (si_listc (se_c 0)) (sg_all fun _ _ _ _ _ => (sg_n 9)) (st_all fun _ _ _ _ _ => st_yes) (se_all fun _ _ _ _ _ => (se_op os_ixT (se_c 9) (se_vc se_int))) (by decide))) sa_nil)))
   (ss_seq (ss_av (i := 6) (se_ov (se_lc (SimI.c (si_r1 (sa_b (se_vc (se_cb cs_len (sa_b (se_c 0) sa_nil))) sa_nil))) (sg_all fun _ _ _ _ _ => (sg_n 10)) (st_all fun _ _ _ _ _ => (st_test (se_vc (se_op os_b (se_vc (se_op os_ixT (se_vc (se_op os_ixL (se_c 0) (se_c 10))) (se_vc se_int))) (se_c 5))))) (se_all fun _ _ _ _ _ => (se_v 10)) (by decide))))
   (ss_seq (ss_if (st_test (se_vc (se_op os_eq (se_vc (se_cb cs_len (sa_b (se_c 6) sa_nil))) (se_vc se_int))))
    (ss_roV 3)
    ss_nx)
   (ss_seq (ss_av (i := 7) (se_op os_ixL (se_oc (se_lc (SimI.c (si_r1 (sa_b (se_vc (se_cb cs_len (sa_b (se_c 0) sa_nil))) sa_nil))) (sg_all fun _ _ _ _ _ => (sg_n 10)) (st_all fun _ _ _ _ _ => (st_test (se_vc (se_op os_eq (se_vc (se_op os_ixT (se_vc (se_op os_ixL (se_c 0) (se_c 10))) (se_vc se_int))) (se_c 5))))) (se_all fun _ _ _ _ _ => (se_v 10)) (by decide))) (se_vc se_int)))
   (ss_seq (ss_av (i := 8) (se_op os_ixL (se_c 6) (se_vc (se_op os_ic (se_vc (se_cb cs_int1 (sa_b (se_vc (se_op os_i (se_c 2) (se_vc (se_op os_ic (se_vc se_int) (se_c 4))))) sa_nil))) (se_vc (se_cb cs_len (sa_b (se_c 6) sa_nil)))))))
   (ss_seq (ss_app (i := 3) (se_tup (sa_v (se_v 7) (sa_v (se_tup (sa_v (se_v 8) sa_nil)) sa_nil))))
   (ss_av (i := 0) (se_ov (se_call0 (ro := true) (sa_b (se_c 0) (sa_v (se_v 7) (sa_b (se_oc (se_lst (sa_v (se_v 8) sa_nil))) sa_nil)))))))))))))
  (ss_roV 3)))⟩) (fun _ _ _ h => h) (fun xs Q h => pure__law_finished T.ca xs Q noX h)
--@@DEF _law_walk
theorem ok__law_walk (T : Env K mg) : FnOk P w K mg base CX0 2 T.f__law_walk T.d__law_walk ["rows", "log"] (spOf K [.v, .b] true (p__law_walk T.ca)) :=
  fn_sim (ms := [.v, .b]) (ro := true) (b := w__law_walk T.ca) T.F__law_walk sc__law_walk rfl (fun cdv A outer s H E hr => ⟨_, (pss_cons (ps_set (i := 2) sc__law_walk.nd rfl (Or.inl rfl) (pe_lst (pa_cons (pv 0) pa_nil)))
  (pss_cons (ps_for PassesOwn.never rfl (pi_list (pv 1)) (pg_name (i := 3) sc__law_walk.nd rfl (Or.inl rfl))
   (pss_cons (ps_set (i := 0) sc__law_walk.nd rfl (Or.inl rfl) (pe_call (ok__law_moved T) hr (by rfl) T.g__law_moved T.F__law_moved.kp T.b__law_moved .nil pass0 (pa_cons (pv 0) (pa_cons (pe_ix ix_tup (pv 3) pe_int (fun _ _ => rfl)) (pa_cons (pe_ix ix_tup (pv 3) pe_int (fun _ _ => rfl)) pa_nil)))))
   (pss_one (ps_expr (pe_bm PySem.F.plainAttrs_list PySem.F.slot_list_append PySem.F.type_list_append mt_append (pv 2) (pa_cons (pv 0) pa_nil))))))
  (pss_one (ps_ret (pv 2))))),
    (ss_seq (ss_ao (i := 2) (se_lst (sa_v (se_v 0) sa_nil)))
  (ss_seq (ss_for (si_var 1) (sg_n 3)
   (ss_seq (ss_av (i := 0) (se_ov (se_call0 (ro := true) (sa_b (se_c 0) (sa_v (se_op os_ixT (se_c 3) (se_vc se_int)) (sa_b (se_vc (se_op os_ixT (se_c 3) (se_vc se_int))) sa_nil))))))
   (ss_app (i := 2) (se_v 0))))
  (ss_roV 2)))⟩) (fun _ _ _ h => h) (fun xs Q h => pure__law_walk T.ca xs Q noX h)
--@@DEF _law_lessened
theorem ok__law_lessened (T : Env K mg) : FnOk P w K mg base CX0 2 T.f__law_lessened T.d__law_lessened ["shares", "cell"] (spOf K [.b, .v] true (p__law_lessened T.ca)) :=
  fn_sim (ms := [.b, .v]) (ro := true) (b := w__law_lessened T.ca) T.F__law_lessened sc__law_lessened rfl (fun cdv A outer s H E hr => ⟨_, (pss_cons (ps_set (i := 2) sc__law_lessened.nd rfl (Or.inl rfl) (pe_callB cr_sortedS (by rfl) T.n_sorted (by decide +kernel) (pa_cons (pe_callTy (call_listD rfl) (by rfl) T.n_list (by decide +kernel) (pa_cons (pv 0) pa_nil)) pa_nil)))
  (pss_cons (ps_set (i := 3) sc__law_lessened.nd rfl (Or.inl rfl) (pe_call (ok__law_draws T) hr (by rfl) T.g__law_draws T.F__law_draws.kp T.b__law_draws .nil pass0 (pa_cons (pv 1) (pa_cons (pe_op op_cat (pe_lst (pa_cons pe_int pa_nil)) (pe_op op_rep (pe_lst (pa_cons pe_int (pa_cons pe_int pa_nil))) (pe_callB call_len_seq (by rfl) T.n_len (by decide +kernel) (pa_cons (pv 2) pa_nil)))) pa_nil))))
  (pss_cons (ps_set (i := 4) sc__law_lessened.nd rfl (Or.inl rfl) pe_dnewK)
  (pss_cons (ps_for PassesOwn.never rfl (pi_range1 (by rfl) T.n_range (pa_cons (pe_callB call_len_seq (by rfl) T.n_len (by decide +kernel) (pa_cons (pv 2) pa_nil)) pa_nil)) (pg_name (i := 5) sc__law_lessened.nd rfl (Or.inl rfl))
   (pss_one (ps_if (pt_cmpR op_eq (pe_ix ix_list (pv 3) (pe_op op_add pe_int (pe_op op_mulW pe_int (pv 5))) (fun _ _ => rfl)) pe_int (nomark _))
    (pss_one (ps_dput (hu_of hr) (pv 4) (pe_ix ix_list (pv 2) (pv 5) (fun _ _ => rfl)) (pe_dget (hu_of hr) (pv 0) (pe_ix ix_list (pv 2) (pv 5) (fun _ _ => rfl)) (fun _ _ => rfl)) rfl))
    (pss_one (ps_if (PW.pt (pw_or (pt_cmpR op_lt (pe_ix ix_list (pv 3) (pe_op op_add pe_int (pe_op op_mulW pe_int (pv 5))) (fun _ _ => rfl)) pe_int (nomark _)) (pw_or1 (pt_cmpR op_eq (pe_ix ix_list (pv 3) pe_int (fun _ _ => rfl)) pe_int (nomark _)))))
     (pss_one (ps_dput (hu_of hr) (pv 4) (pe_ix ix_list (pv 2) (pv 5) (fun _ _ => rfl)) (pe_op op_mod (pe_callTy call_int1 (by rfl) T.n_int (by decide +kernel) (pa_cons (pe_ix ix_list (pv 3) (pe_op op_add pe_int (pe_op op_mulW pe_int (pv 5))) (fun _ _ => rfl)) pa_nil)) (pe_op op_add (pe_dget (hu_of hr) (pv 0) (pe_ix ix_list (pv 2) (pv 5) (fun _ _ => rfl)) (fun _ _ => rfl)) pe_int)) rfl))
     pss_nil)))))
  (pss_one (ps_ret (pv 4))))))),
    (ss_seq (ss_av (i := 2) (se_ov (se_cb cs_sortS (sa_b (se_oc (se_cb cs_listD (sa_b (se_c 0) sa_nil))) sa_nil))))
  (ss_seq (ss_av (i := 3) (se_ov (se_call0 (ro := true) (sa_v (se_v 1) (sa_b (se_oc (se_op os_cat (se_oc (se_lst (sa_v se_int sa_nil))) (se_oc (se_op os_rep (se_oc (se_lst (sa_v se_int (sa_v se_int sa_nil)))) (se_vc (se_cb cs_len (sa_b (se_c 2) sa_nil))))))) sa_nil)))))
  (ss_seq (ss_ao (i := 4) se_dnew)
  (ss_seq (ss_for (si_r1 (sa_b (se_vc (se_cb cs_len (sa_b (se_c 2) sa_nil))) sa_nil)) (sg_n 5)
   (ss_if (st_test (se_vc (se_op os_eq (se_vc (se_op os_ixL (se_c 3) (se_vc (se_op os_i (se_vc se_int) (se_vc (se_op os_ic (se_vc se_int) (se_c 5))))))) (se_vc se_int))))
    (ss_dput (i := 4) (se_dget (se_c 0) (se_vc (se_op os_ixL (se_c 2) (se_c 5)))) (se_vc (se_op os_ixL (se_c 2) (se_c 5))))
    (ss_if (st_or (st_test (se_vc (se_op os_b (se_vc (se_op os_ixL (se_c 3) (se_vc (se_op os_i (se_vc se_int) (se_vc (se_op os_ic (se_vc se_int) (se_c 5))))))) (se_vc se_int)))) (st_test (se_vc (se_op os_eq (se_vc (se_op os_ixL (se_c 3) (se_vc se_int))) (se_vc se_int)))))
     (ss_dput (i := 4) (se_op os_ic (se_vc (se_cb cs_int1 (sa_b (se_vc (se_op os_ixL (se_c 3) (se_vc (se_op os_i (se_vc se_int) (se_vc (se_op os_ic (se_vc se_int) (se_c 5))))))) sa_nil))) (se_vc (se_op os_i (se_vc (se_dget (se_c 0) (se_vc (se_op os_ixL (se_c 2) (se_c 5))))) (se_vc se_int)))) (se_vc (se_op os_ixL (se_c 2) (se_c 5))))
     ss_nx)))
  (ss_roV 4)))))⟩) (fun _ _ _ h => h) (fun xs Q h => pure__law_lessened T.ca xs Q noX h)
--@@DEF check_demands
theorem ok_check_demands (T : Env K mg) : FnOk P w K mg base (L2N.CX P w) 3 T.f_check_demands T.d_check_demands ["demands"] (spOf K [.b] false (p_check_demands T.ca)) :=
  fn_simXN (ms := [.b]) (ro := false) (b := w_check_demands T.ca) T.F_check_demands sc_check_demands rfl (fun cdv A outer s H E hr => ⟨_, (pss_one (ps_for (passes_of rfl) rfl (pi_list (pe_callB (call_sortedD rfl) (by rfl) T.n_sorted (by decide +kernel) (pa_cons (pv 0) pa_nil))) (pg_name (i := 1) sc_check_demands.nd rfl (Or.inl rfl))
   (pss_one (ps_if (pt_cmpR op_lt (pe_dget (hu_of hr) (pv 0) (pv 1) (fun _ _ => rfl)) pe_int (nomark _))
    (pss_one (L2N.ps_raise rfl (L2N.takes_of rfl rfl rfl rfl) (pmk_oexN T.ox_InvalidDemands T.iC_InvalidDemands T.tI_InvalidDemands (ok_InvalidDemands___init__ T) hr T.b_InvalidDemands___init__ .nil pass0 (by rfl) T.g_InvalidDemands (pa_cons (pv 1) pa_nil))))
    pss_nil)))),
    (ss_for (si_list (se_ov (se_cb cs_sortD (sa_b (se_c 0) sa_nil)))) (sg_n 1)
   (ss_if (st_test (se_vc (se_op os_b (se_vc (se_dget (se_c 0) (se_c 1))) (se_vc se_int))))
    (ss_raise1 (sa_v (se_v 1) sa_nil))
    ss_nx))⟩) (fun xs Q X h => pure_check_demands T.ca xs Q X h)
--@@DEF _cap_up_to
theorem ok__cap_up_to (T : Env K mg) : FnOk P w K mg base CX0 3 T.f__cap_up_to T.d__cap_up_to ["sharpness", "end", "most", "breadth"] (spOf K [.v, .v, .v, .v] false (p__cap_up_to T.ca)) :=
  fn_sim (ms := [.v, .v, .v, .v]) (ro := false) (b := w__cap_up_to T.ca) T.F__cap_up_to sc__cap_up_to rfl (fun cdv A outer s H E hr => ⟨_, (pss_one (ps_ret (pe_callN (ok_cap T) hr (by rfl) T.g_cap T.F_cap.kp T.kb_cap pass0 (pa_cons (pe_callB (call_min2 rfl) (by rfl) T.n_min (by decide +kernel) (pa_cons (pv 0) (pa_cons (pe_op op_add (pv 1) (pv 2)) pa_nil))) (pa_cons (pv 1) pa_nil)) (pk_cons (pv 3) pk_nil)))),
    (ss_rv (se_callN0 (ro := false) (ms := [.v, .v]) (mk := [.v]) (sa_v (se_cb cs_mm (sa_b (se_c 0) (sa_b (se_vc (se_op os_i (se_c 1) (se_c 2))) sa_nil))) (sa_v (se_v 1) sa_nil)) (sa_v (se_v 3) sa_nil) rfl rfl))⟩) (fun _ _ _ h => h) (fun xs Q h => pure__cap_up_to T.ca xs Q noX h)
--@@DEF _law_sheets
theorem ok__law_sheets (T : Env K mg) : FnOk P w K mg base CX0 3 T.f__law_sheets T.d__law_sheets ["script", "small", "wide", "large", "more", "tall", "hand", "kind"] (spOf K [.v, .v, .v, .v, .v, .v, .v, .v] false (p__law_sheets T.ca)) :=
  fn_sim (ms := [.v, .v, .v, .v, .v, .v, .v, .v]) (ro := false) (b := w__law_sheets T.ca) T.F__law_sheets sc__law_sheets rfl (fun cdv A outer s H E hr => ⟨_, (pss_cons (ps_set (i := 8) sc__law_sheets.nd rfl (Or.inr rfl) (pe_call (ok__law_draws T) (hr.mono (show 1 ≤ 2 by decide)) (by rfl) T.g__law_draws T.F__law_draws.kp T.b__law_draws .nil pass0 (pa_cons (pe_call (ok__law_given T) hr (by rfl) T.g__law_given T.F__law_given.kp T.b__law_given .nil pass0 (pa_cons (pv 0) (pa_cons pe_int pa_nil))) (pa_cons (pe_lst (pa_cons pe_int (pa_cons pe_int (pa_cons pe_int (pa_cons pe_int (pa_cons (pv 1) (pa_cons (pe_op op_sub (pv 2) pe_int) (pa_cons (pv 4) (pa_cons (pv 5) (pa_cons pe_int (pa_cons pe_int (pa_cons pe_int (pa_cons pe_int (pa_cons (pv 6) pa_nil)))))))))))))) pa_nil))))
  (pss_cons (ps_set (i := 9) sc__law_sheets.nd rfl (Or.inr rfl) (pe_op op_add pe_int (pe_ix ix_list (pv 8) pe_int (fun _ _ => rfl))))
  (pss_cons (ps_set (i := 10) sc__law_sheets.nd rfl (Or.inl rfl) (pe_op op_add pe_int (pe_ix ix_list (pv 8) pe_int (fun _ _ => rfl))))
  (Evl.pss_cut (ps_if (pt_cmpR op_eq (pe_ix ix_list (pv 8) pe_int (fun _ _ => rfl)) pe_int (nomark _))
   (pss_cons (ps_set (i := 9) sc__law_sheets.nd rfl (Or.inr rfl) (pe_op op_add (pv 3) (pe_ix ix_list (pv 8) pe_int (fun _ _ => rfl))))
   (pss_one (ps_set (i := 10) sc__law_sheets.nd rfl (Or.inl rfl) (pe_op op_add pe_int (pe_ix ix_list (pv 8) pe_int (fun _ _ => rfl))))))
   pss_nil)
  (pss_cons (ps_set (i := 11) sc__law_sheets.nd rfl (Or.inl rfl) pe_int)
  (Evl.pss_cut (ps_if (pt_cmpR op_eq (pe_ix ix_list (pv 8) pe_int (fun _ _ => rfl)) pe_int (nomark _))
   (pss_cons (ps_set (i := 11) sc__law_sheets.nd rfl (Or.inl rfl) (pe_ix ix_list (pv 8) pe_int (fun _ _ => rfl)))
   (pss_one (ps_set (i := 9) sc__law_sheets.nd rfl (Or.inr rfl) (pe_op op_add pe_int (pe_ix ix_list (pv 8) pe_int (fun _ _ => rfl))))))
   pss_nil)
  (Evl.pss_cut (ps_if (pt_cmpR op_eq (pv 11) pe_int (nomark _))
   (pss_one (ps_set (i := 9) sc__law_sheets.nd rfl (Or.inr rfl) pe_int))
   pss_nil)
  (pss_cons (ps_set (i := 12) sc__law_sheets.nd rfl (Or.inr rfl) (pe_call (ok__law_draws T) (hr.mono (show 1 ≤ 2 by decide)) (by rfl) T.g__law_draws T.F__law_draws.kp T.b__law_draws .nil pass0 (pa_cons (pe_call (ok__law_given T) hr (by rfl) T.g__law_given T.F__law_given.kp T.b__law_given .nil pass0 (pa_cons (pv 0) (pa_cons pe_int pa_nil))) (pa_cons (pe_op op_rep (pe_lst (pa_cons (pv 10) (pa_cons pe_int (pa_cons pe_int pa_nil)))) (pv 9)) pa_nil))))
  (pss_cons (ps_set (i := 13) sc__law_sheets.nd rfl (Or.inr rfl) (pe_lcX (own := [("k", 18)]) rfl sc__law_sheets.nd (pi_range1 (by rfl) T.n_range (pa_cons (pv 9) pa_nil)) (blkOk_by (N := ["script", "small", "wide", "large", "more", "tall", "hand", "kind", "drawn", "count", "spread", "shape", "cells", "levels", "base", "names", "picks", "pool", "k"]) (sc := defScope s__law_sheets) (own := [("k", 18)]) (by decide +kernel)) (fun _ _ _ _ _ => (pg_name (i := 18) sc__law_sheets.nd rfl (Or.inl rfl))) (fun _ _ _ _ _ => pts_nil) (fun _ _ _ _ _ => (pe_ix ix_list (pv 12) (pe_op op_mulW pe_int (pv 18)) (fun _ _ => rfl)))))
  (Evl.pss_cut (ps_if (pt_cmpR op_lt (pv 11) pe_int (nomark _))
   (pss_one (ps_set (i := 13) sc__law_sheets.nd rfl (Or.inr rfl) (pe_op op_rep (pe_lst (pa_cons pe_int pa_nil)) (pv 9))))
   pss_nil)
  (Evl.pss_cut (ps_if (pt_cmpR op_eq (pv 11) pe_int (nomark _))
   (pss_one (ps_set (i := 13) sc__law_sheets.nd rfl (Or.inr rfl) (pe_lcX (own := [("k", 18)]) rfl sc__law_sheets.nd (pi_range1 (by rfl) T.n_range (pa_cons (pv 9) pa_nil)) (blkOk_by (N := ["script", "small", "wide", "large", "more", "tall", "hand", "kind", "drawn", "count", "spread", "shape", "cells", "levels", "base", "names", "picks", "pool", "k"]) (sc := defScope s__law_sheets) (own := [("k", 18)]) (by decide +kernel)) (fun _ _ _ _ _ => (pg_name (i := 18) sc__law_sheets.nd rfl (Or.inl rfl))) (fun _ _ _ _ _ => pts_nil) (fun _ _ _ _ _ => (pe_op op_mulW (pe_op op_add pe_int (pe_ix ix_list (pv 8) pe_int (fun _ _ => rfl))) (pe_ix ix_list (pv 12) (pe_op op_add (pe_op op_mulW pe_int (pv 18)) pe_int) (fun _ _ => rfl)))))))
   pss_nil)
  (Evl.pss_cut (ps_if (pt_cmpR op_eq (pv 11) pe_int (nomark _))
   (pss_one (ps_set (i := 13) sc__law_sheets.nd rfl (Or.inr rfl) (pe_lcX (own := [("k", 18)]) rfl sc__law_sheets.nd (pi_range1 (by rfl) T.n_range (pa_cons (pv 9) pa_nil)) (blkOk_by (N := ["script", "small", "wide", "large", "more", "tall", "hand", "kind", "drawn", "count", "spread", "shape", "cells", "levels", "base", "names", "picks", "pool", "k"]) (sc := defScope s__law_sheets) (own := [("k", 18)]) (by decide +kernel)) (fun _ _ _ _ _ => (pg_name (i := 18) sc__law_sheets.nd rfl (Or.inl rfl))) (fun _ _ _ _ _ => pts_nil) (fun _ _ _ _ _ => (pe_op op_mod (pe_callTy call_int1 (by rfl) T.n_int (by decide +kernel) (pa_cons (pe_op op_add (pv 18) (pe_ix ix_list (pv 8) pe_int (fun _ _ => rfl))) pa_nil)) (pv 9))))))
   pss_nil)
  (pss_cons (ps_set (i := 14) sc__law_sheets.nd rfl (Or.inr rfl) (pe_op op_sub (pe_ix ix_list (pv 8) pe_int (fun _ _ => rfl)) pe_int))
  (Evl.pss_cut (ps_if (pt_cmpR op_eq (pe_ix ix_list (pv 8) pe_int (fun _ _ => rfl)) pe_int (nomark _))
   (pss_one (ps_set (i := 14) sc__law_sheets.nd rfl (Or.inr rfl) (pe_op op_sub pe_int (pe_op op_mulW pe_int (pe_op op_fdivW (pe_ix ix_list (pv 8) pe_int (fun _ _ => rfl)) pe_int)))))
   pss_nil)
  (pss_cons (ps_set (i := 15) sc__law_sheets.nd rfl (Or.inr rfl) (pe_call (ok__law_names T) hr (by rfl) T.g__law_names T.F__law_names.kp T.b__law_names .nil pass0 (pa_cons (pe_call (ok__law_given T) hr (by rfl) T.g__law_given T.F__law_given.kp T.b__law_given .nil pass0 (pa_cons (pv 0) (pa_cons pe_int pa_nil))) (pa_cons (pe_op op_add (pv 9) pe_int) pa_nil))))
  (pss_cons (ps_set (i := 16) sc__law_sheets.nd rfl (Or.inr rfl) (pe_listRg rfl (by rfl) T.n_list (prg_1 (by rfl) T.n_range (pv 9))))
  (Evl.pss_cut (ps_if (PW.pt (pw_or (pt_cmpR op_eq (pv 7) pe_int (nomark _)) (pw_or1 (PW.pt (pw_and (pt_cmpR op_eq (pv 7) pe_int (nomark _)) (pw_and1 (pt_cmpR op_eq (pe_ix ix_list (pv 8) pe_int (fun _ _ => rfl)) pe_int (nomark _))))))))
   (pss_cons (ps_set (i := 17) sc__law_sheets.nd rfl (Or.inr rfl) (pe_op op_add pe_int (pe_op op_mod (pe_callTy call_int1 (by rfl) T.n_int (by decide +kernel) (pa_cons (pe_ix ix_list (pv 8) pe_int (fun _ _ => rfl)) pa_nil)) (pv 9))))
   (pss_one (ps_set (i := 16) sc__law_sheets.nd rfl (Or.inr rfl) (pe_lcX (own := [("k", 18)]) rfl sc__law_sheets.nd (pi_range1 (by rfl) T.n_range (pa_cons (pv 9) pa_nil)) (blkOk_by (N := ["script", "small", "wide", "large", "more", "tall", "hand", "kind", "drawn", "count", "spread", "shape", "cells", "levels", "base", "names", "picks", "pool", "k"]) (sc := defScope s__law_sheets) (own := [("k", 18)]) (by decide +kernel)) (fun _ _ _ _ _ => (pg_name (i := 18) sc__law_sheets.nd rfl (Or.inl rfl))) (fun _ _ _ _ _ => pts_nil) (fun _ _ _ _ _ => (pe_op op_mod (pe_callTy call_int1 (by rfl) T.n_int (by decide +kernel) (pa_cons (pe_ix ix_list (pv 12) (pe_op op_add (pe_op op_mulW pe_int (pv 18)) pe_int) (fun _ _ => rfl)) pa_nil)) (pv 17)))))))
   pss_nil)
  (Evl.pss_cut (ps_if (PW.pt (pw_and (pt_cmpR op_eq (pv 7) pe_int (nomark _)) (pw_and1 (pt_cmpR op_eq (pe_ix ix_list (pv 8) pe_int (fun _ _ => rfl)) pe_int (nomark _)))))
   (pss_cons (ps_set (i := 17) sc__law_sheets.nd rfl (Or.inr rfl) (pe_op op_add pe_int (pe_op op_mod (pe_callTy call_int1 (by rfl) T.n_int (by decide +kernel) (pa_cons (pe_ix ix_list (pv 8) pe_int (fun _ _ => rfl)) pa_nil)) (pe_callB (call_min2 rfl) (by rfl) T.n_min (by decide +kernel) (pa_cons (pv 9) (pa_cons pe_int pa_nil))))))
   (pss_one (ps_set (i := 16) sc__law_sheets.nd rfl (Or.inr rfl) (pe_lcX (own := [("k", 18)]) rfl sc__law_sheets.nd (pi_range1 (by rfl) T.n_range (pa_cons (pv 9) pa_nil)) (blkOk_by (N := ["script", "small", "wide", "large", "more", "tall", "hand", "kind", "drawn", "count", "spread", "shape", "cells", "levels", "base", "names", "picks", "pool", "k"]) (sc := defScope s__law_sheets) (own := [("k", 18)]) (by decide +kernel)) (fun _ _ _ _ _ => (pg_name (i := 18) sc__law_sheets.nd rfl (Or.inl rfl))) (fun _ _ _ _ _ => pts_nil) (fun _ _ _ _ _ => (pe_op op_mod (pe_callTy call_int1 (by rfl) T.n_int (by decide +kernel) (pa_cons (pe_ix ix_list (pv 12) (pe_op op_add (pe_op op_mulW pe_int (pv 18)) pe_int) (fun _ _ => rfl)) pa_nil)) (pv 17)))))))
   pss_nil)
  (pss_one (ps_ret (pe_tup (pa_cons (pe_lcX (own := [("k", 18)]) rfl sc__law_sheets.nd (pi_range1 (by rfl) T.n_range (pa_cons (pv 9) pa_nil)) (blkOk_by (N := ["script", "small", "wide", "large", "more", "tall", "hand", "kind", "drawn", "count", "spread", "shape", "cells", "levels", "base", "names", "picks", "pool", "k"]) (sc := defScope s__law_sheets) (own := [("k", 18)]) (by decide +kernel)) (fun _ _ _ _ _ => (pg_name (i := 18) sc__law_sheets.nd rfl (Or.inl rfl))) (fun _ _ _ _ _ => pts_nil) (fun _ _ _ _ _ => (pe_tup (pa_cons (pe_op op_add (pv 14) (pe_ix ix_list (pv 13) (pv 18) (fun _ _ => rfl))) (pa_cons (pe_ix ix_list (pv 15) (pe_ix ix_list (pv 16) (pv 18) (fun _ _ => rfl)) (fun _ _ => rfl)) pa_nil))))) (pa_cons (pv 15) pa_nil))))))))))))))))))))))),
    (ss_seq (ss_av (i := 8) (se_ov (se_call0 (ro := true) (sa_v (se_call0 (ro := false) (sa_v (se_v 0) (sa_v se_int sa_nil))) (sa_b (se_oc (se_lst (sa_v se_int (sa_v se_int (sa_v se_int (sa_v se_int (sa_v (se_v 1) (sa_v (se_op os_i (se_c 2) (se_vc se_int)) (sa_v (se_v 4) (sa_v (se_v 5) (sa_v se_int (sa_v se_int (sa_v se_int (sa_v se_int (sa_v (se_v 6) sa_nil))))))))))))))) sa_nil)))))
  (ss_seq (ss_av (i := 9) (se_op os_i (se_vc se_int) (se_vc (se_op os_ixL (se_c 8) (se_vc se_int)))))
  (ss_seq (ss_av (i := 10) (se_op os_i (se_vc se_int) (se_vc (se_op os_ixL (se_c 8) (se_vc se_int)))))
  (ss_cut (ss_if (st_test (se_vc (se_op os_eq (se_vc (se_op os_ixL (se_c 8) (se_vc se_int))) (se_vc se_int))))
   (ss_seq (ss_av (i := 9) (se_op os_i (se_c 3) (se_vc (se_op os_ixL (se_c 8) (se_vc se_int)))))
   (ss_av (i := 10) (se_op os_i (se_vc se_int) (se_vc (se_op os_ixL (se_c 8) (se_vc se_int))))))
   ss_nx)
  (ss_seq (ss_av (i := 11) se_int)
  (ss_cut (ss_if (st_test (se_vc (se_op os_eq (se_vc (se_op os_ixL (se_c 8) (se_vc se_int))) (se_vc se_int))))
   (ss_seq (ss_av (i := 11) (se_op os_ixL (se_c 8) (se_vc se_int)))
   (ss_av (i := 9) (se_op os_i (se_vc se_int) (se_vc (se_op os_ixL (se_c 8) (se_vc se_int))))))
   ss_nx)
  (ss_cut (ss_if (st_test (se_vc (se_op os_eq (se_c 11) (se_vc se_int))))
   (ss_av (i := 9) se_int)
   ss_nx)
  (ss_seq (ss_av (i := 12) (se_ov (se_call0 (ro := true) (sa_v (se_call0 (ro := false) (sa_v (se_v 0) (sa_v se_int sa_nil))) (sa_b (se_oc (se_op os_rep (se_oc (se_lst (sa_v (se_v 10) (sa_v se_int (sa_v se_int sa_nil))))) (se_c 9))) sa_nil)))))
  (ss_seq (ss_av (i := 13) (se_ov (se_lc (SimI.c (si_r1 (sa_b (se_c 9) sa_nil))) (sg_all fun _ _ _ _ _ => (sg_n 18)) (st_all fun _ _ _ _ _ => st_yes) (se_all fun _ _ _ _ _ => (se_op os_ixL (se_c 12) (se_vc (se_op os_ic (se_vc se_int) (se_c 18))))) (by decide))))
  (ss_cut (ss_if (st_test (se_vc (se_op os_b (se_c 11) (se_vc se_int))))
   (ss_av (i := 13) (se_ov (se_op os_rep (se_oc (se_lst (sa_v se_int sa_nil))) (se_c 9))))
   ss_nx)
  (ss_cut (ss_if (st_test (se_vc (se_op os_eq (se_c 11) (se_vc se_int))))
   (ss_av (i := 13) (se_ov (se_lc (SimI.c (si_r1 (sa_b (se_c 9) sa_nil))) (sg_all fun _ _ _ _ _ => (sg_n 18)) (st_all fun _ _ _ _ _ => st_yes) (se_all fun _ _ _ _ _ => (se_op os_ic (se_vc (se_op os_i (se_vc se_int) (se_vc (se_op os_ixL (se_c 8) (se_vc se_int))))) (se_vc (se_op os_ixL (se_c 12) (se_vc (se_op os_i (se_vc (se_op os_ic (se_vc se_int) (se_c 18))) (se_vc se_int))))))) (by decide))))
   ss_nx)
  (ss_cut (ss_if (st_test (se_vc (se_op os_eq (se_c 11) (se_vc se_int))))
   (ss_av (i := 13) (se_ov (se_lc (SimI.c (si_r1 (sa_b (se_c 9) sa_nil))) (sg_all fun _ _ _ _ _ => (sg_n 18)) (st_all fun _ _ _ _ _ => st_yes) (se_all fun _ _ _ _ _ => (se_op os_ic (se_vc (se_cb cs_int1 (sa_b (se_vc (se_op os_i (se_c 18) (se_vc (se_op os_ixL (se_c 8) (se_vc se_int))))) sa_nil))) (se_c 9))) (by decide))))
   ss_nx)
  (ss_seq (ss_av (i := 14) (se_op os_i (se_vc (se_op os_ixL (se_c 8) (se_vc se_int))) (se_vc se_int)))
  (ss_cut (ss_if (st_test (se_vc (se_op os_eq (se_vc (se_op os_ixL (se_c 8) (se_vc se_int))) (se_vc se_int))))
   (ss_av (i := 14) (se_op os_i (se_vc se_int) (se_vc (se_op os_ic (se_vc se_int) (se_vc (se_op os_ic (se_vc (se_op os_ixL (se_c 8) (se_vc se_int))) (se_vc se_int)))))))
   ss_nx)
  (ss_seq (ss_av (i := 15) (se_ov (se_call0 (ro := true) (sa_v (se_call0 (ro := false) (sa_v (se_v 0) (sa_v se_int sa_nil))) (sa_v (se_op os_i (se_c 9) (se_vc se_int)) sa_nil)))))
  (ss_seq (ss_av (i := 16) (se_ov (se_lrg (sr_1 (se_c 9)))))
  (ss_cut (ss_if (st_or (st_test (se_vc (se_op os_eq (se_c 7) (se_vc se_int)))) (st_and (st_test (se_vc (se_op os_eq (se_c 7) (se_vc se_int)))) (st_test (se_vc (se_op os_eq (se_vc (se_op os_ixL (se_c 8) (se_vc se_int))) (se_vc se_int))))))
   (ss_seq (ss_av (i := 17) (se_op os_i (se_vc se_int) (se_vc (se_op os_ic (se_vc (se_cb cs_int1 (sa_b (se_vc (se_op os_ixL (se_c 8) (se_vc se_int))) sa_nil))) (se_c 9)))))
   (ss_av (i := 16) (se_ov (se_lc (SimI.c (si_r1 (sa_b (se_c 9) sa_nil))) (sg_all fun _ _ _ _ _ => (sg_n 18)) (st_all fun _ _ _ _ _ => st_yes) (se_all fun _ _ _ _ _ => (se_op os_ic (se_vc (se_cb cs_int1 (sa_b (se_vc (se_op os_ixL (se_c 12) (se_vc (se_op os_i (se_vc (se_op os_ic (se_vc se_int) (se_c 18))) (se_vc se_int))))) sa_nil))) (se_c 17))) (by decide)))))
   ss_nx)
  (ss_cut (ss_if (st_and (st_test (se_vc (se_op os_eq (se_c 7) (se_vc se_int)))) (st_test (se_vc (se_op os_eq (se_vc (se_op os_ixL (se_c 8) (se_vc se_int))) (se_vc se_int)))))
   (ss_seq (ss_av (i := 17) (se_op os_i (se_vc se_int) (se_vc (se_op os_ic (se_vc (se_cb cs_int1 (sa_b (se_vc (se_op os_ixL (se_c 8) (se_vc se_int))) sa_nil))) (se_vc (se_cb cs_mm (sa_b (se_c 9) (sa_b (se_vc se_int) sa_nil))))))))
   (ss_av (i := 16) (se_ov (se_lc (SimI.c (si_r1 (sa_b (se_c 9) sa_nil))) (sg_all fun _ _ _ _ _ => (sg_n 18)) (st_all fun _ _ _ _ _ => st_yes) (se_all fun _ _ _ _ _ => (se_op os_ic (se_vc (se_cb cs_int1 (sa_b (se_vc (se_op os_ixL (se_c 12) (se_vc (se_op os_i (se_vc (se_op os_ic (se_vc se_int) (se_c 18))) (se_vc se_int))))) sa_nil))) (se_c 17))) (by decide)))))
   ss_nx)
  (ss_rv (se_tup (sa_v (se_ov (se_lc (SimI.c (si_r1 (sa_b (se_c 9) sa_nil))) (sg_all fun _ _ _ _ _ => (sg_n 18)) (st_all fun _ _ _ _ _ => st_yes) (se_all fun _ _ _ _ _ => (se_tup (sa_v (se_op os_i (se_c 14) (se_vc (se_op os_ixL (se_c 13) (se_c 18)))) (sa_v (se_op os_ixL (se_c 15) (se_vc (se_op os_ixL (se_c 16) (se_c 18)))) sa_nil)))) (by decide))) (sa_v (se_v 15) sa_nil))))))))))))))))))))))⟩) (fun _ _ _ h => h) (fun xs Q h => pure__law_sheets T.ca xs Q noX h)
--@@DEF Sheaf___init__
theorem ok_Sheaf___init__ (T : Env K mg) : FnOk P w K mg base (L2.CX P w) 3 T.f_Sheaf___init__ T.d_Sheaf___init__ ["self", "rows"] (spMk K T.C_Sheaf [.b] (p_Sheaf___init__ T.ca)) :=
  fn_simI (ms := [.b]) (b := w_Sheaf___init__ T.ca) T.F_Sheaf___init__ sc_Sheaf___init__ rfl (fun cdv A outer s H E hr => ⟨_, (pss_cons (ps_fld (pv 0) (pe_callTy call_list_of (by rfl) T.n_list (by decide +kernel) (pa_cons (pv 1) pa_nil)) rfl)
  (pss_cons (ps_if (pt_not (pt_truth (pe_fld (pv 0) rfl) (by intro _; rfl)))
   (pss_one (ps_raise rfl (takes_of rfl rfl rfl rfl) (pmk_oex T.ox_InvalidSheaf T.iC_InvalidSheaf T.tI_InvalidSheaf (ok_InvalidSheaf___init__ T) hr T.b_InvalidSheaf___init__ .nil pass0 (by rfl) T.g_InvalidSheaf (pa_cons pe_int pa_nil))))
   pss_nil)
  (pss_cons (ps_for (passes_of rfl) rfl (pi_enum (by rfl) T.n_enumerate (pa_cons (pe_fld (pv 0) rfl) pa_nil)) (pg_tup (by rfl) (pgs_cons (pg_name (i := 2) sc_Sheaf___init__.nd rfl (Or.inl rfl)) (pgs_cons (pg_name (i := 3) sc_Sheaf___init__.nd rfl (Or.inl rfl)) pgs_nil)))
   (pss_one (ps_if (pt_not (pt_val (pe_call (ok_valid_record T) (hr.mono (show 1 ≤ 2 by decide)) (by rfl) T.g_valid_record T.F_valid_record.kp T.b_valid_record .nil pass0 (pa_cons (pe_ix ix_tup (pv 3) pe_int (fun _ _ => rfl)) pa_nil))))
    (pss_one (ps_raise rfl (takes_of rfl rfl rfl rfl) (pmk_oex T.ox_InvalidSheaf T.iC_InvalidSheaf T.tI_InvalidSheaf (ok_InvalidSheaf___init__ T) hr T.b_InvalidSheaf___init__ .nil pass0 (by rfl) T.g_InvalidSheaf (pa_cons (pv 2) pa_nil))))
    pss_nil)))
  (pss_cons (ps_fld (pv 0) (pe_callB (cr_max rfl) (by rfl) T.n_max (by decide +kernel) (pa_cons (pe_lcX (own := [("row", 3)]) rfl sc_Sheaf___init__.nd (pi_list (pe_fld (pv 0) rfl)) (blkOk_by (N := ["self", "rows", "index", "row"]) (sc := defScope s_Sheaf___init__) (own := [("row", 3)]) (by decide +kernel)) (fun _ _ _ _ _ => (pg_name (i := 3) sc_Sheaf___init__.nd rfl (Or.inl rfl))) (fun _ _ _ _ _ => pts_nil) (fun _ _ _ _ _ => (pe_ix ix_tup (pv 3) pe_int (fun _ _ => rfl)))) pa_nil)) rfl)
  (pss_one (ps_fld (pv 0) (pe_callB (cr_min rfl) (by rfl) T.n_min (by decide +kernel) (pa_cons (pe_lcX (own := [("row", 3)]) rfl sc_Sheaf___init__.nd (pi_list (pe_fld (pv 0) rfl)) (blkOk_by (N := ["self", "rows", "index", "row"]) (sc := defScope s_Sheaf___init__) (own := [("row", 3)]) (by decide +kernel)) (fun _ _ _ _ _ => (pg_name (i := 3) sc_Sheaf___init__.nd rfl (Or.inl rfl))) (fun _ _ _ _ _ => pts_nil) (fun _ _ _ _ _ => (pe_ix ix_tup (pv 3) pe_int (fun _ _ => rfl)))) pa_nil)) rfl)))))),
    (ss_seq (ss_fld T.cl_Sheaf T.na_Sheaf__rows (se_ov (se_cb cs_list (sa_b (se_c 1) sa_nil))))
  (ss_seq (ss_if (st_not (st_truth (se_vc (se_fld T.cl_Sheaf T.na_Sheaf__rows (se_c 0)))))
   (ss_raise1 (sa_v se_int sa_nil))
   ss_nx)
  (ss_seq (ss_for (si_enum (sa_v (se_fld T.cl_Sheaf T.na_Sheaf__rows (se_c 0)) sa_nil)) (sg_t (sg_cons (sg_n 2) (sg_cons (sg_n 3) sg_nil)))
   (ss_if (st_not (st_val (se_vc (se_call0 (ro := false) (sa_v (se_op os_ixT (se_c 3) (se_vc se_int)) sa_nil)))))
    (ss_raise1 (sa_v (se_v 2) sa_nil))
    ss_nx))
  (ss_seq (ss_fld T.cl_Sheaf T.na_Sheaf__top (se_cb cs_max (sa_b (se_oc (se_lc (si_listc (se_vc (se_fld T.cl_Sheaf T.na_Sheaf__rows (se_c 0)))) (sg_all fun _ _ _ _ _ => (sg_n 3)) (st_all fun _ _ _ _ _ => st_yes) (se_all fun _ _ _ _ _ => (se_op os_ixT (se_c 3) (se_vc se_int))) (by decide))) sa_nil)))
  (ss_fld T.cl_Sheaf T.na_Sheaf__bottom (se_cb cs_min (sa_b (se_oc (se_lc (si_listc (se_vc (se_fld T.cl_Sheaf T.na_Sheaf__rows (se_c 0)))) (sg_all fun _ _ _ _ _ => (sg_n 3)) (st_all fun _ _ _ _ _ => st_yes) (se_all fun _ _ _ _ _ => (se_op os_ixT (se_c 3) (se_vc se_int))) (by decide))) sa_nil)))))))⟩) (fun a xs Q X h => pure_Sheaf___init__ T.ca a xs Q X h)
--@@DEF _taken
theorem ok__taken (T : Env K mg) : FnOk P w K mg base CX0 4 T.f__taken T.d__taken ["sheaf", "end", "record", "demand", "breadth"] (spOf K [.b, .v, .v, .v, .v] true (p__taken T.ca)) :=
  fn_sim (ms := [.b, .v, .v, .v, .v]) (ro := true) (b := w__taken T.ca) T.F__taken sc__taken rfl (fun cdv A outer s H E hr => ⟨_, (pss_cons (ps_set (i := 5) sc__taken.nd rfl (Or.inl rfl) (pe_lst pa_nil))
  (pss_cons (ps_set (i := 6) sc__taken.nd rfl (Or.inl rfl) pe_int)
  (pss_cons (ps_for PassesOwn.never rfl (pi_list (pe_call (ok_falling_sheets T) (hr.mono (show 2 ≤ 3 by decide)) (by rfl) T.g_falling_sheets T.F_falling_sheets.kp T.b_falling_sheets .nil pass0 (pa_cons (pv 0) (pa_cons (pv 2) pa_nil)))) (pg_name (i := 7) sc__taken.nd rfl (Or.inl rfl))
   (pss_cons (ps_set (i := 8) sc__taken.nd rfl (Or.inl rfl) (pe_call (ok__cap_up_to T) hr (by rfl) T.g__cap_up_to T.F__cap_up_to.kp T.b__cap_up_to .nil pass0 (pa_cons (pe_meth (pv 0) T.cl_Sheaf T.me_Sheaf_sharpness_of (ok_Sheaf_sharpness_of T) (hr.mono (show 1 ≤ 3 by decide)) T.b_Sheaf_sharpness_of .nil pass0 (pa_cons (pv 7) pa_nil)) (pa_cons (pv 1) (pa_cons (pv 3) (pa_cons (pv 4) pa_nil))))))
   (pss_cons (ps_if (PW.pt (pw_or (pt_cmpR op_ge (pv 6) (pv 3) (nomark _)) (pw_or1 (pt_cmpR op_eq (pv 8) pe_int (nomark _)))))
    (pss_one ps_break)
    pss_nil)
   (pss_cons (ps_expr (pe_bm PySem.F.plainAttrs_list PySem.F.slot_list_append PySem.F.type_list_append mt_append (pv 5) (pa_cons (pv 7) pa_nil)))
   (pss_one (ps_aug (i := 6) sc__taken.nd rfl (Or.inl rfl) (pv 8) ip_add))))))
  (pss_one (ps_ret (pv 5)))))),
    (ss_seq (ss_ao (i := 5) (se_lst sa_nil))
  (ss_seq (ss_av (i := 6) se_int)
  (ss_seq (ss_for (si_list (se_ov (se_call0 (ro := true) (sa_b (se_c 0) (sa_v (se_v 2) sa_nil))))) (sg_n 7)
   (ss_seq (ss_av (i := 8) (se_call0 (ro := false) (sa_v (se_meth (ro := false) (se_c 0) (sa_v (se_v 7) sa_nil)) (sa_v (se_v 1) (sa_v (se_v 3) (sa_v (se_v 4) sa_nil))))))
   (ss_seq (ss_if (st_or (st_test (se_vc (se_op os_b (se_c 6) (se_c 3)))) (st_test (se_vc (se_op os_eq (se_c 8) (se_vc se_int)))))
    ss_brk
    ss_nx)
   (ss_seq (ss_app (i := 5) (se_v 7))
   (ss_aug (i := 6) (se_c 8))))))
  (ss_roV 5))))⟩) (fun _ _ _ h => h) (fun xs Q h => pure__taken T.ca xs Q noX h)
--@@DEF _reach_up_to
theorem ok__reach_up_to (T : Env K mg) : FnOk P w K mg base CX0 4 T.f__reach_up_to T.d__reach_up_to ["rows", "end", "most", "breadth"] (spOf K [.b, .v, .v, .v] false (p__reach_up_to T.ca)) :=
  fn_sim (ms := [.b, .v, .v, .v]) (ro := false) (b := w__reach_up_to T.ca) T.F__reach_up_to sc__reach_up_to rfl (fun cdv A outer s H E hr => ⟨_, (pss_one (ps_ret (pe_callB (cr_sum rfl) (by rfl) T.n_sum (by decide +kernel) (pa_cons (pe_lcX (own := [("row", 4)]) rfl sc__reach_up_to.nd (pi_list (pv 0)) (blkOk_by (N := ["rows", "end", "most", "breadth", "row"]) (sc := defScope s__reach_up_to) (own := [("row", 4)]) (by decide +kernel)) (fun _ _ _ _ _ => (pg_name (i := 4) sc__reach_up_to.nd rfl (Or.inl rfl))) (fun _ _ _ _ _ => pts_nil) (fun _ _ _ _ _ => (pe_call (ok__cap_up_to T) hr (by rfl) T.g__cap_up_to T.F__cap_up_to.kp T.b__cap_up_to .nil pass0 (pa_cons (pe_ix ix_tup (pv 4) pe_int (fun _ _ => rfl)) (pa_cons (pv 1) (pa_cons (pv 2) (pa_cons (pv 3) pa_nil))))))) pa_nil)))),
    (ss_rv (se_cb cs_sum (sa_b (se_oc (se_lc (si_listc (se_c 0)) (sg_all fun _ _ _ _ _ => (sg_n 4)) (st_all fun _ _ _ _ _ => st_yes) (se_all fun _ _ _ _ _ => (se_call0 (ro := false) (sa_v (se_op os_ixT (se_c 4) (se_vc se_int)) (sa_v (se_v 1) (sa_v (se_v 2) (sa_v (se_v 3) sa_nil)))))) (by decide))) sa_nil)))⟩) (fun _ _ _ h => h) (fun xs Q h => pure__reach_up_to T.ca xs Q noX h)
--@@DEF spare_sharpnesses
theorem ok_spare_sharpnesses (T : Env K mg) : FnOk P w K mg base CX0 4 T.f_spare_sharpnesses T.d_spare_sharpnesses ["sheaf", "aside"] (spOf K [.b, .b] true (p_spare_sharpnesses T.ca)) :=
  fn_sim (ms := [.b, .b]) (ro := true) (b := w_spare_sharpnesses T.ca) T.F_spare_sharpnesses sc_spare_sharpnesses rfl (fun cdv A outer s H E hr => ⟨_, (pss_one (ps_ret (pe_lcX (own := [("index", 2), ("row", 3)]) rfl sc_spare_sharpnesses.nd (pi_enumO (by rfl) T.n_enumerate (pv 0) (okN_Sheaf___iter__ T) T.at_Sheaf___iter__ T.fn_Sheaf___iter__ T.b_Sheaf___iter__ pass0 hr) (blkOk_by (N := ["sheaf", "aside", "index", "row"]) (sc := defScope s_spare_sharpnesses) (own := [("index", 2), ("row", 3)]) (by decide +kernel)) (fun _ _ _ _ _ => (pg_tup (by rfl) (pgs_cons (pg_name (i := 2) sc_spare_sharpnesses.nd rfl (Or.inl rfl)) (pgs_cons (pg_name (i := 3) sc_spare_sharpnesses.nd rfl (Or.inl rfl)) pgs_nil)))) (fun _ _ _ _ _ => (pts_one (pt_cmpR op_notIn_seq (pv 2) (pv 1) rfl))) (fun _ _ _ _ _ => (pe_ix ix_tup (pv 3) pe_int (fun _ _ => rfl)))))),
    (ss_ro (se_lc (SimI.c (si_enumO (se_c 0))) (sg_all fun _ _ _ _ _ => (sg_t (sg_cons (sg_n 2) (sg_cons (sg_n 3) sg_nil)))) (st_all fun _ _ _ _ _ => (st_test (se_vc (se_op os_in (se_c 2) (se_c 1))))) (se_all fun _ _ _ _ _ => (se_op os_ixT (se_c 3) (se_vc se_int))) (by decide)))⟩) (fun _ _ _ h => h) (fun xs Q h => pure_spare_sharpnesses T.ca xs Q noX h)
--@@DEF set_aside
theorem ok_set_aside (T : Env K mg) : FnOk P w K mg base (L2N.CX P w) 5 T.f_set_aside T.d_set_aside ["sheaf", "end", "demands", "breadth"] (spOf K [.b, .v, .b, .v] true (p_set_aside T.ca)) :=
  fn_simXN (ms := [.b, .v, .b, .v]) (ro := true) (b := w_set_aside T.ca) T.F_set_aside sc_set_aside rfl (fun cdv A outer s H E hr => ⟨_, (pss_cons (ps_expr (pe_callS (ok_check_demands T) (hr.mono (show 3 ≤ 4 by decide)) (by rfl) T.g_check_demands T.F_check_demands.kp T.b_check_demands (fun σ => L2N.passAt (L2N.takes_of rfl rfl rfl rfl) σ) (pa_cons (pv 2) pa_nil)))
  (pss_cons (ps_set (i := 4) sc_set_aside.nd rfl (Or.inl rfl) (pe_lst pa_nil))
  (pss_cons (ps_orLock (ps_for (passes_of rfl) rfl (pi_keys (pv 2)) (pg_name (i := 5) sc_set_aside.nd rfl (Or.inl rfl))
   (pss_one (ps_expr (pe_bm PySem.F.plainAttrs_list PySem.F.slot_list_extend PySem.F.type_list_extend mt_extend (pv 4) (pa_cons (pe_call (ok__taken T) hr (by rfl) T.g__taken T.F__taken.kp T.b__taken .nil pass0 (pa_cons (pv 0) (pa_cons (pv 1) (pa_cons (pv 5) (pa_cons (pe_dget (hu_of hr) (pv 2) (pv 5) (fun _ _ => rfl)) (pa_cons (pv 3) pa_nil)))))) pa_nil))))))
  (pss_one (ps_ret (pe_callB cr_sortedI (by rfl) T.n_sorted (by decide +kernel) (pa_cons (pv 4) pa_nil))))))),
    (ss_seq (ss_do (se_callS (ro := false) (sa_b (se_c 2) sa_nil)))
  (ss_seq (ss_ao (i := 4) (se_lst sa_nil))
  (ss_seq (ss_forKeys 2 (sg_n 5)
   (ss_ext (i := 4) (se_oc (se_call0 (ro := true) (sa_b (se_c 0) (sa_v (se_v 1) (sa_v (se_v 5) (sa_v (se_dget (se_c 2) (se_c 5)) (sa_v (se_v 3) sa_nil)))))))))
  (ss_ro (se_cb cs_sortI (sa_b (se_c 4) sa_nil))))))⟩) (fun xs Q X h => pure_set_aside T.ca xs Q X h)
--@@DEF _height_trouble
theorem ok__height_trouble (T : Env K mg) : FnOk P w K mg base CX0 5 T.f__height_trouble T.d__height_trouble ["sheaf", "end", "aside"] (spOf K [.b, .v, .b] false (p__height_trouble T.ca)) :=
  fn_sim (ms := [.b, .v, .b]) (ro := false) (b := w__height_trouble T.ca) T.F__height_trouble sc__height_trouble rfl (fun cdv A outer s H E hr => ⟨_, (pss_cons (ps_set (i := 3) sc__height_trouble.nd rfl (Or.inl rfl) (pe_call (ok_spare_sharpnesses T) hr (by rfl) T.g_spare_sharpnesses T.F_spare_sharpnesses.kp T.b_spare_sharpnesses .nil pass0 (pa_cons (pv 0) (pa_cons (pv 2) pa_nil))))
  (pss_cons (ps_for PassesOwn.never rfl (pi_range2 (by rfl) T.n_range (pa_cons (pv 1) (pa_cons (pe_prop (pv 0) T.cl_Sheaf T.pr_Sheaf_top (ok_Sheaf_top T) (hr.mono (show 2 ≤ 4 by decide)) T.b_Sheaf_top .nil pass0 rfl) pa_nil))) (pg_name (i := 4) sc__height_trouble.nd rfl (Or.inr rfl))
   (pss_cons (ps_set (i := 5) sc__height_trouble.nd rfl (Or.inl rfl) (pe_callB call_len_seq (by rfl) T.n_len (by decide +kernel) (pa_cons (pe_lcX (own := [("each", 6)]) rfl sc__height_trouble.nd (pi_list (pv 3)) (blkOk_by (N := ["sheaf", "end", "aside", "spare", "height", "amount", "each"]) (sc := defScope s__height_trouble) (own := [("each", 6)]) (by decide +kernel)) (fun _ _ _ _ _ => (pg_name (i := 6) sc__height_trouble.nd rfl (Or.inl rfl))) (fun _ _ _ _ _ => (pts_one (pt_cmpR op_le (pv 6) (pv 4) (nomark _)))) (fun _ _ _ _ _ => (pv 6))) pa_nil)))
   (pss_one (ps_if (pt_cmpR op_lt (pv 5) (pe_op op_sub (pe_op op_add (pv 4) pe_int) (pv 1)) (nomark _))
    (pss_one (ps_ret (pe_tup (pa_cons pe_str (pa_cons (pv 4) (pa_cons (pv 5) pa_nil))))))
    pss_nil))))
  (pss_one (ps_ret pe_non)))),
    (ss_seq (ss_av (i := 3) (se_ov (se_call0 (ro := true) (sa_b (se_c 0) (sa_b (se_c 2) sa_nil)))))
  (ss_seq (ss_for (si_r2 (sa_b (se_c 1) (sa_b (se_vc (se_prop (ro := false) (se_c 0))) sa_nil))) (sg_n 4)
   (ss_seq (ss_av (i := 5) (se_cb cs_len (sa_b (se_oc (se_lc (si_listc (se_c 3)) (sg_all fun _ _ _ _ _ => (sg_n 6)) (st_all fun _ _ _ _ _ => (st_test (se_vc (se_op os_b (se_c 6) (se_c 4))))) (se_all fun _ _ _ _ _ => (se_v 6)) (by decide))) sa_nil)))
   (ss_if (st_test (se_vc (se_op os_b (se_c 5) (se_vc (se_op os_i (se_vc (se_op os_i (se_c 4) (se_vc se_int))) (se_c 1))))))
    (ss_rv (se_tup (sa_v (se_str (sok_by (by decide +kernel))) (sa_v (se_v 4) (sa_v (se_v 5) sa_nil)))))
    ss_nx)))
  (ss_rv se_non)))⟩) (fun _ _ _ h => h) (fun xs Q h => pure__height_trouble T.ca xs Q noX h)
--@@DEF trouble
theorem ok_trouble (T : Env K mg) : FnOk P w K mg base (L2N.CX P w) 6 T.f_trouble T.d_trouble ["sheaf", "end", "demands", "breadth"] (spOf K [.b, .v, .b, .v] false (p_trouble T.ca)) :=
  fn_simXN (ms := [.b, .v, .b, .v]) (ro := false) (b := w_trouble T.ca) T.F_trouble sc_trouble rfl (fun cdv A outer s H E hr => ⟨_, (pss_cons (ps_expr (pe_callS (ok_check_demands T) (hr.mono (show 3 ≤ 5 by decide)) (by rfl) T.g_check_demands T.F_check_demands.kp T.b_check_demands (fun σ => L2N.passAt (L2N.takes_of rfl rfl rfl rfl) σ) (pa_cons (pv 2) pa_nil)))
  (pss_cons (ps_set (i := 4) sc_trouble.nd rfl (Or.inl rfl) (pe_callB (cr_sum rfl) (by rfl) T.n_sum (by decide +kernel) (pa_cons (pe_orLock (pe_lcX (own := [("record", 6)]) rfl sc_trouble.nd (pi_keys (pv 2)) (blkOk_by (N := ["sheaf", "end", "demands", "breadth", "total", "reached", "record", "borne", "amount", "row"]) (sc := defScope s_trouble) (own := [("record", 6)]) (by decide +kernel)) (fun _ _ _ _ _ => (pg_name (i := 6) sc_trouble.nd rfl (Or.inl rfl))) (fun _ _ _ _ _ => pts_nil) (fun _ _ _ _ _ => (pe_dget (hu_of hr) (pv 2) (pv 6) (fun _ _ => rfl))))) pa_nil)))
  (pss_cons (ps_if (pt_cmpR op_gt (pv 4) (pe_callB (call_lenOwn (ok_Sheaf___len__ T) T.at_Sheaf___len__ T.fn_Sheaf___len__ T.b_Sheaf___len__ pass0 (hr.mono (show 2 ≤ 5 by decide))) (by rfl) T.n_len (by decide +kernel) (pa_cons (pv 0) pa_nil)) (nomark _))
   (pss_one (ps_ret (pe_tup (pa_cons pe_str (pa_cons (pv 4) pa_nil)))))
   pss_nil)
  (pss_cons (ps_set (i := 5) sc_trouble.nd rfl (Or.inl rfl) (pe_call (ok__reach_up_to T) (hr.mono (show 4 ≤ 5 by decide)) (by rfl) T.g__reach_up_to T.F__reach_up_to.kp T.b__reach_up_to .nil pass0 (pa_cons (pe_meth0 (pv 0) T.cl_Sheaf T.me_Sheaf_rows (ok_Sheaf_rows T) (hr.mono (show 1 ≤ 5 by decide)) T.b_Sheaf_rows .nil pass0) (pa_cons (pv 1) (pa_cons (pe_callB (call_lenOwn (ok_Sheaf___len__ T) T.at_Sheaf___len__ T.fn_Sheaf___len__ T.b_Sheaf___len__ pass0 (hr.mono (show 2 ≤ 5 by decide))) (by rfl) T.n_len (by decide +kernel) (pa_cons (pv 0) pa_nil)) (pa_cons (pv 3) pa_nil))))))
  (pss_cons (ps_if (pt_cmpR op_lt (pv 5) (pe_callB (call_lenOwn (ok_Sheaf___len__ T) T.at_Sheaf___len__ T.fn_Sheaf___len__ T.b_Sheaf___len__ pass0 (hr.mono (show 2 ≤ 5 by decide))) (by rfl) T.n_len (by decide +kernel) (pa_cons (pv 0) pa_nil)) (nomark _))
   (pss_one (ps_ret (pe_tup (pa_cons pe_str (pa_cons (pv 5) pa_nil)))))
   pss_nil)
  (pss_cons (ps_for (passes_of rfl) rfl (pi_list (pe_callB (call_sortedD rfl) (by rfl) T.n_sorted (by decide +kernel) (pa_cons (pv 2) pa_nil))) (pg_name (i := 6) sc_trouble.nd rfl (Or.inr rfl))
   (pss_cons (ps_setLcX (i := 7) (own := [("row", 9)]) rfl sc_trouble.nd rfl rfl (sw_true rfl rfl rfl (by decide +kernel)) (pi_own (pv 0) (okN_Sheaf___iter__ T) T.at_Sheaf___iter__ T.fn_Sheaf___iter__ T.b_Sheaf___iter__ pass0 (hr.mono (show 1 ≤ 5 by decide))) (blkOk_by (N := ["sheaf", "end", "demands", "breadth", "total", "reached", "record", "borne", "amount", "row"]) (sc := defScope s_trouble) (own := [("row", 9)]) (by decide +kernel)) (fun _ _ _ _ _ => (pg_name (i := 9) sc_trouble.nd rfl (Or.inl rfl))) (fun _ _ _ _ _ => (pts_one (pt_cmpR op_eq (pe_ix ix_tup (pv 9) pe_int (fun _ _ => rfl)) (pv 6) (nomark _)))) (fun _ _ _ _ _ => (pv 9)))
   (pss_cons (ps_set (i := 8) sc_trouble.nd rfl (Or.inl rfl) (pe_call (ok__reach_up_to T) (hr.mono (show 4 ≤ 5 by decide)) (by rfl) T.g__reach_up_to T.F__reach_up_to.kp T.b__reach_up_to .nil pass0 (pa_cons (pv 7) (pa_cons (pv 1) (pa_cons (pe_dget (hu_of hr) (pv 2) (pv 6) (fun _ _ => rfl)) (pa_cons (pv 3) pa_nil))))))
   (pss_one (ps_if (pt_cmpR op_lt (pv 8) (pe_dget (hu_of hr) (pv 2) (pv 6) (fun _ _ => rfl)) (nomark _))
    (pss_one (ps_ret (pe_tup (pa_cons pe_str (pa_cons (pv 6) (pa_cons (pv 8) pa_nil))))))
    pss_nil)))))
  (pss_one (ps_ret (pe_call (ok__height_trouble T) hr (by rfl) T.g__height_trouble T.F__height_trouble.kp T.b__height_trouble .nil pass0 (pa_cons (pv 0) (pa_cons (pv 1) (pa_cons (pe_callNS (ok_set_aside T) hr (by rfl) T.g_set_aside T.F_set_aside.kp T.kb_set_aside (fun σ => L2N.passAt (L2N.takes_of rfl rfl rfl rfl) σ) (pa_cons (pv 0) (pa_cons (pv 1) (pa_cons (pv 2) pa_nil))) (pk_cons (pv 3) pk_nil)) pa_nil)))))))))))),
    (ss_seq (ss_do (se_callS (ro := false) (sa_b (se_c 2) sa_nil)))
  (ss_seq (ss_av (i := 4) (se_cb cs_sum (sa_b (se_oc (se_lcKeys 2 (sg_all fun _ _ _ _ _ => (sg_n 6)) (st_all fun _ _ _ _ _ => st_yes) (se_all fun _ _ _ _ _ => (se_dget (se_c 2) (se_c 6))) (by decide))) sa_nil)))
  (ss_seq (ss_if (st_test (se_vc (se_op os_b (se_c 4) (se_vc (se_cb cs_lenO (sa_b (se_c 0) sa_nil))))))
   (ss_rv (se_tup (sa_v (se_str (sok_by (by decide +kernel))) (sa_v (se_v 4) sa_nil))))
   ss_nx)
  (ss_seq (ss_av (i := 5) (se_call0 (ro := false) (sa_b (se_oc (se_meth (ro := true) (se_c 0) sa_nil)) (sa_v (se_v 1) (sa_v (se_cb cs_lenO (sa_b (se_c 0) sa_nil)) (sa_v (se_v 3) sa_nil))))))
  (ss_seq (ss_if (st_test (se_vc (se_op os_b (se_c 5) (se_vc (se_cb cs_lenO (sa_b (se_c 0) sa_nil))))))
   (ss_rv (se_tup (sa_v (se_str (sok_by (by decide +kernel))) (sa_v (se_v 5) sa_nil))))
   ss_nx)
  (ss_seq (ss_for (si_list (se_ov (se_cb cs_sortD (sa_b (se_c 2) sa_nil)))) (sg_n 6)
   (ss_seq (ss_av (i := 7) (se_ov (se_lc (SimI.c (si_own (se_c 0))) (sg_all fun _ _ _ _ _ => (sg_n 9)) (st_all fun _ _ _ _ _ => (st_test (se_vc (se_op os_eq (se_vc (se_op os_ixT (se_c 9) (se_vc se_int))) (se_c 6))))) (se_all fun _ _ _ _ _ => (se_v 9)) (by decide))))
   (ss_seq (ss_av (i := 8) (se_call0 (ro := false) (sa_b (se_c 7) (sa_v (se_v 1) (sa_v (se_dget (se_c 2) (se_c 6)) (sa_v (se_v 3) sa_nil))))))
   (ss_if (st_test (se_vc (se_op os_b (se_c 8) (se_vc (se_dget (se_c 2) (se_c 6))))))
    (ss_rv (se_tup (sa_v (se_str (sok_by (by decide +kernel))) (sa_v (se_v 6) (sa_v (se_v 8) sa_nil)))))
    ss_nx))))
  (ss_rv (se_call0 (ro := false) (sa_b (se_c 0) (sa_v (se_v 1) (sa_b (se_oc (se_callNS (ro := true) (ms := [.b, .v, .b]) (mk := [.v]) (sa_b (se_c 0) (sa_v (se_v 1) (sa_b (se_c 2) sa_nil))) (sa_v (se_v 3) sa_nil) rfl rfl)) sa_nil)))))))))))⟩) (fun xs Q X h => pure_trouble T.ca xs Q X h)
--@@DEF can_meet
theorem ok_can_meet (T : Env K mg) : FnOk P w K mg base (L2N.CX P w) 7 T.f_can_meet T.d_can_meet ["sheaf", "end", "demands", "breadth"] (spOf K [.b, .v, .b, .v] false (p_can_meet T.ca)) :=
  fn_simXN (ms := [.b, .v, .b, .v]) (ro := false) (b := w_can_meet T.ca) T.F_can_meet sc_can_meet rfl (fun cdv A outer s H E hr => ⟨_, (pss_one (ps_ret (pe_cmpR op_isN (pe_callNS (ok_trouble T) hr (by rfl) T.g_trouble T.F_trouble.kp T.kb_trouble (fun σ => L2N.passAt (L2N.takes_of rfl rfl rfl rfl) σ) (pa_cons (pv 0) (pa_cons (pv 1) (pa_cons (pv 2) pa_nil))) (pk_cons (pv 3) pk_nil)) pe_non (nomark _)))),
    (ss_rv (se_op os_isN (se_vc (se_callNS (ro := false) (ms := [.b, .v, .b]) (mk := [.v]) (sa_b (se_c 0) (sa_v (se_v 1) (sa_b (se_c 2) sa_nil))) (sa_v (se_v 3) sa_nil) rfl rfl)) (se_vc se_non)))⟩) (fun xs Q X h => pure_can_meet T.ca xs Q X h)
--@@DEF _law_asked
theorem ok__law_asked (T : Env K mg) : FnOk P w K mg base CX0 8 T.f__law_asked T.d__law_asked ["sheaf", "end", "demands", "width", "plain"] (spOf K [.b, .v, .b, .v, .v] false (p__law_asked T.ca)) :=
  fn_sim (ms := [.b, .v, .b, .v, .v]) (ro := false) (b := w__law_asked T.ca) T.F__law_asked sc__law_asked rfl (fun cdv A outer s H E hr => ⟨_, (pss_cons (ps_try_asN (i := 5) rfl rfl sc__law_asked.nd rfl rfl ⟨rfl, by decide, Or.inl T.g_InvalidDemands⟩ takes0N
   (fun W pn xe tk po => (pss_cons (ps_if (pt_val (pv 4))
    (pss_one (ps_ret (pe_tup (pa_cons pe_str (pa_cons (pe_callDS (ok_can_meet T) hr (by rfl) T.g_can_meet T.F_can_meet.kp T.bd_can_meet (fun σ => L2N.passAt tk σ) (pa_cons (pv 0) (pa_cons (pv 1) (pa_cons (pv 2) pa_nil)))) pa_nil)))))
    pss_nil)
   (pss_one (ps_ret (pe_tup (pa_cons pe_str (pa_cons (pe_callNS (ok_can_meet T) hr (by rfl) T.g_can_meet T.F_can_meet.kp T.kb_can_meet (fun σ => L2N.passAt tk σ) (pa_cons (pv 0) (pa_cons (pv 1) (pa_cons (pv 2) pa_nil))) (pk_cons (pv 3) pk_nil)) pa_nil)))))))
   (fun a oe cls d pn hz hf => (pss_one (ps_if (PW.pt (pw_and (pt_val (pe_callWX (E := fun _ _ _ => False) hz hf (okWX__law_single__InvalidDemands T) (hr.mono (show 1 ≤ 7 by decide)) (by rfl) T.g__law_single T.F__law_single.kp T.b__law_single (pa_cons (pv 5) pa_nil))) (pw_and1 (pt_val (pe_callB call_isi (by rfl) T.n_isinstance (by decide +kernel) (pa_cons (pe_xf T.xf_InvalidDemands T.na_InvalidDemands_record hz.zc hf (pv 5)) (pa_cons (pe_bltn (v := .ty "str") (by rfl) T.n_str (by decide +kernel) rfl) pa_nil)))))))
    (pss_one (ps_ret (pe_tup (pa_cons pe_str (pa_cons (pe_xf T.xf_InvalidDemands T.na_InvalidDemands_record hz.zc hf (pv 5)) pa_nil)))))
    pss_nil))))
  (pss_one (ps_ret (pe_tup (pa_cons pe_str (pa_cons pe_str pa_nil)))))),
    (ss_seq (ss_try T.te_InvalidDemands_InvalidDemands (fun W pn xe => (ss_seq (ss_if (st_val (se_c 4))
    (ss_rv (se_tup (sa_v (se_str (sok_by (by decide +kernel))) (sa_v (se_callDS (ro := false) (ms := [.b, .v, .b]) (sa_b (se_c 0) (sa_v (se_v 1) (sa_b (se_c 2) sa_nil)))) sa_nil))))
    ss_nx)
   (ss_rv (se_tup (sa_v (se_str (sok_by (by decide +kernel))) (sa_v (se_callNS (ro := false) (ms := [.b, .v, .b]) (mk := [.v]) (sa_b (se_c 0) (sa_v (se_v 1) (sa_b (se_c 2) sa_nil))) (sa_v (se_v 3) sa_nil) rfl rfl) sa_nil))))))
   (fun a oe d pn => (ss_if (st_and (st_val (se_vc (se_callX (se_call0 (ro := false) (sa_v (se_v 5) sa_nil))))) (st_val (se_vc (se_cb cs_isi (sa_b (se_vc (se_xf (se_c 5))) (sa_b (se_vc se_ty) sa_nil))))))
    (ss_rv (se_tup (sa_v (se_str (sok_by (by decide +kernel))) (sa_v (se_xf (se_c 5)) sa_nil))))
    ss_nx)))
  (ss_rv (se_tup (sa_v (se_str (sok_by (by decide +kernel))) (sa_v (se_str (sok_by (by decide +kernel))) sa_nil)))))⟩) (fun _ _ _ h => h) (fun xs Q h => pure__law_asked T.ca xs Q noX h)
--@@DEF _law_met
theorem ok__law_met (T : Env K mg) : FnOk P w K mg base CX0 9 T.f__law_met T.d__law_met ["rows", "end", "demands", "width", "plain", "due"] (spOf K [.b, .v, .b, .v, .v, .v] false (p__law_met T.ca)) :=
  fn_sim (ms := [.b, .v, .b, .v, .v, .v]) (ro := false) (b := w__law_met T.ca) T.F__law_met sc__law_met rfl (fun cdv A outer s H E hr => ⟨_, (pss_cons (ps_set (i := 6) sc__law_met.nd rfl (Or.inl rfl) (pe_make T.mk_Sheaf (ok_Sheaf___init__ T) (hr.mono (show 4 ≤ 8 by decide)) (by rfl) T.g_Sheaf T.b_Sheaf___init__ .nil passL (pa_cons (pe_callTy call_list_of (by rfl) T.n_list (by decide +kernel) (pa_cons (pv 0) pa_nil)) pa_nil)))
  (pss_cons (ps_set (i := 7) sc__law_met.nd rfl (Or.inl rfl) (pe_callTy call_dictD (by rfl) T.n_dict (by decide +kernel) (pa_cons (pv 2) pa_nil)))
  (pss_cons (ps_set (i := 8) sc__law_met.nd rfl (Or.inl rfl) (pe_call (ok__law_asked T) hr (by rfl) T.g__law_asked T.F__law_asked.kp T.b__law_asked .nil pass0 (pa_cons (pv 6) (pa_cons (pv 1) (pa_cons (pv 7) (pa_cons (pv 3) (pa_cons (pv 4) pa_nil)))))))
  (pss_cons (ps_if (PW.pt (pw_or (pt_cmpR (op_ne_dictR hr.units) (pv 7) (pv 2) (nomark _)) (pw_or1 (pt_not (pt_cmpR (op_eqOwn (ok_Sheaf___eq__ T) T.at_Sheaf___eq__ T.fn_Sheaf___eq__ T.b_Sheaf___eq__ pass0 (hr.mono (show 1 ≤ 8 by decide))) (pv 6) (pe_make T.mk_Sheaf (ok_Sheaf___init__ T) (hr.mono (show 4 ≤ 8 by decide)) (by rfl) T.g_Sheaf T.b_Sheaf___init__ .nil passL (pa_cons (pe_callTy call_list_of (by rfl) T.n_list (by decide +kernel) (pa_cons (pv 0) pa_nil)) pa_nil)) (nomark _))))))
   (pss_one (ps_ret pe_bl))
   pss_nil)
  (pss_one (ps_ret (pe_and (pe_cmpR op_eq (pe_ix ix_tup (pv 8) pe_int (fun _ _ => rfl)) pe_str (nomark _)) (pe_and (pe_callB call_isi (by rfl) T.n_isinstance (by decide +kernel) (pa_cons (pe_ix ix_tup (pv 8) pe_int (fun _ _ => rfl)) (pa_cons (pe_bltn (v := .ty "bool") (by rfl) T.n_bool (by decide +kernel) rfl) pa_nil))) (pe_one (pe_cmpR op_eq (pe_ix ix_tup (pv 8) pe_int (fun _ _ => rfl)) (pv 5) (nomark _))))))))))),
    (ss_seq (ss_av (i := 6) (se_make0 (sa_b (se_oc (se_cb cs_list (sa_b (se_c 0) sa_nil))) sa_nil)))
  (ss_seq (ss_av (i := 7) (se_ov (se_cb cs_dictD (sa_b (se_c 2) sa_nil))))
  (ss_seq (ss_av (i := 8) (se_call0 (ro := false) (sa_b (se_c 6) (sa_v (se_v 1) (sa_b (se_c 7) (sa_v (se_v 3) (sa_v (se_v 4) sa_nil)))))))
  (ss_seq (ss_if (st_or (st_test (se_vc (se_op os_eqDR (se_c 7) (se_c 2)))) (st_not (st_test (se_vc (se_op os_eqO (se_c 6) (se_vc (se_make0 (sa_b (se_oc (se_cb cs_list (sa_b (se_c 0) sa_nil))) sa_nil))))))))
   (ss_rv se_bl)
   ss_nx)
  (ss_rv (se_and (se_vc (se_op os_eq (se_vc (se_op os_ixT (se_c 8) (se_vc se_int))) (se_vc (se_str (sok_by (by decide +kernel)))))) (se_and (se_vc (se_cb cs_isi (sa_b (se_vc (se_op os_ixT (se_c 8) (se_vc se_int))) (sa_b (se_vc se_ty) sa_nil)))) (se_op os_eq (se_vc (se_op os_ixT (se_c 8) (se_vc se_int))) (se_c 5)))))))))⟩) (fun _ _ _ h => h) (fun xs Q h => pure__law_met T.ca xs Q noX h)
--@@DEF _law_refused
theorem ok__law_refused (T : Env K mg) : FnOk P w K mg base CX0 9 T.f__law_refused T.d__law_refused ["rows", "end", "demands", "name", "strange", "less", "width", "plain"] (spOf K [.b, .v, .b, .v, .v, .v, .v, .v] false (p__law_refused T.ca)) :=
  fn_sim (ms := [.b, .v, .b, .v, .v, .v, .v, .v]) (ro := false) (b := w__law_refused T.ca) T.F__law_refused sc__law_refused rfl (fun cdv A outer s H E hr => ⟨_, (pss_cons (ps_set (i := 8) sc__law_refused.nd rfl (Or.inr rfl) (pe_callTy call_dictD (by rfl) T.n_dict (by decide +kernel) (pa_cons (pv 2) pa_nil)))
  (pss_cons (ps_dput (hu_of hr) (pv 8) (pv 3) (pe_op op_sub (pe_op op_sub pe_int pe_int) (pv 5)) rfl)
  (Evl.pss_cut (ps_if (pt_cmpR op_gt (pv 5) pe_int (nomark _))
   (pss_one (ps_dput (hu_of hr) (pv 8) (pv 4) (pe_op op_sub pe_int (pv 5)) rfl))
   pss_nil)
  (pss_cons (ps_set (i := 9) sc__law_refused.nd rfl (Or.inl rfl) (pe_ix ix_list (pe_callB cr_sortedS (by rfl) T.n_sorted (by decide +kernel) (pa_cons (pe_orLock (pe_lcX (own := [("one", 11)]) rfl sc__law_refused.nd (pi_keys (pv 8)) (blkOk_by (N := ["rows", "end", "demands", "name", "strange", "less", "width", "plain", "bad", "least", "handed", "one"]) (sc := defScope s__law_refused) (own := [("one", 11)]) (by decide +kernel)) (fun _ _ _ _ _ => (pg_name (i := 11) sc__law_refused.nd rfl (Or.inl rfl))) (fun _ _ _ _ _ => (pts_one (pt_cmpR op_lt (pe_dget (hu_of hr) (pv 8) (pv 11) (fun _ _ => rfl)) pe_int (nomark _)))) (fun _ _ _ _ _ => (pv 11)))) pa_nil)) pe_int (fun _ _ => rfl)))
  (pss_cons (ps_set (i := 10) sc__law_refused.nd rfl (Or.inl rfl) (pe_callTy call_dictD (by rfl) T.n_dict (by decide +kernel) (pa_cons (pv 8) pa_nil)))
  (pss_one (ps_ret (pe_and (pe_cmpR (op_eqD hr.units) (pe_call (ok__law_asked T) hr (by rfl) T.g__law_asked T.F__law_asked.kp T.b__law_asked .nil pass0 (pa_cons (pe_make T.mk_Sheaf (ok_Sheaf___init__ T) (hr.mono (show 4 ≤ 8 by decide)) (by rfl) T.g_Sheaf T.b_Sheaf___init__ .nil passL (pa_cons (pe_callTy call_list_of (by rfl) T.n_list (by decide +kernel) (pa_cons (pv 0) pa_nil)) pa_nil)) (pa_cons (pv 1) (pa_cons (pv 10) (pa_cons (pv 6) (pa_cons (pv 7) pa_nil)))))) (pe_tup (pa_cons pe_str (pa_cons (pv 9) pa_nil))) (nomark _)) (pe_one (pe_cmpR (op_eq_dictR hr.units) (pv 10) (pv 8) (nomark _))))))))))),
    (ss_seq (ss_ao (i := 8) (se_cb cs_dictD (sa_b (se_c 2) sa_nil)))
  (ss_seq (ss_dput (i := 8) (se_op os_i (se_vc (se_op os_i (se_vc se_int) (se_vc se_int))) (se_c 5)) (se_c 3))
  (ss_cut (ss_if (st_test (se_vc (se_op os_b (se_c 5) (se_vc se_int))))
   (ss_dput (i := 8) (se_op os_i (se_vc se_int) (se_c 5)) (se_c 4))
   ss_nx)
  (ss_frz 8 (ss_seq (ss_av (i := 9) (se_op os_ixL (se_oc (se_cb cs_sortS (sa_b (se_oc (se_lcKeys 8 (sg_all fun _ _ _ _ _ => (sg_n 11)) (st_all fun _ _ _ _ _ => (st_test (se_vc (se_op os_b (se_vc (se_dget (se_c 8) (se_c 11))) (se_vc se_int))))) (se_all fun _ _ _ _ _ => (se_v 11)) (by decide))) sa_nil))) (se_vc se_int)))
  (ss_seq (ss_av (i := 10) (se_ov (se_cb cs_dictD (sa_b (se_c 8) sa_nil))))
  (ss_rv (se_and (se_vc (se_op os_eqD (se_vc (se_call0 (ro := false) (sa_b (se_vc (se_make0 (sa_b (se_oc (se_cb cs_list (sa_b (se_c 0) sa_nil))) sa_nil))) (sa_v (se_v 1) (sa_b (se_c 10) (sa_v (se_v 6) (sa_v (se_v 7) sa_nil))))))) (se_vc (se_tup (sa_v (se_str (sok_by (by decide +kernel))) (sa_v (se_v 9) sa_nil)))))) (se_op os_eqDR (se_c 10) (se_c 8))))))))))⟩) (fun _ _ _ h => h) (fun xs Q h => pure__law_refused T.ca xs Q noX h)
--@@DEF law
theorem ok_law (T : Env K mg) : FnOk P w K mg base CX0 10 T.f_law T.d_law ["script"] (spOf K [.v] false (p_law T.ca)) :=
  fn_sim (ms := [.v]) (ro := false) (b := w_law T.ca) T.F_law sc_law rfl (fun cdv A outer s H E hr => ⟨_, (pss_cons (ps_set (i := 1) sc_law.nd rfl (Or.inl rfl) (pe_call (ok__law_sheets T) (hr.mono (show 3 ≤ 9 by decide)) (by rfl) T.g__law_sheets T.F__law_sheets.kp T.b__law_sheets .nil pass0 (pa_cons (pv 0) (pa_cons pe_int (pa_cons pe_int (pa_cons pe_int (pa_cons pe_int (pa_cons pe_int (pa_cons pe_int (pa_cons pe_int pa_nil))))))))))
  (pss_cons (ps_set (i := 2) sc_law.nd rfl (Or.inl rfl) (pe_ix ix_tup (pv 1) pe_int (fun _ _ => rfl)))
  (pss_cons (ps_set (i := 3) sc_law.nd rfl (Or.inl rfl) (pe_callB call_len_seq (by rfl) T.n_len (by decide +kernel) (pa_cons (pv 2) pa_nil)))
  (pss_cons (ps_set (i := 4) sc_law.nd rfl (Or.inl rfl) (pe_ix ix_list (pe_ix ix_tup (pv 1) pe_int (fun _ _ => rfl)) (pv 3) (fun _ _ => rfl)))
  (pss_cons (ps_set (i := 5) sc_law.nd rfl (Or.inl rfl) (pe_call (ok__law_draws T) (hr.mono (show 1 ≤ 9 by decide)) (by rfl) T.g__law_draws T.F__law_draws.kp T.b__law_draws .nil pass0 (pa_cons (pe_call (ok__law_given T) (hr.mono (show 2 ≤ 9 by decide)) (by rfl) T.g__law_given T.F__law_given.kp T.b__law_given .nil pass0 (pa_cons (pv 0) (pa_cons pe_int pa_nil))) (pa_cons (pe_lst (pa_cons pe_int (pa_cons pe_int (pa_cons pe_int (pa_cons pe_int (pa_cons (pv 3) (pa_cons pe_int (pa_cons pe_int (pa_cons pe_int (pa_cons pe_int pa_nil)))))))))) pa_nil))))
  (pss_cons (ps_set (i := 6) sc_law.nd rfl (Or.inl rfl) (pe_cmpR op_eq (pe_ix ix_list (pv 5) pe_int (fun _ _ => rfl)) pe_int (nomark _)))
  (pss_cons (ps_set (i := 7) sc_law.nd rfl (Or.inl rfl) (pe_call (ok__law_width T) (hr.mono (show 1 ≤ 9 by decide)) (by rfl) T.g__law_width T.F__law_width.kp T.b__law_width .nil pass0 (pa_cons (pv 5) pa_nil)))
  (pss_cons (ps_set (i := 8) sc_law.nd rfl (Or.inl rfl) (pe_call (ok__law_wild_log T) (hr.mono (show 2 ≤ 9 by decide)) (by rfl) T.g__law_wild_log T.F__law_wild_log.kp T.b__law_wild_log .nil pass0 (pa_cons (pv 2) (pa_cons (pe_lcX (own := [("k", 15)]) rfl sc_law.nd (pi_range1 (by rfl) T.n_range (pa_cons (pe_ix ix_list (pv 5) pe_int (fun _ _ => rfl)) pa_nil)) (blkOk_by (N := ["script", "built", "rows", "count", "strange", "drawn", "plain", "width", "log", "left", "states", "end", "shares", "middle", "state", "k", "lessened", "more", "name", "above", "row"]) (sc := defScope s_law) (own := [("k", 15)]) (by decide +kernel)) (fun _ _ _ _ _ => (pg_name (i := 15) sc_law.nd rfl (Or.inl rfl))) (fun _ _ _ _ _ => pts_nil) (fun _ _ _ _ _ => (pe_call (ok__law_given T) (hr.mono (show 2 ≤ 9 by decide)) (by rfl) T.g__law_given T.F__law_given.kp T.b__law_given .nil pass0 (pa_cons (pv 0) (pa_cons (pe_op op_add pe_int (pv 15)) pa_nil))))) (pa_cons (pv 7) (pa_cons pe_int pa_nil))))))
  (pss_cons (ps_set (i := 9) sc_law.nd rfl (Or.inl rfl) (pe_ix ix_list (pe_call (ok__law_walk T) (hr.mono (show 2 ≤ 9 by decide)) (by rfl) T.g__law_walk T.F__law_walk.kp T.b__law_walk .nil pass0 (pa_cons (pv 2) (pa_cons (pv 8) pa_nil))) (pe_callB call_len_seq (by rfl) T.n_len (by decide +kernel) (pa_cons (pv 8) pa_nil)) (fun _ _ => rfl)))
  (pss_cons (ps_set (i := 8) sc_law.nd rfl (Or.inl rfl) (pe_call (ok__law_finished T) (hr.mono (show 2 ≤ 9 by decide)) (by rfl) T.g__law_finished T.F__law_finished.kp T.b__law_finished .nil pass0 (pa_cons (pv 9) (pa_cons (pv 8) (pa_cons (pe_ix ix_list (pv 5) pe_int (fun _ _ => rfl)) pa_nil)))))
  (pss_cons (ps_set (i := 10) sc_law.nd rfl (Or.inl rfl) (pe_call (ok__law_walk T) (hr.mono (show 2 ≤ 9 by decide)) (by rfl) T.g__law_walk T.F__law_walk.kp T.b__law_walk .nil pass0 (pa_cons (pv 2) (pa_cons (pv 8) pa_nil))))
  (pss_cons (ps_set (i := 11) sc_law.nd rfl (Or.inl rfl) (pe_ix ix_tup (pe_ix ix_list (pe_ix ix_list (pv 10) (pe_callB call_len_seq (by rfl) T.n_len (by decide +kernel) (pa_cons (pv 8) pa_nil)) (fun _ _ => rfl)) pe_int (fun _ _ => rfl)) pe_int (fun _ _ => rfl)))
  (pss_cons (ps_set (i := 12) sc_law.nd rfl (Or.inl rfl) (pe_call (ok__law_shares T) (hr.mono (show 1 ≤ 9 by decide)) (by rfl) T.g__law_shares T.F__law_shares.kp T.b__law_shares .nil pass0 (pa_cons (pe_ix ix_list (pv 10) (pe_callB call_len_seq (by rfl) T.n_len (by decide +kernel) (pa_cons (pv 8) pa_nil)) (fun _ _ => rfl)) pa_nil)))
  (pss_cons (ps_set (i := 13) sc_law.nd rfl (Or.inl rfl) (pe_ix ix_list (pv 10) (pe_op op_mod (pe_callTy call_int1 (by rfl) T.n_int (by decide +kernel) (pa_cons (pe_ix ix_list (pv 5) pe_int (fun _ _ => rfl)) pa_nil)) (pe_callB call_len_seq (by rfl) T.n_len (by decide +kernel) (pa_cons (pv 10) pa_nil))) (fun _ _ => rfl)))
  (pss_cons (ps_for PassesOwn.never rfl (pi_list (pe_lst (pa_cons (pv 2) (pa_cons (pv 13) (pa_cons (pe_ix ix_list (pv 10) (pe_callB call_len_seq (by rfl) T.n_len (by decide +kernel) (pa_cons (pv 8) pa_nil)) (fun _ _ => rfl)) pa_nil))))) (pg_name (i := 14) sc_law.nd rfl (Or.inl rfl))
   (pss_cons (ps_for PassesOwn.never rfl (pi_range1 (by rfl) T.n_range (pa_cons pe_int pa_nil)) (pg_name (i := 15) sc_law.nd rfl (Or.inl rfl))
    (pss_cons (ps_set (i := 16) sc_law.nd rfl (Or.inl rfl) (pe_call (ok__law_lessened T) (hr.mono (show 2 ≤ 9 by decide)) (by rfl) T.g__law_lessened T.F__law_lessened.kp T.b__law_lessened .nil pass0 (pa_cons (pv 12) (pa_cons (pe_call (ok__law_given T) (hr.mono (show 2 ≤ 9 by decide)) (by rfl) T.g__law_given T.F__law_given.kp T.b__law_given .nil pass0 (pa_cons (pv 0) (pa_cons (pe_op op_add pe_int (pv 15)) pa_nil))) pa_nil))))
    (pss_one (ps_if (pt_not (pt_val (pe_call (ok__law_met T) hr (by rfl) T.g__law_met T.F__law_met.kp T.b__law_met .nil pass0 (pa_cons (pv 14) (pa_cons (pv 11) (pa_cons (pv 16) (pa_cons (pv 7) (pa_cons (pv 6) (pa_cons pe_bl pa_nil)))))))))
     (pss_one (ps_ret pe_bl))
     pss_nil))))
   (pss_cons (ps_if (pt_not (pt_val (pe_call (ok__law_met T) hr (by rfl) T.g__law_met T.F__law_met.kp T.b__law_met .nil pass0 (pa_cons (pv 14) (pa_cons (pv 11) (pa_cons (pv 12) (pa_cons (pv 7) (pa_cons (pv 6) (pa_cons pe_bl pa_nil)))))))))
    (pss_one (ps_ret pe_bl))
    pss_nil)
   (pss_one (ps_if (PW.pt (pw_and (pt_cmpR op_lt (pv 7) pe_int (nomark _)) (pw_and1 (pt_not (pt_val (pe_call (ok__law_met T) hr (by rfl) T.g__law_met T.F__law_met.kp T.b__law_met .nil pass0 (pa_cons (pv 14) (pa_cons (pv 11) (pa_cons (pv 12) (pa_cons (pe_op op_add (pv 7) pe_int) (pa_cons pe_bl (pa_cons pe_bl pa_nil))))))))))))
    (pss_one (ps_ret pe_bl))
    pss_nil)))))
  (pss_cons (ps_set (i := 17) sc_law.nd rfl (Or.inl rfl) (pe_callTy call_dictD (by rfl) T.n_dict (by decide +kernel) (pa_cons (pv 12) pa_nil)))
  (pss_cons (ps_dput (hu_of hr) (pv 17) (pv 4) pe_int rfl)
  (pss_cons (ps_if (PW.pt (pw_or (pt_not (pt_val (pe_call (ok__law_met T) hr (by rfl) T.g__law_met T.F__law_met.kp T.b__law_met .nil pass0 (pa_cons (pv 2) (pa_cons (pv 11) (pa_cons (pv 17) (pa_cons (pv 7) (pa_cons (pv 6) (pa_cons pe_bl pa_nil))))))))) (pw_or1 (pt_not (pt_val (pe_call (ok__law_met T) hr (by rfl) T.g__law_met T.F__law_met.kp T.b__law_met .nil pass0 (pa_cons (pv 2) (pa_cons (pv 11) (pa_cons pe_dnewK (pa_cons (pv 7) (pa_cons (pv 6) (pa_cons pe_bl pa_nil))))))))))))
   (pss_one (ps_ret pe_bl))
   pss_nil)
  (pss_cons (ps_set (i := 18) sc_law.nd rfl (Or.inl rfl) (pe_ix ix_tup (pe_ix ix_list (pv 2) (pe_ix ix_list (pv 5) pe_int (fun _ _ => rfl)) (fun _ _ => rfl)) pe_int (fun _ _ => rfl)))
  (pss_cons (ps_dput (hu_of hr) (pv 17) (pv 18) (pe_op op_add (pe_dget2 (hu_of hr) (pv 17) (pv 18) pe_int ⟨rfl, rfl, rfl, rfl⟩) pe_int) rfl)
  (pss_cons (ps_if (pt_not (pt_val (pe_call (ok__law_met T) hr (by rfl) T.g__law_met T.F__law_met.kp T.b__law_met .nil pass0 (pa_cons (pv 2) (pa_cons (pv 11) (pa_cons (pv 17) (pa_cons (pv 7) (pa_cons (pv 6) (pa_cons pe_bl pa_nil)))))))))
   (pss_one (ps_ret pe_bl))
   pss_nil)
  (pss_cons (ps_if (pt_not (pt_val (pe_call (ok__law_met T) hr (by rfl) T.g__law_met T.F__law_met.kp T.b__law_met .nil pass0 (pa_cons (pv 2) (pa_cons (pv 11) (pa_cons (pe_disp (pps_cons (pv 4) pe_int pps_nil) rfl rfl (by intro z; cases z) (by decide)) (pa_cons (pv 7) (pa_cons (pv 6) (pa_cons pe_bl pa_nil)))))))))
   (pss_one (ps_ret pe_bl))
   pss_nil)
  (pss_cons (ps_set (i := 19) sc_law.nd rfl (Or.inl rfl) (pe_op op_add (pe_op op_add (pe_callB (cr_max rfl) (by rfl) T.n_max (by decide +kernel) (pa_cons (pe_lcX (own := [("row", 20)]) rfl sc_law.nd (pi_list (pv 2)) (blkOk_by (N := ["script", "built", "rows", "count", "strange", "drawn", "plain", "width", "log", "left", "states", "end", "shares", "middle", "state", "k", "lessened", "more", "name", "above", "row"]) (sc := defScope s_law) (own := [("row", 20)]) (by decide +kernel)) (fun _ _ _ _ _ => (pg_name (i := 20) sc_law.nd rfl (Or.inl rfl))) (fun _ _ _ _ _ => pts_nil) (fun _ _ _ _ _ => (pe_ix ix_tup (pv 20) pe_int (fun _ _ => rfl)))) pa_nil)) pe_int) (pe_ix ix_list (pv 5) pe_int (fun _ _ => rfl))))
  (pss_cons (ps_if (pt_not (pt_val (pe_call (ok__law_met T) hr (by rfl) T.g__law_met T.F__law_met.kp T.b__law_met .nil pass0 (pa_cons (pv 2) (pa_cons (pv 19) (pa_cons pe_dnewK (pa_cons (pv 7) (pa_cons (pv 6) (pa_cons pe_bl pa_nil)))))))))
   (pss_one (ps_ret pe_bl))
   pss_nil)
  (pss_cons (ps_if (pt_cmpR op_gt (pe_ix ix_list (pv 5) pe_int (fun _ _ => rfl)) pe_int (nomark _))
   (pss_one (ps_ret pe_bl))
   pss_nil)
  (pss_one (ps_ret (pe_call (ok__law_refused T) hr (by rfl) T.g__law_refused T.F__law_refused.kp T.b__law_refused .nil pass0 (pa_cons (pv 2) (pa_cons (pv 19) (pa_cons (pv 12) (pa_cons (pv 18) (pa_cons (pv 4) (pa_cons (pe_ix ix_list (pv 5) pe_int (fun _ _ => rfl)) (pa_cons (pv 7) (pa_cons (pv 6) pa_nil)))))))))))))))))))))))))))))))))))),
    (ss_seq (ss_av (i := 1) (se_call0 (ro := false) (sa_v (se_v 0) (sa_v se_int (sa_v se_int (sa_v se_int (sa_v se_int (sa_v se_int (sa_v se_int (sa_v se_int sa_nil))))))))))
  (ss_seq (ss_av (i := 2) (se_op os_ixT (se_c 1) (se_vc se_int)))
  (ss_seq (ss_av (i := 3) (se_cb cs_len (sa_b (se_c 2) sa_nil)))
  (ss_seq (ss_av (i := 4) (se_op os_ixL (se_vc (se_op os_ixT (se_c 1) (se_vc se_int))) (se_c 3)))
  (ss_seq (ss_av (i := 5) (se_ov (se_call0 (ro := true) (sa_v (se_call0 (ro := false) (sa_v (se_v 0) (sa_v se_int sa_nil))) (sa_b (se_oc (se_lst (sa_v se_int (sa_v se_int (sa_v se_int (sa_v se_int (sa_v (se_v 3) (sa_v se_int (sa_v se_int (sa_v se_int (sa_v se_int sa_nil))))))))))) sa_nil)))))
  (ss_seq (ss_av (i := 6) (se_op os_eq (se_vc (se_op os_ixL (se_c 5) (se_vc se_int))) (se_vc se_int)))
  (ss_seq (ss_av (i := 7) (se_call0 (ro := false) (sa_b (se_c 5) sa_nil)))
  (ss_seq (ss_av (i := 8) (se_ov (se_call0 (ro := true) (sa_v (se_v 2) (sa_b (se_oc (se_lc (SimI.c (si_r1 (sa_b (se_vc (se_op os_ixL (se_c 5) (se_vc se_int))) sa_nil))) (sg_all fun _ _ _ _ _ => (sg_n 15)) (st_all fun _ _ _ _ _ => st_yes) (se_all fun _ _ _ _ _ => (se_call0 (ro := false) (sa_v (se_v 0) (sa_v (se_op os_i (se_vc se_int) (se_c 15)) sa_nil)))) (by decide))) (sa_v (se_v 7) (sa_v se_int sa_nil)))))))
  (ss_seq (ss_av (i := 9) (se_op os_ixL (se_oc (se_call0 (ro := true) (sa_v (se_v 2) (sa_b (se_c 8) sa_nil)))) (se_vc (se_cb cs_len (sa_b (se_c 8) sa_nil)))))
  (ss_seq (ss_av (i := 8) (se_ov (se_call0 (ro := true) (sa_v (se_v 9) (sa_b (se_c 8) (sa_v (se_op os_ixL (se_c 5) (se_vc se_int)) sa_nil))))))
  (ss_seq (ss_av (i := 10) (se_ov (se_call0 (ro := true) (sa_v (se_v 2) (sa_b (se_c 8) sa_nil)))))
  (ss_seq (ss_av (i := 11) (se_op os_ixT (se_vc (se_op os_ixL (se_vc (se_op os_ixL (se_c 10) (se_vc (se_cb cs_len (sa_b (se_c 8) sa_nil))))) (se_vc se_int))) (se_vc se_int)))
  (ss_seq (ss_av (i := 12) (se_ov (se_call0 (ro := true) (sa_b (se_vc (se_op os_ixL (se_c 10) (se_vc (se_cb cs_len (sa_b (se_c 8) sa_nil))))) sa_nil))))
  (ss_seq (ss_av (i := 13) (se_op os_ixL (se_c 10) (se_vc (se_op os_ic (se_vc (se_cb cs_int1 (sa_b (se_vc (se_op os_ixL (se_c 5) (se_vc se_int))) sa_nil))) (se_vc (se_cb cs_len (sa_b (se_c 10) sa_nil)))))))
  (ss_seq (ss_for (si_list (se_ov (se_lst (sa_v (se_v 2) (sa_v (se_v 13) (sa_v (se_op os_ixL (se_c 10) (se_vc (se_cb cs_len (sa_b (se_c 8) sa_nil)))) sa_nil)))))) (sg_n 14)
   (ss_seq (ss_for (si_r1 (sa_b (se_vc se_int) sa_nil)) (sg_n 15)
    (ss_seq (ss_av (i := 16) (se_ov (se_call0 (ro := true) (sa_b (se_c 12) (sa_v (se_call0 (ro := false) (sa_v (se_v 0) (sa_v (se_op os_i (se_vc se_int) (se_c 15)) sa_nil))) sa_nil)))))
    (ss_if (st_not (st_val (se_vc (se_call0 (ro := false) (sa_b (se_c 14) (sa_v (se_v 11) (sa_b (se_c 16) (sa_v (se_v 7) (sa_v (se_v 6) (sa_v se_bl sa_nil))))))))))
     (ss_rv se_bl)
     ss_nx)))
   (ss_seq (ss_if (st_not (st_val (se_vc (se_call0 (ro := false) (sa_b (se_c 14) (sa_v (se_v 11) (sa_b (se_c 12) (sa_v (se_v 7) (sa_v (se_v 6) (sa_v se_bl sa_nil))))))))))
    (ss_rv se_bl)
    ss_nx)
   (ss_if (st_and (st_test (se_vc (se_op os_b (se_c 7) (se_vc se_int)))) (st_not (st_val (se_vc (se_call0 (ro := false) (sa_b (se_c 14) (sa_v (se_v 11) (sa_b (se_c 12) (sa_v (se_op os_i (se_c 7) (se_vc se_int)) (sa_v se_bl (sa_v se_bl sa_nil)))))))))))
    (ss_rv se_bl)
    ss_nx))))
  (ss_seq (ss_ao (i := 17) (se_cb cs_dictD (sa_b (se_c 12) sa_nil)))
  (ss_seq (ss_dput (i := 17) se_int (se_c 4))
  (ss_seq (ss_if (st_or (st_not (st_val (se_vc (se_call0 (ro := false) (sa_b (se_c 2) (sa_v (se_v 11) (sa_b (se_c 17) (sa_v (se_v 7) (sa_v (se_v 6) (sa_v se_bl sa_nil)))))))))) (st_not (st_val (se_vc (se_call0 (ro := false) (sa_b (se_c 2) (sa_v (se_v 11) (sa_b (se_oc se_dnew) (sa_v (se_v 7) (sa_v (se_v 6) (sa_v se_bl sa_nil)))))))))))
   (ss_rv se_bl)
   ss_nx)
  (ss_seq (ss_av (i := 18) (se_op os_ixT (se_vc (se_op os_ixL (se_c 2) (se_vc (se_op os_ixL (se_c 5) (se_vc se_int))))) (se_vc se_int)))
  (ss_seq (ss_dput (i := 17) (se_op os_i (se_vc (se_dget2 (se_c 17) (se_c 18) se_int)) (se_vc se_int)) (se_c 18))
  (ss_seq (ss_if (st_not (st_val (se_vc (se_call0 (ro := false) (sa_b (se_c 2) (sa_v (se_v 11) (sa_b (se_c 17) (sa_v (se_v 7) (sa_v (se_v 6) (sa_v se_bl sa_nil))))))))))
   (ss_rv se_bl)
   ss_nx)
  (ss_seq (ss_if (st_not (st_val (se_vc (se_call0 (ro := false) (sa_b (se_c 2) (sa_v (se_v 11) (sa_b (se_oc (se_disp1 (se_v 4) se_int)) (sa_v (se_v 7) (sa_v (se_v 6) (sa_v se_bl sa_nil))))))))))
   (ss_rv se_bl)
   ss_nx)
  (ss_seq (ss_av (i := 19) (se_op os_i (se_vc (se_op os_i (se_vc (se_cb cs_max (sa_b (se_oc (se_lc (si_listc (se_c 2)) (sg_all fun _ _ _ _ _ => (sg_n 20)) (st_all fun _ _ _ _ _ => st_yes) (se_all fun _ _ _ _ _ => (se_op os_ixT (se_c 20) (se_vc se_int))) (by decide))) sa_nil))) (se_vc se_int))) (se_vc (se_op os_ixL (se_c 5) (se_vc se_int)))))
  (ss_seq (ss_if (st_not (st_val (se_vc (se_call0 (ro := false) (sa_b (se_c 2) (sa_v (se_v 19) (sa_b (se_oc se_dnew) (sa_v (se_v 7) (sa_v (se_v 6) (sa_v se_bl sa_nil))))))))))
   (ss_rv se_bl)
   ss_nx)
  (ss_seq (ss_if (st_test (se_vc (se_op os_b (se_vc (se_op os_ixL (se_c 5) (se_vc se_int))) (se_vc se_int))))
   (ss_rv se_bl)
   ss_nx)
  (ss_rv (se_call0 (ro := false) (sa_b (se_c 2) (sa_v (se_v 19) (sa_b (se_c 12) (sa_v (se_v 18) (sa_v (se_v 4) (sa_v (se_op os_ixL (se_c 5) (se_vc se_int)) (sa_v (se_v 7) (sa_v (se_v 6) sa_nil)))))))))))))))))))))))))))))))))))⟩) (fun _ _ _ h => h) (fun xs Q h => pure_law T.ca xs Q noX h)
--@@END
end
theorem all_mk {l : PySem.W.OpenLaw} {w : World} {K : PySem.W.Frag} {h : Heap} {mg : Str → Option Value} {fa : Addr} (X : K.In h) (G : h.Ns mainGlobals mg) (hfa : mg "law" = some (.ref fa))
    {C_WornError : Addr}
    {C_InvalidSheaf : Addr}
    {C_InvalidDeed : Addr}
    {C_InvalidEntry : Addr}
    {C_InvalidText : Addr}
    {C_InvalidBox : Addr}
    {C_InvalidDemands : Addr}
    {C_UnknownRecord : Addr}
    {C_Impossible : Addr}
    {C_RepeatedRecord : Addr}
    {C_NoOutcome : Addr}
    {C_ContradictoryLog : Addr}
    {C_InvalidRound : Addr}
    {C_WrongMove : Addr}
    {C_InvalidName : Addr}
    {C_UsedName : Addr}
    {C_UnknownName : Addr}
    {C_NothingToUndo : Addr}
    {C_NothingToRedo : Addr}
    {C_Spoiled : Addr}
    {C_InvalidPage : Addr}
    {C_Sheaf : Addr}
    {f__power : Addr} {od__power an__power : Option Addr} {sl__power : Array (Option Value)} {oc__power kV__power dc__power pm__power cd__power ct__power : Value}
    {f_valid_record : Addr} {od_valid_record an_valid_record : Option Addr} {sl_valid_record : Array (Option Value)} {oc_valid_record kV_valid_record dc_valid_record pm_valid_record cd_valid_record ct_valid_record : Value}
    {f__law_cell : Addr} {od__law_cell an__law_cell : Option Addr} {sl__law_cell : Array (Option Value)} {oc__law_cell kV__law_cell dc__law_cell pm__law_cell cd__law_cell ct__law_cell : Value}
    {f__law_draws : Addr} {od__law_draws an__law_draws : Option Addr} {sl__law_draws : Array (Option Value)} {oc__law_draws kV__law_draws dc__law_draws pm__law_draws cd__law_draws ct__law_draws : Value}
    {f__law_width : Addr} {od__law_width an__law_width : Option Addr} {sl__law_width : Array (Option Value)} {oc__law_width kV__law_width dc__law_width pm__law_width cd__law_width ct__law_width : Value}
    {f__law_moved : Addr} {od__law_moved an__law_moved : Option Addr} {sl__law_moved : Array (Option Value)} {oc__law_moved kV__law_moved dc__law_moved pm__law_moved cd__law_moved ct__law_moved : Value}
    {f__law_single : Addr} {od__law_single an__law_single : Option Addr} {sl__law_single : Array (Option Value)} {oc__law_single kV__law_single dc__law_single pm__law_single cd__law_single ct__law_single : Value}
    {f__law_shares : Addr} {od__law_shares an__law_shares : Option Addr} {sl__law_shares : Array (Option Value)} {oc__law_shares kV__law_shares dc__law_shares pm__law_shares cd__law_shares ct__law_shares : Value}
    {f_InvalidSheaf___init__ : Addr} {od_InvalidSheaf___init__ an_InvalidSheaf___init__ : Option Addr} {sl_InvalidSheaf___init__ : Array (Option Value)} {oc_InvalidSheaf___init__ kV_InvalidSheaf___init__ dc_InvalidSheaf___init__ pm_InvalidSheaf___init__ cd_InvalidSheaf___init__ ct_InvalidSheaf___init__ : Value}
    {f_InvalidDemands___init__ : Addr} {od_InvalidDemands___init__ an_InvalidDemands___init__ : Option Addr} {sl_InvalidDemands___init__ : Array (Option Value)} {oc_InvalidDemands___init__ kV_InvalidDemands___init__ dc_InvalidDemands___init__ pm_InvalidDemands___init__ cd_InvalidDemands___init__ ct_InvalidDemands___init__ : Value}
    {f_Sheaf___len__ : Addr} {od_Sheaf___len__ an_Sheaf___len__ : Option Addr} {sl_Sheaf___len__ : Array (Option Value)} {oc_Sheaf___len__ kV_Sheaf___len__ dc_Sheaf___len__ pm_Sheaf___len__ cd_Sheaf___len__ ct_Sheaf___len__ : Value}
    {f_Sheaf___iter__ : Addr} {od_Sheaf___iter__ an_Sheaf___iter__ : Option Addr} {sl_Sheaf___iter__ : Array (Option Value)} {oc_Sheaf___iter__ kV_Sheaf___iter__ dc_Sheaf___iter__ pm_Sheaf___iter__ cd_Sheaf___iter__ ct_Sheaf___iter__ : Value}
    {f_Sheaf___eq__ : Addr} {od_Sheaf___eq__ an_Sheaf___eq__ : Option Addr} {sl_Sheaf___eq__ : Array (Option Value)} {oc_Sheaf___eq__ kV_Sheaf___eq__ dc_Sheaf___eq__ pm_Sheaf___eq__ cd_Sheaf___eq__ ct_Sheaf___eq__ : Value}
    {f_Sheaf_top : Addr} {od_Sheaf_top an_Sheaf_top : Option Addr} {sl_Sheaf_top : Array (Option Value)} {oc_Sheaf_top kV_Sheaf_top dc_Sheaf_top pm_Sheaf_top cd_Sheaf_top ct_Sheaf_top : Value}
    {f_Sheaf_rows : Addr} {od_Sheaf_rows an_Sheaf_rows : Option Addr} {sl_Sheaf_rows : Array (Option Value)} {oc_Sheaf_rows kV_Sheaf_rows dc_Sheaf_rows pm_Sheaf_rows cd_Sheaf_rows ct_Sheaf_rows : Value}
    {f_Sheaf_sharpness_of : Addr} {od_Sheaf_sharpness_of an_Sheaf_sharpness_of : Option Addr} {sl_Sheaf_sharpness_of : Array (Option Value)} {oc_Sheaf_sharpness_of kV_Sheaf_sharpness_of dc_Sheaf_sharpness_of pm_Sheaf_sharpness_of cd_Sheaf_sharpness_of ct_Sheaf_sharpness_of : Value}
    {f_Sheaf_sheets_of : Addr} {od_Sheaf_sheets_of an_Sheaf_sheets_of : Option Addr} {sl_Sheaf_sheets_of : Array (Option Value)} {oc_Sheaf_sheets_of kV_Sheaf_sheets_of dc_Sheaf_sheets_of pm_Sheaf_sheets_of cd_Sheaf_sheets_of ct_Sheaf_sheets_of : Value}
    {f_cap : Addr} {od_cap an_cap : Option Addr} {sl_cap : Array (Option Value)} {oc_cap dc_cap pm_cap cd_cap ct_cap : Value} {KD_cap : Addr} {kt_cap : Tok}
    {f_falling_sheets : Addr} {od_falling_sheets an_falling_sheets : Option Addr} {sl_falling_sheets : Array (Option Value)} {oc_falling_sheets kV_falling_sheets dc_falling_sheets pm_falling_sheets cd_falling_sheets ct_falling_sheets : Value}
    {f__law_given : Addr} {od__law_given an__law_given : Option Addr} {sl__law_given : Array (Option Value)} {oc__law_given kV__law_given dc__law_given pm__law_given cd__law_given ct__law_given : Value}
    {f__law_names : Addr} {od__law_names an__law_names : Option Addr} {sl__law_names : Array (Option Value)} {oc__law_names kV__law_names dc__law_names pm__law_names cd__law_names ct__law_names : Value}
    {f__law_wild_log : Addr} {od__law_wild_log an__law_wild_log : Option Addr} {sl__law_wild_log : Array (Option Value)} {oc__law_wild_log kV__law_wild_log dc__law_wild_log pm__law_wild_log cd__law_wild_log ct__law_wild_log : Value}
    {f__law_finished : Addr} {od__law_finished an__law_finished : Option Addr} {sl__law_finished : Array (Option Value)} {oc__law_finished kV__law_finished dc__law_finished pm__law_finished cd__law_finished ct__law_finished : Value}
    {f__law_walk : Addr} {od__law_walk an__law_walk : Option Addr} {sl__law_walk : Array (Option Value)} {oc__law_walk kV__law_walk dc__law_walk pm__law_walk cd__law_walk ct__law_walk : Value}
    {f__law_lessened : Addr} {od__law_lessened an__law_lessened : Option Addr} {sl__law_lessened : Array (Option Value)} {oc__law_lessened kV__law_lessened dc__law_lessened pm__law_lessened cd__law_lessened ct__law_lessened : Value}
    {f_check_demands : Addr} {od_check_demands an_check_demands : Option Addr} {sl_check_demands : Array (Option Value)} {oc_check_demands kV_check_demands dc_check_demands pm_check_demands cd_check_demands ct_check_demands : Value}
    {f__cap_up_to : Addr} {od__cap_up_to an__cap_up_to : Option Addr} {sl__cap_up_to : Array (Option Value)} {oc__cap_up_to kV__cap_up_to dc__cap_up_to pm__cap_up_to cd__cap_up_to ct__cap_up_to : Value}
    {f__law_sheets : Addr} {od__law_sheets an__law_sheets : Option Addr} {sl__law_sheets : Array (Option Value)} {oc__law_sheets kV__law_sheets dc__law_sheets pm__law_sheets cd__law_sheets ct__law_sheets : Value}
    {f_Sheaf___init__ : Addr} {od_Sheaf___init__ an_Sheaf___init__ : Option Addr} {sl_Sheaf___init__ : Array (Option Value)} {oc_Sheaf___init__ kV_Sheaf___init__ dc_Sheaf___init__ pm_Sheaf___init__ cd_Sheaf___init__ ct_Sheaf___init__ : Value}
    {f__taken : Addr} {od__taken an__taken : Option Addr} {sl__taken : Array (Option Value)} {oc__taken kV__taken dc__taken pm__taken cd__taken ct__taken : Value}
    {f__reach_up_to : Addr} {od__reach_up_to an__reach_up_to : Option Addr} {sl__reach_up_to : Array (Option Value)} {oc__reach_up_to kV__reach_up_to dc__reach_up_to pm__reach_up_to cd__reach_up_to ct__reach_up_to : Value}
    {f_spare_sharpnesses : Addr} {od_spare_sharpnesses an_spare_sharpnesses : Option Addr} {sl_spare_sharpnesses : Array (Option Value)} {oc_spare_sharpnesses kV_spare_sharpnesses dc_spare_sharpnesses pm_spare_sharpnesses cd_spare_sharpnesses ct_spare_sharpnesses : Value}
    {f_set_aside : Addr} {od_set_aside an_set_aside : Option Addr} {sl_set_aside : Array (Option Value)} {oc_set_aside dc_set_aside pm_set_aside cd_set_aside ct_set_aside : Value} {KD_set_aside : Addr} {kt_set_aside : Tok}
    {f__height_trouble : Addr} {od__height_trouble an__height_trouble : Option Addr} {sl__height_trouble : Array (Option Value)} {oc__height_trouble kV__height_trouble dc__height_trouble pm__height_trouble cd__height_trouble ct__height_trouble : Value}
    {f_trouble : Addr} {od_trouble an_trouble : Option Addr} {sl_trouble : Array (Option Value)} {oc_trouble dc_trouble pm_trouble cd_trouble ct_trouble : Value} {KD_trouble : Addr} {kt_trouble : Tok}
    {f_can_meet : Addr} {od_can_meet an_can_meet : Option Addr} {sl_can_meet : Array (Option Value)} {oc_can_meet dc_can_meet pm_can_meet cd_can_meet ct_can_meet : Value} {KD_can_meet : Addr} {kt_can_meet : Tok}
    {f__law_asked : Addr} {od__law_asked an__law_asked : Option Addr} {sl__law_asked : Array (Option Value)} {oc__law_asked kV__law_asked dc__law_asked pm__law_asked cd__law_asked ct__law_asked : Value}
    {f__law_met : Addr} {od__law_met an__law_met : Option Addr} {sl__law_met : Array (Option Value)} {oc__law_met kV__law_met dc__law_met pm__law_met cd__law_met ct__law_met : Value}
    {f__law_refused : Addr} {od__law_refused an__law_refused : Option Addr} {sl__law_refused : Array (Option Value)} {oc__law_refused kV__law_refused dc__law_refused pm__law_refused cd__law_refused ct__law_refused : Value}
    {f_law : Addr} {od_law an_law : Option Addr} {sl_law : Array (Option Value)} {oc_law kV_law dc_law pm_law cd_law ct_law : Value}
    {t__RECORD_SIGNS : Tok}
    {t__LONGEST_RECORD : Tok}
    {nm_InvalidDemands q_InvalidDemands : Str} {N_InvalidDemands : Addr} {bs_InvalidDemands : List Value} {sn_InvalidDemands : List Str} {sub_InvalidDemands : List Value} {ab_InvalidDemands : Bool} {col_InvalidDemands : Option Bool} {dd_InvalidDemands : Option Addr} {m0_InvalidDemands m1_InvalidDemands m2_InvalidDemands m3_InvalidDemands m5_InvalidDemands : Option Value}
    {nm_InvalidSheaf q_InvalidSheaf : Str} {N_InvalidSheaf : Addr} {bs_InvalidSheaf : List Value} {sn_InvalidSheaf : List Str} {sub_InvalidSheaf : List Value} {ab_InvalidSheaf : Bool} {col_InvalidSheaf : Option Bool} {dd_InvalidSheaf : Option Addr} {m0_InvalidSheaf m1_InvalidSheaf m2_InvalidSheaf m3_InvalidSheaf m5_InvalidSheaf : Option Value}
    {po_Sheaf_top : Addr} {rs_Sheaf_top : List Value}
    (a_WornError : PySem.W.nsIn K mainGlobals "WornError" = some (some (.ref C_WornError)))
    (a_InvalidSheaf : PySem.W.nsIn K mainGlobals "InvalidSheaf" = some (some (.ref C_InvalidSheaf)))
    (a_InvalidDeed : PySem.W.nsIn K mainGlobals "InvalidDeed" = some (some (.ref C_InvalidDeed)))
    (a_InvalidEntry : PySem.W.nsIn K mainGlobals "InvalidEntry" = some (some (.ref C_InvalidEntry)))
    (a_InvalidText : PySem.W.nsIn K mainGlobals "InvalidText" = some (some (.ref C_InvalidText)))
    (a_InvalidBox : PySem.W.nsIn K mainGlobals "InvalidBox" = some (some (.ref C_InvalidBox)))
    (a_InvalidDemands : PySem.W.nsIn K mainGlobals "InvalidDemands" = some (some (.ref C_InvalidDemands)))
    (a_UnknownRecord : PySem.W.nsIn K mainGlobals "UnknownRecord" = some (some (.ref C_UnknownRecord)))
    (a_Impossible : PySem.W.nsIn K mainGlobals "Impossible" = some (some (.ref C_Impossible)))
    (a_RepeatedRecord : PySem.W.nsIn K mainGlobals "RepeatedRecord" = some (some (.ref C_RepeatedRecord)))
    (a_NoOutcome : PySem.W.nsIn K mainGlobals "NoOutcome" = some (some (.ref C_NoOutcome)))
    (a_ContradictoryLog : PySem.W.nsIn K mainGlobals "ContradictoryLog" = some (some (.ref C_ContradictoryLog)))
    (a_InvalidRound : PySem.W.nsIn K mainGlobals "InvalidRound" = some (some (.ref C_InvalidRound)))
    (a_WrongMove : PySem.W.nsIn K mainGlobals "WrongMove" = some (some (.ref C_WrongMove)))
    (a_InvalidName : PySem.W.nsIn K mainGlobals "InvalidName" = some (some (.ref C_InvalidName)))
    (a_UsedName : PySem.W.nsIn K mainGlobals "UsedName" = some (some (.ref C_UsedName)))
    (a_UnknownName : PySem.W.nsIn K mainGlobals "UnknownName" = some (some (.ref C_UnknownName)))
    (a_NothingToUndo : PySem.W.nsIn K mainGlobals "NothingToUndo" = some (some (.ref C_NothingToUndo)))
    (a_NothingToRedo : PySem.W.nsIn K mainGlobals "NothingToRedo" = some (some (.ref C_NothingToRedo)))
    (a_Spoiled : PySem.W.nsIn K mainGlobals "Spoiled" = some (some (.ref C_Spoiled)))
    (a_InvalidPage : PySem.W.nsIn K mainGlobals "InvalidPage" = some (some (.ref C_InvalidPage)))
    (a_Sheaf : PySem.W.nsIn K mainGlobals "Sheaf" = some (some (.ref C_Sheaf)))
    (a__power : PySem.W.nsIn K mainGlobals "_power" = some (some (.ref f__power)))
    (l__power : K.lookup f__power = some ⟨oc__power, od__power, .func (PySem.W.fnOf "_power" "_power" (defArgs s__power) (defBody s__power) (defScope s__power) .none kV__power dc__power pm__power an__power cd__power ct__power), sl__power⟩)
    (c__power : PySem.W.codeIn K cd__power "_power" = true)
    (k__power : PySem.W.keepIn K (.ref f__power) = true)
    (a_valid_record : PySem.W.nsIn K mainGlobals "valid_record" = some (some (.ref f_valid_record)))
    (l_valid_record : K.lookup f_valid_record = some ⟨oc_valid_record, od_valid_record, .func (PySem.W.fnOf "valid_record" "valid_record" (defArgs s_valid_record) (defBody s_valid_record) (defScope s_valid_record) .none kV_valid_record dc_valid_record pm_valid_record an_valid_record cd_valid_record ct_valid_record), sl_valid_record⟩)
    (c_valid_record : PySem.W.codeIn K cd_valid_record "valid_record" = true)
    (k_valid_record : PySem.W.keepIn K (.ref f_valid_record) = true)
    (a__law_cell : PySem.W.nsIn K mainGlobals "_law_cell" = some (some (.ref f__law_cell)))
    (l__law_cell : K.lookup f__law_cell = some ⟨oc__law_cell, od__law_cell, .func (PySem.W.fnOf "_law_cell" "_law_cell" (defArgs s__law_cell) (defBody s__law_cell) (defScope s__law_cell) .none kV__law_cell dc__law_cell pm__law_cell an__law_cell cd__law_cell ct__law_cell), sl__law_cell⟩)
    (c__law_cell : PySem.W.codeIn K cd__law_cell "_law_cell" = true)
    (k__law_cell : PySem.W.keepIn K (.ref f__law_cell) = true)
    (a__law_draws : PySem.W.nsIn K mainGlobals "_law_draws" = some (some (.ref f__law_draws)))
    (l__law_draws : K.lookup f__law_draws = some ⟨oc__law_draws, od__law_draws, .func (PySem.W.fnOf "_law_draws" "_law_draws" (defArgs s__law_draws) (defBody s__law_draws) (defScope s__law_draws) .none kV__law_draws dc__law_draws pm__law_draws an__law_draws cd__law_draws ct__law_draws), sl__law_draws⟩)
    (c__law_draws : PySem.W.codeIn K cd__law_draws "_law_draws" = true)
    (k__law_draws : PySem.W.keepIn K (.ref f__law_draws) = true)
    (a__law_width : PySem.W.nsIn K mainGlobals "_law_width" = some (some (.ref f__law_width)))
    (l__law_width : K.lookup f__law_width = some ⟨oc__law_width, od__law_width, .func (PySem.W.fnOf "_law_width" "_law_width" (defArgs s__law_width) (defBody s__law_width) (defScope s__law_width) .none kV__law_width dc__law_width pm__law_width an__law_width cd__law_width ct__law_width), sl__law_width⟩)
    (c__law_width : PySem.W.codeIn K cd__law_width "_law_width" = true)
    (k__law_width : PySem.W.keepIn K (.ref f__law_width) = true)
    (a__law_moved : PySem.W.nsIn K mainGlobals "_law_moved" = some (some (.ref f__law_moved)))
    (l__law_moved : K.lookup f__law_moved = some ⟨oc__law_moved, od__law_moved, .func (PySem.W.fnOf "_law_moved" "_law_moved" (defArgs s__law_moved) (defBody s__law_moved) (defScope s__law_moved) .none kV__law_moved dc__law_moved pm__law_moved an__law_moved cd__law_moved ct__law_moved), sl__law_moved⟩)
    (c__law_moved : PySem.W.codeIn K cd__law_moved "_law_moved" = true)
    (k__law_moved : PySem.W.keepIn K (.ref f__law_moved) = true)
    (a__law_single : PySem.W.nsIn K mainGlobals "_law_single" = some (some (.ref f__law_single)))
    (l__law_single : K.lookup f__law_single = some ⟨oc__law_single, od__law_single, .func (PySem.W.fnOf "_law_single" "_law_single" (defArgs s__law_single) (defBody s__law_single) (defScope s__law_single) .none kV__law_single dc__law_single pm__law_single an__law_single cd__law_single ct__law_single), sl__law_single⟩)
    (c__law_single : PySem.W.codeIn K cd__law_single "_law_single" = true)
    (k__law_single : PySem.W.keepIn K (.ref f__law_single) = true)
    (a__law_shares : PySem.W.nsIn K mainGlobals "_law_shares" = some (some (.ref f__law_shares)))
    (l__law_shares : K.lookup f__law_shares = some ⟨oc__law_shares, od__law_shares, .func (PySem.W.fnOf "_law_shares" "_law_shares" (defArgs s__law_shares) (defBody s__law_shares) (defScope s__law_shares) .none kV__law_shares dc__law_shares pm__law_shares an__law_shares cd__law_shares ct__law_shares), sl__law_shares⟩)
    (c__law_shares : PySem.W.codeIn K cd__law_shares "_law_shares" = true)
    (k__law_shares : PySem.W.keepIn K (.ref f__law_shares) = true)
    (a_InvalidSheaf___init__ : PySem.W.findIn K (.ref C_InvalidSheaf) "__init__" = some (some (.ref f_InvalidSheaf___init__)))
    (l_InvalidSheaf___init__ : K.lookup f_InvalidSheaf___init__ = some ⟨oc_InvalidSheaf___init__, od_InvalidSheaf___init__, .func (PySem.W.fnOf "__init__" "InvalidSheaf.__init__" (defArgs s_InvalidSheaf___init__) (defBody s_InvalidSheaf___init__) (defScope s_InvalidSheaf___init__) .none kV_InvalidSheaf___init__ dc_InvalidSheaf___init__ pm_InvalidSheaf___init__ an_InvalidSheaf___init__ cd_InvalidSheaf___init__ ct_InvalidSheaf___init__), sl_InvalidSheaf___init__⟩)
    (c_InvalidSheaf___init__ : PySem.W.codeIn K cd_InvalidSheaf___init__ "InvalidSheaf.__init__" = true)
    (k_InvalidSheaf___init__ : PySem.W.keepIn K (.ref f_InvalidSheaf___init__) = true)
    (a_InvalidDemands___init__ : PySem.W.findIn K (.ref C_InvalidDemands) "__init__" = some (some (.ref f_InvalidDemands___init__)))
    (l_InvalidDemands___init__ : K.lookup f_InvalidDemands___init__ = some ⟨oc_InvalidDemands___init__, od_InvalidDemands___init__, .func (PySem.W.fnOf "__init__" "InvalidDemands.__init__" (defArgs s_InvalidDemands___init__) (defBody s_InvalidDemands___init__) (defScope s_InvalidDemands___init__) .none kV_InvalidDemands___init__ dc_InvalidDemands___init__ pm_InvalidDemands___init__ an_InvalidDemands___init__ cd_InvalidDemands___init__ ct_InvalidDemands___init__), sl_InvalidDemands___init__⟩)
    (c_InvalidDemands___init__ : PySem.W.codeIn K cd_InvalidDemands___init__ "InvalidDemands.__init__" = true)
    (k_InvalidDemands___init__ : PySem.W.keepIn K (.ref f_InvalidDemands___init__) = true)
    (a_Sheaf___len__ : PySem.W.findIn K (.ref C_Sheaf) "__len__" = some (some (.ref f_Sheaf___len__)))
    (l_Sheaf___len__ : K.lookup f_Sheaf___len__ = some ⟨oc_Sheaf___len__, od_Sheaf___len__, .func (PySem.W.fnOf "__len__" "Sheaf.__len__" (defArgs s_Sheaf___len__) (defBody s_Sheaf___len__) (defScope s_Sheaf___len__) .none kV_Sheaf___len__ dc_Sheaf___len__ pm_Sheaf___len__ an_Sheaf___len__ cd_Sheaf___len__ ct_Sheaf___len__), sl_Sheaf___len__⟩)
    (c_Sheaf___len__ : PySem.W.codeIn K cd_Sheaf___len__ "Sheaf.__len__" = true)
    (k_Sheaf___len__ : PySem.W.keepIn K (.ref f_Sheaf___len__) = true)
    (a_Sheaf___iter__ : PySem.W.findIn K (.ref C_Sheaf) "__iter__" = some (some (.ref f_Sheaf___iter__)))
    (l_Sheaf___iter__ : K.lookup f_Sheaf___iter__ = some ⟨oc_Sheaf___iter__, od_Sheaf___iter__, .func (PySem.W.fnOf "__iter__" "Sheaf.__iter__" (defArgs s_Sheaf___iter__) (defBody s_Sheaf___iter__) (defScope s_Sheaf___iter__) .none kV_Sheaf___iter__ dc_Sheaf___iter__ pm_Sheaf___iter__ an_Sheaf___iter__ cd_Sheaf___iter__ ct_Sheaf___iter__), sl_Sheaf___iter__⟩)
    (c_Sheaf___iter__ : PySem.W.codeIn K cd_Sheaf___iter__ "Sheaf.__iter__" = true)
    (k_Sheaf___iter__ : PySem.W.keepIn K (.ref f_Sheaf___iter__) = true)
    (a_Sheaf___eq__ : PySem.W.findIn K (.ref C_Sheaf) "__eq__" = some (some (.ref f_Sheaf___eq__)))
    (l_Sheaf___eq__ : K.lookup f_Sheaf___eq__ = some ⟨oc_Sheaf___eq__, od_Sheaf___eq__, .func (PySem.W.fnOf "__eq__" "Sheaf.__eq__" (defArgs s_Sheaf___eq__) (defBody s_Sheaf___eq__) (defScope s_Sheaf___eq__) .none kV_Sheaf___eq__ dc_Sheaf___eq__ pm_Sheaf___eq__ an_Sheaf___eq__ cd_Sheaf___eq__ ct_Sheaf___eq__), sl_Sheaf___eq__⟩)
    (c_Sheaf___eq__ : PySem.W.codeIn K cd_Sheaf___eq__ "Sheaf.__eq__" = true)
    (k_Sheaf___eq__ : PySem.W.keepIn K (.ref f_Sheaf___eq__) = true)
    (pa_Sheaf_top : PySem.W.findIn K (.ref C_Sheaf) "top" = some (some (.ref po_Sheaf_top)))
    (prc_Sheaf_top : PySem.W.recIn K po_Sheaf_top "property" = some (.ref f_Sheaf_top :: rs_Sheaf_top))
    (l_Sheaf_top : K.lookup f_Sheaf_top = some ⟨oc_Sheaf_top, od_Sheaf_top, .func (PySem.W.fnOf "top" "Sheaf.top" (defArgs s_Sheaf_top) (defBody s_Sheaf_top) (defScope s_Sheaf_top) .none kV_Sheaf_top dc_Sheaf_top pm_Sheaf_top an_Sheaf_top cd_Sheaf_top ct_Sheaf_top), sl_Sheaf_top⟩)
    (c_Sheaf_top : PySem.W.codeIn K cd_Sheaf_top "Sheaf.top" = true)
    (k_Sheaf_top : PySem.W.keepIn K (.ref f_Sheaf_top) = true)
    (a_Sheaf_rows : PySem.W.findIn K (.ref C_Sheaf) "rows" = some (some (.ref f_Sheaf_rows)))
    (l_Sheaf_rows : K.lookup f_Sheaf_rows = some ⟨oc_Sheaf_rows, od_Sheaf_rows, .func (PySem.W.fnOf "rows" "Sheaf.rows" (defArgs s_Sheaf_rows) (defBody s_Sheaf_rows) (defScope s_Sheaf_rows) .none kV_Sheaf_rows dc_Sheaf_rows pm_Sheaf_rows an_Sheaf_rows cd_Sheaf_rows ct_Sheaf_rows), sl_Sheaf_rows⟩)
    (c_Sheaf_rows : PySem.W.codeIn K cd_Sheaf_rows "Sheaf.rows" = true)
    (k_Sheaf_rows : PySem.W.keepIn K (.ref f_Sheaf_rows) = true)
    (a_Sheaf_sharpness_of : PySem.W.findIn K (.ref C_Sheaf) "sharpness_of" = some (some (.ref f_Sheaf_sharpness_of)))
    (l_Sheaf_sharpness_of : K.lookup f_Sheaf_sharpness_of = some ⟨oc_Sheaf_sharpness_of, od_Sheaf_sharpness_of, .func (PySem.W.fnOf "sharpness_of" "Sheaf.sharpness_of" (defArgs s_Sheaf_sharpness_of) (defBody s_Sheaf_sharpness_of) (defScope s_Sheaf_sharpness_of) .none kV_Sheaf_sharpness_of dc_Sheaf_sharpness_of pm_Sheaf_sharpness_of an_Sheaf_sharpness_of cd_Sheaf_sharpness_of ct_Sheaf_sharpness_of), sl_Sheaf_sharpness_of⟩)
    (c_Sheaf_sharpness_of : PySem.W.codeIn K cd_Sheaf_sharpness_of "Sheaf.sharpness_of" = true)
    (k_Sheaf_sharpness_of : PySem.W.keepIn K (.ref f_Sheaf_sharpness_of) = true)
    (a_Sheaf_sheets_of : PySem.W.findIn K (.ref C_Sheaf) "sheets_of" = some (some (.ref f_Sheaf_sheets_of)))
    (l_Sheaf_sheets_of : K.lookup f_Sheaf_sheets_of = some ⟨oc_Sheaf_sheets_of, od_Sheaf_sheets_of, .func (PySem.W.fnOf "sheets_of" "Sheaf.sheets_of" (defArgs s_Sheaf_sheets_of) (defBody s_Sheaf_sheets_of) (defScope s_Sheaf_sheets_of) .none kV_Sheaf_sheets_of dc_Sheaf_sheets_of pm_Sheaf_sheets_of an_Sheaf_sheets_of cd_Sheaf_sheets_of ct_Sheaf_sheets_of), sl_Sheaf_sheets_of⟩)
    (c_Sheaf_sheets_of : PySem.W.codeIn K cd_Sheaf_sheets_of "Sheaf.sheets_of" = true)
    (k_Sheaf_sheets_of : PySem.W.keepIn K (.ref f_Sheaf_sheets_of) = true)
    (a_cap : PySem.W.nsIn K mainGlobals "cap" = some (some (.ref f_cap)))
    (l_cap : K.lookup f_cap = some ⟨oc_cap, od_cap, .func (PySem.W.fnOf "cap" "cap" (defArgs s_cap) (defBody s_cap) (defScope s_cap) .none (.ref KD_cap) dc_cap pm_cap an_cap cd_cap ct_cap), sl_cap⟩)
    (c_cap : PySem.W.codeIn K cd_cap "cap" = true)
    (k_cap : PySem.W.keepIn K (.ref f_cap) = true)
    (a_falling_sheets : PySem.W.nsIn K mainGlobals "falling_sheets" = some (some (.ref f_falling_sheets)))
    (l_falling_sheets : K.lookup f_falling_sheets = some ⟨oc_falling_sheets, od_falling_sheets, .func (PySem.W.fnOf "falling_sheets" "falling_sheets" (defArgs s_falling_sheets) (defBody s_falling_sheets) (defScope s_falling_sheets) .none kV_falling_sheets dc_falling_sheets pm_falling_sheets an_falling_sheets cd_falling_sheets ct_falling_sheets), sl_falling_sheets⟩)
    (c_falling_sheets : PySem.W.codeIn K cd_falling_sheets "falling_sheets" = true)
    (k_falling_sheets : PySem.W.keepIn K (.ref f_falling_sheets) = true)
    (a__law_given : PySem.W.nsIn K mainGlobals "_law_given" = some (some (.ref f__law_given)))
    (l__law_given : K.lookup f__law_given = some ⟨oc__law_given, od__law_given, .func (PySem.W.fnOf "_law_given" "_law_given" (defArgs s__law_given) (defBody s__law_given) (defScope s__law_given) .none kV__law_given dc__law_given pm__law_given an__law_given cd__law_given ct__law_given), sl__law_given⟩)
    (c__law_given : PySem.W.codeIn K cd__law_given "_law_given" = true)
    (k__law_given : PySem.W.keepIn K (.ref f__law_given) = true)
    (a__law_names : PySem.W.nsIn K mainGlobals "_law_names" = some (some (.ref f__law_names)))
    (l__law_names : K.lookup f__law_names = some ⟨oc__law_names, od__law_names, .func (PySem.W.fnOf "_law_names" "_law_names" (defArgs s__law_names) (defBody s__law_names) (defScope s__law_names) .none kV__law_names dc__law_names pm__law_names an__law_names cd__law_names ct__law_names), sl__law_names⟩)
    (c__law_names : PySem.W.codeIn K cd__law_names "_law_names" = true)
    (k__law_names : PySem.W.keepIn K (.ref f__law_names) = true)
    (a__law_wild_log : PySem.W.nsIn K mainGlobals "_law_wild_log" = some (some (.ref f__law_wild_log)))
    (l__law_wild_log : K.lookup f__law_wild_log = some ⟨oc__law_wild_log, od__law_wild_log, .func (PySem.W.fnOf "_law_wild_log" "_law_wild_log" (defArgs s__law_wild_log) (defBody s__law_wild_log) (defScope s__law_wild_log) .none kV__law_wild_log dc__law_wild_log pm__law_wild_log an__law_wild_log cd__law_wild_log ct__law_wild_log), sl__law_wild_log⟩)
    (c__law_wild_log : PySem.W.codeIn K cd__law_wild_log "_law_wild_log" = true)
    (k__law_wild_log : PySem.W.keepIn K (.ref f__law_wild_log) = true)
    (a__law_finished : PySem.W.nsIn K mainGlobals "_law_finished" = some (some (.ref f__law_finished)))
    (l__law_finished : K.lookup f__law_finished = some ⟨oc__law_finished, od__law_finished, .func (PySem.W.fnOf "_law_finished" "_law_finished" (defArgs s__law_finished) (defBody s__law_finished) (defScope s__law_finished) .none kV__law_finished dc__law_finished pm__law_finished an__law_finished cd__law_finished ct__law_finished), sl__law_finished⟩)
    (c__law_finished : PySem.W.codeIn K cd__law_finished "_law_finished" = true)
    (k__law_finished : PySem.W.keepIn K (.ref f__law_finished) = true)
    (a__law_walk : PySem.W.nsIn K mainGlobals "_law_walk" = some (some (.ref f__law_walk)))
    (l__law_walk : K.lookup f__law_walk = some ⟨oc__law_walk, od__law_walk, .func (PySem.W.fnOf "_law_walk" "_law_walk" (defArgs s__law_walk) (defBody s__law_walk) (defScope s__law_walk) .none kV__law_walk dc__law_walk pm__law_walk an__law_walk cd__law_walk ct__law_walk), sl__law_walk⟩)
    (c__law_walk : PySem.W.codeIn K cd__law_walk "_law_walk" = true)
    (k__law_walk : PySem.W.keepIn K (.ref f__law_walk) = true)
    (a__law_lessened : PySem.W.nsIn K mainGlobals "_law_lessened" = some (some (.ref f__law_lessened)))
    (l__law_lessened : K.lookup f__law_lessened = some ⟨oc__law_lessened, od__law_lessened, .func (PySem.W.fnOf "_law_lessened" "_law_lessened" (defArgs s__law_lessened) (defBody s__law_lessened) (defScope s__law_lessened) .none kV__law_lessened dc__law_lessened pm__law_lessened an__law_lessened cd__law_lessened ct__law_lessened), sl__law_lessened⟩)
    (c__law_lessened : PySem.W.codeIn K cd__law_lessened "_law_lessened" = true)
    (k__law_lessened : PySem.W.keepIn K (.ref f__law_lessened) = true)
    (a_check_demands : PySem.W.nsIn K mainGlobals "check_demands" = some (some (.ref f_check_demands)))
    (l_check_demands : K.lookup f_check_demands = some ⟨oc_check_demands, od_check_demands, .func (PySem.W.fnOf "check_demands" "check_demands" (defArgs s_check_demands) (defBody s_check_demands) (defScope s_check_demands) .none kV_check_demands dc_check_demands pm_check_demands an_check_demands cd_check_demands ct_check_demands), sl_check_demands⟩)
    (c_check_demands : PySem.W.codeIn K cd_check_demands "check_demands" = true)
    (k_check_demands : PySem.W.keepIn K (.ref f_check_demands) = true)
    (a__cap_up_to : PySem.W.nsIn K mainGlobals "_cap_up_to" = some (some (.ref f__cap_up_to)))
    (l__cap_up_to : K.lookup f__cap_up_to = some ⟨oc__cap_up_to, od__cap_up_to, .func (PySem.W.fnOf "_cap_up_to" "_cap_up_to" (defArgs s__cap_up_to) (defBody s__cap_up_to) (defScope s__cap_up_to) .none kV__cap_up_to dc__cap_up_to pm__cap_up_to an__cap_up_to cd__cap_up_to ct__cap_up_to), sl__cap_up_to⟩)
    (c__cap_up_to : PySem.W.codeIn K cd__cap_up_to "_cap_up_to" = true)
    (k__cap_up_to : PySem.W.keepIn K (.ref f__cap_up_to) = true)
    (a__law_sheets : PySem.W.nsIn K mainGlobals "_law_sheets" = some (some (.ref f__law_sheets)))
    (l__law_sheets : K.lookup f__law_sheets = some ⟨oc__law_sheets, od__law_sheets, .func (PySem.W.fnOf "_law_sheets" "_law_sheets" (defArgs s__law_sheets) (defBody s__law_sheets) (defScope s__law_sheets) .none kV__law_sheets dc__law_sheets pm__law_sheets an__law_sheets cd__law_sheets ct__law_sheets), sl__law_sheets⟩)
    (c__law_sheets : PySem.W.codeIn K cd__law_sheets "_law_sheets" = true)
    (k__law_sheets : PySem.W.keepIn K (.ref f__law_sheets) = true)
    (a_Sheaf___init__ : PySem.W.findIn K (.ref C_Sheaf) "__init__" = some (some (.ref f_Sheaf___init__)))
    (l_Sheaf___init__ : K.lookup f_Sheaf___init__ = some ⟨oc_Sheaf___init__, od_Sheaf___init__, .func (PySem.W.fnOf "__init__" "Sheaf.__init__" (defArgs s_Sheaf___init__) (defBody s_Sheaf___init__) (defScope s_Sheaf___init__) .none kV_Sheaf___init__ dc_Sheaf___init__ pm_Sheaf___init__ an_Sheaf___init__ cd_Sheaf___init__ ct_Sheaf___init__), sl_Sheaf___init__⟩)
    (c_Sheaf___init__ : PySem.W.codeIn K cd_Sheaf___init__ "Sheaf.__init__" = true)
    (k_Sheaf___init__ : PySem.W.keepIn K (.ref f_Sheaf___init__) = true)
    (a__taken : PySem.W.nsIn K mainGlobals "_taken" = some (some (.ref f__taken)))
    (l__taken : K.lookup f__taken = some ⟨oc__taken, od__taken, .func (PySem.W.fnOf "_taken" "_taken" (defArgs s__taken) (defBody s__taken) (defScope s__taken) .none kV__taken dc__taken pm__taken an__taken cd__taken ct__taken), sl__taken⟩)
    (c__taken : PySem.W.codeIn K cd__taken "_taken" = true)
    (k__taken : PySem.W.keepIn K (.ref f__taken) = true)
    (a__reach_up_to : PySem.W.nsIn K mainGlobals "_reach_up_to" = some (some (.ref f__reach_up_to)))
    (l__reach_up_to : K.lookup f__reach_up_to = some ⟨oc__reach_up_to, od__reach_up_to, .func (PySem.W.fnOf "_reach_up_to" "_reach_up_to" (defArgs s__reach_up_to) (defBody s__reach_up_to) (defScope s__reach_up_to) .none kV__reach_up_to dc__reach_up_to pm__reach_up_to an__reach_up_to cd__reach_up_to ct__reach_up_to), sl__reach_up_to⟩)
    (c__reach_up_to : PySem.W.codeIn K cd__reach_up_to "_reach_up_to" = true)
    (k__reach_up_to : PySem.W.keepIn K (.ref f__reach_up_to) = true)
    (a_spare_sharpnesses : PySem.W.nsIn K mainGlobals "spare_sharpnesses" = some (some (.ref f_spare_sharpnesses)))
    (l_spare_sharpnesses : K.lookup f_spare_sharpnesses = some ⟨oc_spare_sharpnesses, od_spare_sharpnesses, .func (PySem.W.fnOf "spare_sharpnesses" "spare_sharpnesses" (defArgs s_spare_sharpnesses) (defBody s_spare_sharpnesses) (defScope s_spare_sharpnesses) .none kV_spare_sharpnesses dc_spare_sharpnesses pm_spare_sharpnesses an_spare_sharpnesses cd_spare_sharpnesses ct_spare_sharpnesses), sl_spare_sharpnesses⟩)
    (c_spare_sharpnesses : PySem.W.codeIn K cd_spare_sharpnesses "spare_sharpnesses" = true)
    (k_spare_sharpnesses : PySem.W.keepIn K (.ref f_spare_sharpnesses) = true)
    (a_set_aside : PySem.W.nsIn K mainGlobals "set_aside" = some (some (.ref f_set_aside)))
    (l_set_aside : K.lookup f_set_aside = some ⟨oc_set_aside, od_set_aside, .func (PySem.W.fnOf "set_aside" "set_aside" (defArgs s_set_aside) (defBody s_set_aside) (defScope s_set_aside) .none (.ref KD_set_aside) dc_set_aside pm_set_aside an_set_aside cd_set_aside ct_set_aside), sl_set_aside⟩)
    (c_set_aside : PySem.W.codeIn K cd_set_aside "set_aside" = true)
    (k_set_aside : PySem.W.keepIn K (.ref f_set_aside) = true)
    (a__height_trouble : PySem.W.nsIn K mainGlobals "_height_trouble" = some (some (.ref f__height_trouble)))
    (l__height_trouble : K.lookup f__height_trouble = some ⟨oc__height_trouble, od__height_trouble, .func (PySem.W.fnOf "_height_trouble" "_height_trouble" (defArgs s__height_trouble) (defBody s__height_trouble) (defScope s__height_trouble) .none kV__height_trouble dc__height_trouble pm__height_trouble an__height_trouble cd__height_trouble ct__height_trouble), sl__height_trouble⟩)
    (c__height_trouble : PySem.W.codeIn K cd__height_trouble "_height_trouble" = true)
    (k__height_trouble : PySem.W.keepIn K (.ref f__height_trouble) = true)
    (a_trouble : PySem.W.nsIn K mainGlobals "trouble" = some (some (.ref f_trouble)))
    (l_trouble : K.lookup f_trouble = some ⟨oc_trouble, od_trouble, .func (PySem.W.fnOf "trouble" "trouble" (defArgs s_trouble) (defBody s_trouble) (defScope s_trouble) .none (.ref KD_trouble) dc_trouble pm_trouble an_trouble cd_trouble ct_trouble), sl_trouble⟩)
    (c_trouble : PySem.W.codeIn K cd_trouble "trouble" = true)
    (k_trouble : PySem.W.keepIn K (.ref f_trouble) = true)
    (a_can_meet : PySem.W.nsIn K mainGlobals "can_meet" = some (some (.ref f_can_meet)))
    (l_can_meet : K.lookup f_can_meet = some ⟨oc_can_meet, od_can_meet, .func (PySem.W.fnOf "can_meet" "can_meet" (defArgs s_can_meet) (defBody s_can_meet) (defScope s_can_meet) .none (.ref KD_can_meet) dc_can_meet pm_can_meet an_can_meet cd_can_meet ct_can_meet), sl_can_meet⟩)
    (c_can_meet : PySem.W.codeIn K cd_can_meet "can_meet" = true)
    (k_can_meet : PySem.W.keepIn K (.ref f_can_meet) = true)
    (a__law_asked : PySem.W.nsIn K mainGlobals "_law_asked" = some (some (.ref f__law_asked)))
    (l__law_asked : K.lookup f__law_asked = some ⟨oc__law_asked, od__law_asked, .func (PySem.W.fnOf "_law_asked" "_law_asked" (defArgs s__law_asked) (defBody s__law_asked) (defScope s__law_asked) .none kV__law_asked dc__law_asked pm__law_asked an__law_asked cd__law_asked ct__law_asked), sl__law_asked⟩)
    (c__law_asked : PySem.W.codeIn K cd__law_asked "_law_asked" = true)
    (k__law_asked : PySem.W.keepIn K (.ref f__law_asked) = true)
    (a__law_met : PySem.W.nsIn K mainGlobals "_law_met" = some (some (.ref f__law_met)))
    (l__law_met : K.lookup f__law_met = some ⟨oc__law_met, od__law_met, .func (PySem.W.fnOf "_law_met" "_law_met" (defArgs s__law_met) (defBody s__law_met) (defScope s__law_met) .none kV__law_met dc__law_met pm__law_met an__law_met cd__law_met ct__law_met), sl__law_met⟩)
    (c__law_met : PySem.W.codeIn K cd__law_met "_law_met" = true)
    (k__law_met : PySem.W.keepIn K (.ref f__law_met) = true)
    (a__law_refused : PySem.W.nsIn K mainGlobals "_law_refused" = some (some (.ref f__law_refused)))
    (l__law_refused : K.lookup f__law_refused = some ⟨oc__law_refused, od__law_refused, .func (PySem.W.fnOf "_law_refused" "_law_refused" (defArgs s__law_refused) (defBody s__law_refused) (defScope s__law_refused) .none kV__law_refused dc__law_refused pm__law_refused an__law_refused cd__law_refused ct__law_refused), sl__law_refused⟩)
    (c__law_refused : PySem.W.codeIn K cd__law_refused "_law_refused" = true)
    (k__law_refused : PySem.W.keepIn K (.ref f__law_refused) = true)
    (a_law : PySem.W.nsIn K mainGlobals "law" = some (some (.ref f_law)))
    (l_law : K.lookup f_law = some ⟨oc_law, od_law, .func (PySem.W.fnOf "law" "law" (defArgs s_law) (defBody s_law) (defScope s_law) .none kV_law dc_law pm_law an_law cd_law ct_law), sl_law⟩)
    (c_law : PySem.W.codeIn K cd_law "law" = true)
    (k_law : PySem.W.keepIn K (.ref f_law) = true)
    (a__RECORD_SIGNS : PySem.W.nsIn K mainGlobals "_RECORD_SIGNS" = some (some (.str "abcdefghijklmnopqrstuvwxyz0123456789" t__RECORD_SIGNS)))
    (a__LONGEST_RECORD : PySem.W.nsIn K mainGlobals "_LONGEST_RECORD" = some (some (.int 8 t__LONGEST_RECORD)))
    (z_len : PySem.W.nsIn K mainGlobals "len" = some none)
    (z_int : PySem.W.nsIn K mainGlobals "int" = some none)
    (z_range : PySem.W.nsIn K mainGlobals "range" = some none)
    (z_list : PySem.W.nsIn K mainGlobals "list" = some none)
    (z_isinstance : PySem.W.nsIn K mainGlobals "isinstance" = some none)
    (z_ValueError : PySem.W.nsIn K mainGlobals "ValueError" = some none)
    (z_iter : PySem.W.nsIn K mainGlobals "iter" = some none)
    (z_enumerate : PySem.W.nsIn K mainGlobals "enumerate" = some none)
    (z_sorted : PySem.W.nsIn K mainGlobals "sorted" = some none)
    (z_tuple : PySem.W.nsIn K mainGlobals "tuple" = some none)
    (z_max : PySem.W.nsIn K mainGlobals "max" = some none)
    (z_min : PySem.W.nsIn K mainGlobals "min" = some none)
    (z_sum : PySem.W.nsIn K mainGlobals "sum" = some none)
    (z_str : PySem.W.nsIn K mainGlobals "str" = some none)
    (z_dict : PySem.W.nsIn K mainGlobals "dict" = some none)
    (z_bool : PySem.W.nsIn K mainGlobals "bool" = some none)
    (kd_cap : PySem.W.nsIn K KD_cap "breadth" = some (some (.int 1 kt_cap)))
    (kd_set_aside : PySem.W.nsIn K KD_set_aside "breadth" = some (some (.int 1 kt_set_aside)))
    (kd_trouble : PySem.W.nsIn K KD_trouble "breadth" = some (some (.int 1 kt_trouble)))
    (kd_can_meet : PySem.W.nsIn K KD_can_meet "breadth" = some (some (.int 1 kt_can_meet)))
    (xL_InvalidDemands : K.lookup C_InvalidDemands = some (excClassObj nm_InvalidDemands q_InvalidDemands C_InvalidDemands N_InvalidDemands bs_InvalidDemands [.ref C_WornError, .type "ValueError", .type "Exception", .type "BaseException", .type "object"] true sn_InvalidDemands sub_InvalidDemands ab_InvalidDemands col_InvalidDemands dd_InvalidDemands m0_InvalidDemands m1_InvalidDemands m2_InvalidDemands m3_InvalidDemands m5_InvalidDemands "ValueError.__new__"))
    (sa_InvalidDemands : PySem.W.findIn K (.ref C_InvalidDemands) "__setattr__" = some (some (.builtin "object.__setattr__")))
    (eC_InvalidDemands : PySem.W.subIn K (.ref C_InvalidDemands) (.type "BaseException") = some true)
    (tC_InvalidDemands : PySem.W.typeIn K (.ref C_InvalidDemands) = some (.type "type"))
    (kC_InvalidDemands : PySem.W.keepIn K (.ref C_InvalidDemands) = true)
    (ga_InvalidDemands : PySem.W.findIn K (.ref C_InvalidDemands) "__getattribute__" = some (some (.builtin "BaseException.__getattribute__")))
    (gg_InvalidDemands : PySem.W.findIn K (.ref C_InvalidDemands) "__getattr__" = some none)
    (hC_InvalidDemands : PySem.W.hasDictIn K C_InvalidDemands = true)
    (xL_InvalidSheaf : K.lookup C_InvalidSheaf = some (excClassObj nm_InvalidSheaf q_InvalidSheaf C_InvalidSheaf N_InvalidSheaf bs_InvalidSheaf [.ref C_WornError, .type "ValueError", .type "Exception", .type "BaseException", .type "object"] true sn_InvalidSheaf sub_InvalidSheaf ab_InvalidSheaf col_InvalidSheaf dd_InvalidSheaf m0_InvalidSheaf m1_InvalidSheaf m2_InvalidSheaf m3_InvalidSheaf m5_InvalidSheaf "ValueError.__new__"))
    (sa_InvalidSheaf : PySem.W.findIn K (.ref C_InvalidSheaf) "__setattr__" = some (some (.builtin "object.__setattr__")))
    (eC_InvalidSheaf : PySem.W.subIn K (.ref C_InvalidSheaf) (.type "BaseException") = some true)
    (tC_InvalidSheaf : PySem.W.typeIn K (.ref C_InvalidSheaf) = some (.type "type"))
    (kC_InvalidSheaf : PySem.W.keepIn K (.ref C_InvalidSheaf) = true)
    (ga_InvalidSheaf : PySem.W.findIn K (.ref C_InvalidSheaf) "__getattribute__" = some (some (.builtin "BaseException.__getattribute__")))
    (gg_InvalidSheaf : PySem.W.findIn K (.ref C_InvalidSheaf) "__getattr__" = some none)
    (hC_InvalidSheaf : PySem.W.hasDictIn K C_InvalidSheaf = true)
    (xa_InvalidDemands : PySem.W.findIn K (.ref C_InvalidDemands) "__class__" = some (some (.builtin "object.__class__")))
    (xn_InvalidDemands : PySem.W.specialIn K (.builtin "object.__class__") "__get__" = some (some (.builtin "getset_descriptor.__get__")))
    (xt_InvalidDemands : PySem.W.takesIn K (.builtin "object.__class__") = some true)
    (xm_InvalidDemands : PySem.W.mroIn K C_InvalidDemands (.type "object") = some true)
    (ia_Sheaf : PySem.W.findIn K (.ref C_Sheaf) "__class__" = some (some (.builtin "object.__class__")))
    (in_Sheaf : PySem.W.specialIn K (.builtin "object.__class__") "__get__" = some (some (.builtin "getset_descriptor.__get__")))
    (it_Sheaf : PySem.W.takesIn K (.builtin "object.__class__") = some true)
    (im_Sheaf : PySem.W.mroIn K C_Sheaf (.type "object") = some true)
    (h_na_InvalidDemands_record : PySem.W.findIn K (.ref C_InvalidDemands) "record" = some none)
    (sS_InvalidDemands : PySem.W.subIn K (.ref C_InvalidDemands) (.ref C_InvalidDemands) = some true)
    (ks_InvalidDemands_InvalidEntry : PySem.W.subIn K (.ref C_InvalidDemands) (.ref C_InvalidEntry) = some false)
    (kd_InvalidEntry : PySem.W.hasDictIn K C_InvalidEntry = true)
    (kt_InvalidEntry : PySem.W.typeIn K (.ref C_InvalidEntry) = some (.type "type"))
    (ks_InvalidDemands_InvalidDeed : PySem.W.subIn K (.ref C_InvalidDemands) (.ref C_InvalidDeed) = some false)
    (kd_InvalidDeed : PySem.W.hasDictIn K C_InvalidDeed = true)
    (kt_InvalidDeed : PySem.W.typeIn K (.ref C_InvalidDeed) = some (.type "type"))
    (ks_InvalidDemands_InvalidSheaf : PySem.W.subIn K (.ref C_InvalidDemands) (.ref C_InvalidSheaf) = some false)
    (kd_InvalidSheaf : PySem.W.hasDictIn K C_InvalidSheaf = true)
    (kt_InvalidSheaf : PySem.W.typeIn K (.ref C_InvalidSheaf) = some (.type "type"))
    (ks_InvalidDemands_NoOutcome : PySem.W.subIn K (.ref C_InvalidDemands) (.ref C_NoOutcome) = some false)
    (kd_NoOutcome : PySem.W.hasDictIn K C_NoOutcome = true)
    (kt_NoOutcome : PySem.W.typeIn K (.ref C_NoOutcome) = some (.type "type"))
    (ks_InvalidDemands_InvalidBox : PySem.W.subIn K (.ref C_InvalidDemands) (.ref C_InvalidBox) = some false)
    (kd_InvalidBox : PySem.W.hasDictIn K C_InvalidBox = true)
    (kt_InvalidBox : PySem.W.typeIn K (.ref C_InvalidBox) = some (.type "type"))
    (ks_InvalidDemands_InvalidText : PySem.W.subIn K (.ref C_InvalidDemands) (.ref C_InvalidText) = some false)
    (kd_InvalidText : PySem.W.hasDictIn K C_InvalidText = true)
    (kt_InvalidText : PySem.W.typeIn K (.ref C_InvalidText) = some (.type "type"))
    (ks_InvalidDemands_Spoiled : PySem.W.subIn K (.ref C_InvalidDemands) (.ref C_Spoiled) = some false)
    (kd_Spoiled : PySem.W.hasDictIn K C_Spoiled = true)
    (kt_Spoiled : PySem.W.typeIn K (.ref C_Spoiled) = some (.type "type"))
    (ks_InvalidDemands_UnknownRecord : PySem.W.subIn K (.ref C_InvalidDemands) (.ref C_UnknownRecord) = some false)
    (kd_UnknownRecord : PySem.W.hasDictIn K C_UnknownRecord = true)
    (kt_UnknownRecord : PySem.W.typeIn K (.ref C_UnknownRecord) = some (.type "type"))
    (ks_InvalidDemands_WrongMove : PySem.W.subIn K (.ref C_InvalidDemands) (.ref C_WrongMove) = some false)
    (kd_WrongMove : PySem.W.hasDictIn K C_WrongMove = true)
    (kt_WrongMove : PySem.W.typeIn K (.ref C_WrongMove) = some (.type "type"))
    (ks_InvalidDemands_RepeatedRecord : PySem.W.subIn K (.ref C_InvalidDemands) (.ref C_RepeatedRecord) = some false)
    (kd_RepeatedRecord : PySem.W.hasDictIn K C_RepeatedRecord = true)
    (kt_RepeatedRecord : PySem.W.typeIn K (.ref C_RepeatedRecord) = some (.type "type"))
    (ks_InvalidDemands_Impossible : PySem.W.subIn K (.ref C_InvalidDemands) (.ref C_Impossible) = some false)
    (kd_Impossible : PySem.W.hasDictIn K C_Impossible = true)
    (kt_Impossible : PySem.W.typeIn K (.ref C_Impossible) = some (.type "type"))
    (ks_InvalidDemands_UsedName : PySem.W.subIn K (.ref C_InvalidDemands) (.ref C_UsedName) = some false)
    (kd_UsedName : PySem.W.hasDictIn K C_UsedName = true)
    (kt_UsedName : PySem.W.typeIn K (.ref C_UsedName) = some (.type "type"))
    (ks_InvalidDemands_InvalidRound : PySem.W.subIn K (.ref C_InvalidDemands) (.ref C_InvalidRound) = some false)
    (kd_InvalidRound : PySem.W.hasDictIn K C_InvalidRound = true)
    (kt_InvalidRound : PySem.W.typeIn K (.ref C_InvalidRound) = some (.type "type"))
    (ks_InvalidDemands_ContradictoryLog : PySem.W.subIn K (.ref C_InvalidDemands) (.ref C_ContradictoryLog) = some false)
    (kd_ContradictoryLog : PySem.W.hasDictIn K C_ContradictoryLog = true)
    (kt_ContradictoryLog : PySem.W.typeIn K (.ref C_ContradictoryLog) = some (.type "type"))
    (ks_InvalidDemands_InvalidPage : PySem.W.subIn K (.ref C_InvalidDemands) (.ref C_InvalidPage) = some false)
    (kd_InvalidPage : PySem.W.hasDictIn K C_InvalidPage = true)
    (kt_InvalidPage : PySem.W.typeIn K (.ref C_InvalidPage) = some (.type "type"))
    (ks_InvalidDemands_UnknownName : PySem.W.subIn K (.ref C_InvalidDemands) (.ref C_UnknownName) = some false)
    (kd_UnknownName : PySem.W.hasDictIn K C_UnknownName = true)
    (kt_UnknownName : PySem.W.typeIn K (.ref C_UnknownName) = some (.type "type"))
    (ks_InvalidDemands_InvalidName : PySem.W.subIn K (.ref C_InvalidDemands) (.ref C_InvalidName) = some false)
    (kd_InvalidName : PySem.W.hasDictIn K C_InvalidName = true)
    (kt_InvalidName : PySem.W.typeIn K (.ref C_InvalidName) = some (.type "type"))
    (ks_InvalidDemands_NothingToRedo : PySem.W.subIn K (.ref C_InvalidDemands) (.ref C_NothingToRedo) = some false)
    (kd_NothingToRedo : PySem.W.hasDictIn K C_NothingToRedo = true)
    (kt_NothingToRedo : PySem.W.typeIn K (.ref C_NothingToRedo) = some (.type "type"))
    (ks_InvalidDemands_NothingToUndo : PySem.W.subIn K (.ref C_InvalidDemands) (.ref C_NothingToUndo) = some false)
    (kd_NothingToUndo : PySem.W.hasDictIn K C_NothingToUndo = true)
    (kt_NothingToUndo : PySem.W.typeIn K (.ref C_NothingToUndo) = some (.type "type"))
    (kT_InvalidDemands_ValueError : PySem.W.subIn K (.ref C_InvalidDemands) (.type "ValueError") = some true)
    (ks_InvalidDemands_WornError : PySem.W.subIn K (.ref C_InvalidDemands) (.ref C_WornError) = some true)
    (kd_WornError : PySem.W.hasDictIn K C_WornError = true)
    (kt_WornError : PySem.W.typeIn K (.ref C_WornError) = some (.type "type"))
    (h_pg_Sheaf : PySem.W.plainGet K C_Sheaf Str.empty = true)
    (h_hd_Sheaf : PySem.W.hasDictIn K C_Sheaf = true)
    (h_po_Sheaf : PySem.W.plainOver K C_Sheaf = true)
    (h_sa_Sheaf : PySem.W.findIn K (.ref C_Sheaf) "__setattr__" = some (some (.builtin "object.__setattr__")))
    (h_na_Sheaf__rows : PySem.W.findIn K (.ref C_Sheaf) "_rows" = some none)
    (h_na_Sheaf__top : PySem.W.findIn K (.ref C_Sheaf) "_top" = some none)
    (h_na_Sheaf__bottom : PySem.W.findIn K (.ref C_Sheaf) "_bottom" = some none)
    (mf_Sheaf_sheets_of : PySem.W.isFn K (.ref f_Sheaf_sheets_of) = true)
    (mf_Sheaf_sharpness_of : PySem.W.isFn K (.ref f_Sheaf_sharpness_of) = true)
    (h_iC_InvalidDemands : PySem.W.findIn K (.ref C_InvalidDemands) "__init__" = some (some (.ref f_InvalidDemands___init__)))
    (h_tI_InvalidDemands : PySem.W.typeIn K (.ref f_InvalidDemands___init__) = some (.type "function"))
    (h_na_InvalidSheaf_index : PySem.W.findIn K (.ref C_InvalidSheaf) "index" = some none)
    (h_iC_InvalidSheaf : PySem.W.findIn K (.ref C_InvalidSheaf) "__init__" = some (some (.ref f_InvalidSheaf___init__)))
    (h_tI_InvalidSheaf : PySem.W.typeIn K (.ref f_InvalidSheaf___init__) = some (.type "function"))
    (h_at_Sheaf___iter__ : PySem.W.findIn K (.ref C_Sheaf) "__iter__" = some (some (.ref f_Sheaf___iter__)))
    (h_fn_Sheaf___iter__ : PySem.W.isFn K (.ref f_Sheaf___iter__) = true)
    (pgt_Sheaf_top : PySem.W.specialIn K (.ref po_Sheaf_top) "__get__" = some (some (.builtin "property.__get__")))
    (ptk_Sheaf_top : PySem.W.takesIn K (.ref po_Sheaf_top) = some true)
    (h_at_Sheaf___len__ : PySem.W.findIn K (.ref C_Sheaf) "__len__" = some (some (.ref f_Sheaf___len__)))
    (h_fn_Sheaf___len__ : PySem.W.isFn K (.ref f_Sheaf___len__) = true)
    (mf_Sheaf_rows : PySem.W.isFn K (.ref f_Sheaf_rows) = true)
    (kB_InvalidDemands : PySem.W.subIn K (.ref C_InvalidDemands) (.type "BaseException") = some true)
    (kd_InvalidDemands : PySem.W.hasDictIn K C_InvalidDemands = true)
    (kt_InvalidDemands : PySem.W.typeIn K (.ref C_InvalidDemands) = some (.type "type"))
    (mk1_Sheaf : PySem.W.makesIn K C_Sheaf = true)
    (mk3_Sheaf : PySem.W.isFn K (.ref f_Sheaf___init__) = true)
    (mk4_Sheaf : PySem.W.keepIn K (.ref C_Sheaf) = true)
    (h_at_Sheaf___eq__ : PySem.W.findIn K (.ref C_Sheaf) "__eq__" = some (some (.ref f_Sheaf___eq__)))
    (h_fn_Sheaf___eq__ : PySem.W.isFn K (.ref f_Sheaf___eq__) = true) :
    ∃ fd : FuncData, (∀ (s : Shared) (v : Value), BindsTo s fd ⟨[v], []⟩ [("script", v)]) ∧ ∀ base : Heap, K.In base → base.Ns mainGlobals mg → FnOk l.prog w K mg base CX0 10 fa fd ["script"] (spLaw K) := by
  have e : fa = f_law := by
    have e := hfa.symm.trans (PySem.W.mg_of X G a_law)
    cases e
    rfl
  have T : ∃ T : Env K mg, T.f_law = f_law ∧ T.d_law = PySem.W.fnOf "law" "law" (defArgs s_law) (defBody s_law) (defScope s_law) .none kV_law dc_law pm_law an_law cd_law ct_law := ⟨{ C_WornError := C_WornError, C_InvalidSheaf := C_InvalidSheaf, C_InvalidDeed := C_InvalidDeed, C_InvalidEntry := C_InvalidEntry, C_InvalidText := C_InvalidText, C_InvalidBox := C_InvalidBox, C_InvalidDemands := C_InvalidDemands, C_UnknownRecord := C_UnknownRecord, C_Impossible := C_Impossible, C_RepeatedRecord := C_RepeatedRecord, C_NoOutcome := C_NoOutcome, C_ContradictoryLog := C_ContradictoryLog, C_InvalidRound := C_InvalidRound, C_WrongMove := C_WrongMove, C_InvalidName := C_InvalidName, C_UsedName := C_UsedName, C_UnknownName := C_UnknownName, C_NothingToUndo := C_NothingToUndo, C_NothingToRedo := C_NothingToRedo, C_Spoiled := C_Spoiled, C_InvalidPage := C_InvalidPage, C_Sheaf := C_Sheaf, f__power := f__power, d__power := _, F__power := fun_mk (st := s__power) l__power c__power k__power, b__power := ((fun_mk (st := s__power) l__power c__power k__power).binds (ps := ["base", "exponent"]) fun _ _ _ _ _ _ us hl => match us, hl with | [_, _], _ => rfl), g__power := PySem.W.mg_of X G a__power, f_valid_record := f_valid_record, d_valid_record := _, F_valid_record := fun_mk (st := s_valid_record) l_valid_record c_valid_record k_valid_record, b_valid_record := ((fun_mk (st := s_valid_record) l_valid_record c_valid_record k_valid_record).binds (ps := ["text"]) fun _ _ _ _ _ _ us hl => match us, hl with | [_], _ => rfl), g_valid_record := PySem.W.mg_of X G a_valid_record, f__law_cell := f__law_cell, d__law_cell := _, F__law_cell := fun_mk (st := s__law_cell) l__law_cell c__law_cell k__law_cell, b__law_cell := ((fun_mk (st := s__law_cell) l__law_cell c__law_cell k__law_cell).binds (ps := ["script", "k"]) fun _ _ _ _ _ _ us hl => match us, hl with | [_, _], _ => rfl), g__law_cell := PySem.W.mg_of X G a__law_cell, f__law_draws := f__law_draws, d__law_draws := _, F__law_draws := fun_mk (st := s__law_draws) l__law_draws c__law_draws k__law_draws, b__law_draws := ((fun_mk (st := s__law_draws) l__law_draws c__law_draws k__law_draws).binds (ps := ["cell", "sizes"]) fun _ _ _ _ _ _ us hl => match us, hl with | [_, _], _ => rfl), g__law_draws := PySem.W.mg_of X G a__law_draws, f__law_width := f__law_width, d__law_width := _, F__law_width := fun_mk (st := s__law_width) l__law_width c__law_width k__law_width, b__law_width := ((fun_mk (st := s__law_width) l__law_width c__law_width k__law_width).binds (ps := ["drawn"]) fun _ _ _ _ _ _ us hl => match us, hl with | [_], _ => rfl), g__law_width := PySem.W.mg_of X G a__law_width, f__law_moved := f__law_moved, d__law_moved := _, F__law_moved := fun_mk (st := s__law_moved) l__law_moved c__law_moved k__law_moved, b__law_moved := ((fun_mk (st := s__law_moved) l__law_moved c__law_moved k__law_moved).binds (ps := ["rows", "source", "targets"]) fun _ _ _ _ _ _ us hl => match us, hl with | [_, _, _], _ => rfl), g__law_moved := PySem.W.mg_of X G a__law_moved, f__law_single := f__law_single, d__law_single := _, F__law_single := fun_mk (st := s__law_single) l__law_single c__law_single k__law_single, b__law_single := ((fun_mk (st := s__law_single) l__law_single c__law_single k__law_single).binds (ps := ["error"]) fun _ _ _ _ _ _ us hl => match us, hl with | [_], _ => rfl), g__law_single := PySem.W.mg_of X G a__law_single, f__law_shares := f__law_shares, d__law_shares := _, F__law_shares := fun_mk (st := s__law_shares) l__law_shares c__law_shares k__law_shares, b__law_shares := ((fun_mk (st := s__law_shares) l__law_shares c__law_shares k__law_shares).binds (ps := ["rows"]) fun _ _ _ _ _ _ us hl => match us, hl with | [_], _ => rfl), g__law_shares := PySem.W.mg_of X G a__law_shares, f_InvalidSheaf___init__ := f_InvalidSheaf___init__, d_InvalidSheaf___init__ := _, F_InvalidSheaf___init__ := fun_mk (st := s_InvalidSheaf___init__) l_InvalidSheaf___init__ c_InvalidSheaf___init__ k_InvalidSheaf___init__, b_InvalidSheaf___init__ := ((fun_mk (st := s_InvalidSheaf___init__) l_InvalidSheaf___init__ c_InvalidSheaf___init__ k_InvalidSheaf___init__).binds (ps := ["self", "index"]) fun _ _ _ _ _ _ us hl => match us, hl with | [_, _], _ => rfl), f_InvalidDemands___init__ := f_InvalidDemands___init__, d_InvalidDemands___init__ := _, F_InvalidDemands___init__ := fun_mk (st := s_InvalidDemands___init__) l_InvalidDemands___init__ c_InvalidDemands___init__ k_InvalidDemands___init__, b_InvalidDemands___init__ := ((fun_mk (st := s_InvalidDemands___init__) l_InvalidDemands___init__ c_InvalidDemands___init__ k_InvalidDemands___init__).binds (ps := ["self", "record"]) fun _ _ _ _ _ _ us hl => match us, hl with | [_, _], _ => rfl), f_Sheaf___len__ := f_Sheaf___len__, d_Sheaf___len__ := _, F_Sheaf___len__ := fun_mk (st := s_Sheaf___len__) l_Sheaf___len__ c_Sheaf___len__ k_Sheaf___len__, b_Sheaf___len__ := ((fun_mk (st := s_Sheaf___len__) l_Sheaf___len__ c_Sheaf___len__ k_Sheaf___len__).binds (ps := ["self"]) fun _ _ _ _ _ _ us hl => match us, hl with | [_], _ => rfl), f_Sheaf___iter__ := f_Sheaf___iter__, d_Sheaf___iter__ := _, F_Sheaf___iter__ := fun_mk (st := s_Sheaf___iter__) l_Sheaf___iter__ c_Sheaf___iter__ k_Sheaf___iter__, b_Sheaf___iter__ := ((fun_mk (st := s_Sheaf___iter__) l_Sheaf___iter__ c_Sheaf___iter__ k_Sheaf___iter__).binds (ps := ["self"]) fun _ _ _ _ _ _ us hl => match us, hl with | [_], _ => rfl), f_Sheaf___eq__ := f_Sheaf___eq__, d_Sheaf___eq__ := _, F_Sheaf___eq__ := fun_mk (st := s_Sheaf___eq__) l_Sheaf___eq__ c_Sheaf___eq__ k_Sheaf___eq__, b_Sheaf___eq__ := ((fun_mk (st := s_Sheaf___eq__) l_Sheaf___eq__ c_Sheaf___eq__ k_Sheaf___eq__).binds (ps := ["self", "other"]) fun _ _ _ _ _ _ us hl => match us, hl with | [_, _], _ => rfl), f_Sheaf_top := f_Sheaf_top, d_Sheaf_top := _, F_Sheaf_top := fun_mk (st := s_Sheaf_top) l_Sheaf_top c_Sheaf_top k_Sheaf_top, b_Sheaf_top := ((fun_mk (st := s_Sheaf_top) l_Sheaf_top c_Sheaf_top k_Sheaf_top).binds (ps := ["self"]) fun _ _ _ _ _ _ us hl => match us, hl with | [_], _ => rfl), f_Sheaf_rows := f_Sheaf_rows, d_Sheaf_rows := _, F_Sheaf_rows := fun_mk (st := s_Sheaf_rows) l_Sheaf_rows c_Sheaf_rows k_Sheaf_rows, b_Sheaf_rows := ((fun_mk (st := s_Sheaf_rows) l_Sheaf_rows c_Sheaf_rows k_Sheaf_rows).binds (ps := ["self"]) fun _ _ _ _ _ _ us hl => match us, hl with | [_], _ => rfl), f_Sheaf_sharpness_of := f_Sheaf_sharpness_of, d_Sheaf_sharpness_of := _, F_Sheaf_sharpness_of := fun_mk (st := s_Sheaf_sharpness_of) l_Sheaf_sharpness_of c_Sheaf_sharpness_of k_Sheaf_sharpness_of, b_Sheaf_sharpness_of := ((fun_mk (st := s_Sheaf_sharpness_of) l_Sheaf_sharpness_of c_Sheaf_sharpness_of k_Sheaf_sharpness_of).binds (ps := ["self", "index"]) fun _ _ _ _ _ _ us hl => match us, hl with | [_, _], _ => rfl), f_Sheaf_sheets_of := f_Sheaf_sheets_of, d_Sheaf_sheets_of := _, F_Sheaf_sheets_of := fun_mk (st := s_Sheaf_sheets_of) l_Sheaf_sheets_of c_Sheaf_sheets_of k_Sheaf_sheets_of, b_Sheaf_sheets_of := ((fun_mk (st := s_Sheaf_sheets_of) l_Sheaf_sheets_of c_Sheaf_sheets_of k_Sheaf_sheets_of).binds (ps := ["self", "record"]) fun _ _ _ _ _ _ us hl => match us, hl with | [_, _], _ => rfl), f_cap := f_cap, d_cap := _, F_cap := fun_mk (st := s_cap) l_cap c_cap k_cap, kb_cap := Pf.Fun.kbn (ps := ["sharpness", "end", "breadth"]) (fun_mk (st := s_cap) l_cap c_cap k_cap) 2 "breadth" fun _ _ _ _ _ _ us w hl => (match us, hl with | [_, _], _ => rfl), bd_cap := kdef_mk (st := s_cap) (ps := ["sharpness", "end", "breadth"]) kd_cap ⟨kt_cap, rfl⟩ 2 rfl fun us ks hl hk => (match us, hl, ks, hk with | [_, _], _, [_], _ => ⟨_, _, _, _, _, _, rfl, rfl, rfl⟩), g_cap := PySem.W.mg_of X G a_cap, f_falling_sheets := f_falling_sheets, d_falling_sheets := _, F_falling_sheets := fun_mk (st := s_falling_sheets) l_falling_sheets c_falling_sheets k_falling_sheets, b_falling_sheets := ((fun_mk (st := s_falling_sheets) l_falling_sheets c_falling_sheets k_falling_sheets).binds (ps := ["sheaf", "record"]) fun _ _ _ _ _ _ us hl => match us, hl with | [_, _], _ => rfl), g_falling_sheets := PySem.W.mg_of X G a_falling_sheets, f__law_given := f__law_given, d__law_given := _, F__law_given := fun_mk (st := s__law_given) l__law_given c__law_given k__law_given, b__law_given := ((fun_mk (st := s__law_given) l__law_given c__law_given k__law_given).binds (ps := ["script", "k"]) fun _ _ _ _ _ _ us hl => match us, hl with | [_, _], _ => rfl), g__law_given := PySem.W.mg_of X G a__law_given, f__law_names := f__law_names, d__law_names := _, F__law_names := fun_mk (st := s__law_names) l__law_names c__law_names k__law_names, b__law_names := ((fun_mk (st := s__law_names) l__law_names c__law_names k__law_names).binds (ps := ["cell", "count"]) fun _ _ _ _ _ _ us hl => match us, hl with | [_, _], _ => rfl), g__law_names := PySem.W.mg_of X G a__law_names, f__law_wild_log := f__law_wild_log, d__law_wild_log := _, F__law_wild_log := fun_mk (st := s__law_wild_log) l__law_wild_log c__law_wild_log k__law_wild_log, b__law_wild_log := ((fun_mk (st := s__law_wild_log) l__law_wild_log c__law_wild_log k__law_wild_log).binds (ps := ["rows", "cells", "width", "most"]) fun _ _ _ _ _ _ us hl => match us, hl with | [_, _, _, _], _ => rfl), g__law_wild_log := PySem.W.mg_of X G a__law_wild_log, f__law_finished := f__law_finished, d__law_finished := _, F__law_finished := fun_mk (st := s__law_finished) l__law_finished c__law_finished k__law_finished, b__law_finished := ((fun_mk (st := s__law_finished) l__law_finished c__law_finished k__law_finished).binds (ps := ["rows", "log", "pick"]) fun _ _ _ _ _ _ us hl => match us, hl with | [_, _, _], _ => rfl), g__law_finished := PySem.W.mg_of X G a__law_finished, f__law_walk := f__law_walk, d__law_walk := _, F__law_walk := fun_mk (st := s__law_walk) l__law_walk c__law_walk k__law_walk, b__law_walk := ((fun_mk (st := s__law_walk) l__law_walk c__law_walk k__law_walk).binds (ps := ["rows", "log"]) fun _ _ _ _ _ _ us hl => match us, hl with | [_, _], _ => rfl), g__law_walk := PySem.W.mg_of X G a__law_walk, f__law_lessened := f__law_lessened, d__law_lessened := _, F__law_lessened := fun_mk (st := s__law_lessened) l__law_lessened c__law_lessened k__law_lessened, b__law_lessened := ((fun_mk (st := s__law_lessened) l__law_lessened c__law_lessened k__law_lessened).binds (ps := ["shares", "cell"]) fun _ _ _ _ _ _ us hl => match us, hl with | [_, _], _ => rfl), g__law_lessened := PySem.W.mg_of X G a__law_lessened, f_check_demands := f_check_demands, d_check_demands := _, F_check_demands := fun_mk (st := s_check_demands) l_check_demands c_check_demands k_check_demands, b_check_demands := ((fun_mk (st := s_check_demands) l_check_demands c_check_demands k_check_demands).binds (ps := ["demands"]) fun _ _ _ _ _ _ us hl => match us, hl with | [_], _ => rfl), g_check_demands := PySem.W.mg_of X G a_check_demands, f__cap_up_to := f__cap_up_to, d__cap_up_to := _, F__cap_up_to := fun_mk (st := s__cap_up_to) l__cap_up_to c__cap_up_to k__cap_up_to, b__cap_up_to := ((fun_mk (st := s__cap_up_to) l__cap_up_to c__cap_up_to k__cap_up_to).binds (ps := ["sharpness", "end", "most", "breadth"]) fun _ _ _ _ _ _ us hl => match us, hl with | [_, _, _, _], _ => rfl), g__cap_up_to := PySem.W.mg_of X G a__cap_up_to, f__law_sheets := f__law_sheets, d__law_sheets := _, F__law_sheets := fun_mk (st := s__law_sheets) l__law_sheets c__law_sheets k__law_sheets, b__law_sheets := ((fun_mk (st := s__law_sheets) l__law_sheets c__law_sheets k__law_sheets).binds (ps := ["script", "small", "wide", "large", "more", "tall", "hand", "kind"]) fun _ _ _ _ _ _ us hl => match us, hl with | [_, _, _, _, _, _, _, _], _ => rfl), g__law_sheets := PySem.W.mg_of X G a__law_sheets, f_Sheaf___init__ := f_Sheaf___init__, d_Sheaf___init__ := _, F_Sheaf___init__ := fun_mk (st := s_Sheaf___init__) l_Sheaf___init__ c_Sheaf___init__ k_Sheaf___init__, b_Sheaf___init__ := ((fun_mk (st := s_Sheaf___init__) l_Sheaf___init__ c_Sheaf___init__ k_Sheaf___init__).binds (ps := ["self", "rows"]) fun _ _ _ _ _ _ us hl => match us, hl with | [_, _], _ => rfl), f__taken := f__taken, d__taken := _, F__taken := fun_mk (st := s__taken) l__taken c__taken k__taken, b__taken := ((fun_mk (st := s__taken) l__taken c__taken k__taken).binds (ps := ["sheaf", "end", "record", "demand", "breadth"]) fun _ _ _ _ _ _ us hl => match us, hl with | [_, _, _, _, _], _ => rfl), g__taken := PySem.W.mg_of X G a__taken, f__reach_up_to := f__reach_up_to, d__reach_up_to := _, F__reach_up_to := fun_mk (st := s__reach_up_to) l__reach_up_to c__reach_up_to k__reach_up_to, b__reach_up_to := ((fun_mk (st := s__reach_up_to) l__reach_up_to c__reach_up_to k__reach_up_to).binds (ps := ["rows", "end", "most", "breadth"]) fun _ _ _ _ _ _ us hl => match us, hl with | [_, _, _, _], _ => rfl), g__reach_up_to := PySem.W.mg_of X G a__reach_up_to, f_spare_sharpnesses := f_spare_sharpnesses, d_spare_sharpnesses := _, F_spare_sharpnesses := fun_mk (st := s_spare_sharpnesses) l_spare_sharpnesses c_spare_sharpnesses k_spare_sharpnesses, b_spare_sharpnesses := ((fun_mk (st := s_spare_sharpnesses) l_spare_sharpnesses c_spare_sharpnesses k_spare_sharpnesses).binds (ps := ["sheaf", "aside"]) fun _ _ _ _ _ _ us hl => match us, hl with | [_, _], _ => rfl), g_spare_sharpnesses := PySem.W.mg_of X G a_spare_sharpnesses, f_set_aside := f_set_aside, d_set_aside := _, F_set_aside := fun_mk (st := s_set_aside) l_set_aside c_set_aside k_set_aside, kb_set_aside := Pf.Fun.kbn (ps := ["sheaf", "end", "demands", "breadth"]) (fun_mk (st := s_set_aside) l_set_aside c_set_aside k_set_aside) 3 "breadth" fun _ _ _ _ _ _ us w hl => (match us, hl with | [_, _, _], _ => rfl), bd_set_aside := kdef_mk (st := s_set_aside) (ps := ["sheaf", "end", "demands", "breadth"]) kd_set_aside ⟨kt_set_aside, rfl⟩ 3 rfl fun us ks hl hk => (match us, hl, ks, hk with | [_, _, _], _, [_], _ => ⟨_, _, _, _, _, _, rfl, rfl, rfl⟩), g_set_aside := PySem.W.mg_of X G a_set_aside, f__height_trouble := f__height_trouble, d__height_trouble := _, F__height_trouble := fun_mk (st := s__height_trouble) l__height_trouble c__height_trouble k__height_trouble, b__height_trouble := ((fun_mk (st := s__height_trouble) l__height_trouble c__height_trouble k__height_trouble).binds (ps := ["sheaf", "end", "aside"]) fun _ _ _ _ _ _ us hl => match us, hl with | [_, _, _], _ => rfl), g__height_trouble := PySem.W.mg_of X G a__height_trouble, f_trouble := f_trouble, d_trouble := _, F_trouble := fun_mk (st := s_trouble) l_trouble c_trouble k_trouble, kb_trouble := Pf.Fun.kbn (ps := ["sheaf", "end", "demands", "breadth"]) (fun_mk (st := s_trouble) l_trouble c_trouble k_trouble) 3 "breadth" fun _ _ _ _ _ _ us w hl => (match us, hl with | [_, _, _], _ => rfl), bd_trouble := kdef_mk (st := s_trouble) (ps := ["sheaf", "end", "demands", "breadth"]) kd_trouble ⟨kt_trouble, rfl⟩ 3 rfl fun us ks hl hk => (match us, hl, ks, hk with | [_, _, _], _, [_], _ => ⟨_, _, _, _, _, _, rfl, rfl, rfl⟩), g_trouble := PySem.W.mg_of X G a_trouble, f_can_meet := f_can_meet, d_can_meet := _, F_can_meet := fun_mk (st := s_can_meet) l_can_meet c_can_meet k_can_meet, kb_can_meet := Pf.Fun.kbn (ps := ["sheaf", "end", "demands", "breadth"]) (fun_mk (st := s_can_meet) l_can_meet c_can_meet k_can_meet) 3 "breadth" fun _ _ _ _ _ _ us w hl => (match us, hl with | [_, _, _], _ => rfl), bd_can_meet := kdef_mk (st := s_can_meet) (ps := ["sheaf", "end", "demands", "breadth"]) kd_can_meet ⟨kt_can_meet, rfl⟩ 3 rfl fun us ks hl hk => (match us, hl, ks, hk with | [_, _, _], _, [_], _ => ⟨_, _, _, _, _, _, rfl, rfl, rfl⟩), g_can_meet := PySem.W.mg_of X G a_can_meet, f__law_asked := f__law_asked, d__law_asked := _, F__law_asked := fun_mk (st := s__law_asked) l__law_asked c__law_asked k__law_asked, b__law_asked := ((fun_mk (st := s__law_asked) l__law_asked c__law_asked k__law_asked).binds (ps := ["sheaf", "end", "demands", "width", "plain"]) fun _ _ _ _ _ _ us hl => match us, hl with | [_, _, _, _, _], _ => rfl), g__law_asked := PySem.W.mg_of X G a__law_asked, f__law_met := f__law_met, d__law_met := _, F__law_met := fun_mk (st := s__law_met) l__law_met c__law_met k__law_met, b__law_met := ((fun_mk (st := s__law_met) l__law_met c__law_met k__law_met).binds (ps := ["rows", "end", "demands", "width", "plain", "due"]) fun _ _ _ _ _ _ us hl => match us, hl with | [_, _, _, _, _, _], _ => rfl), g__law_met := PySem.W.mg_of X G a__law_met, f__law_refused := f__law_refused, d__law_refused := _, F__law_refused := fun_mk (st := s__law_refused) l__law_refused c__law_refused k__law_refused, b__law_refused := ((fun_mk (st := s__law_refused) l__law_refused c__law_refused k__law_refused).binds (ps := ["rows", "end", "demands", "name", "strange", "less", "width", "plain"]) fun _ _ _ _ _ _ us hl => match us, hl with | [_, _, _, _, _, _, _, _], _ => rfl), g__law_refused := PySem.W.mg_of X G a__law_refused, f_law := f_law, d_law := _, F_law := fun_mk (st := s_law) l_law c_law k_law, b_law := ((fun_mk (st := s_law) l_law c_law k_law).binds (ps := ["script"]) fun _ _ _ _ _ _ us hl => match us, hl with | [_], _ => rfl), g_law := PySem.W.mg_of X G a_law, t__RECORD_SIGNS := t__RECORD_SIGNS, g__RECORD_SIGNS := PySem.W.mg_of X G a__RECORD_SIGNS, t__LONGEST_RECORD := t__LONGEST_RECORD, g__LONGEST_RECORD := PySem.W.mg_of X G a__LONGEST_RECORD, n_len := PySem.W.mg_none_of X G z_len, n_int := PySem.W.mg_none_of X G z_int, n_range := PySem.W.mg_none_of X G z_range, n_list := PySem.W.mg_none_of X G z_list, n_isinstance := PySem.W.mg_none_of X G z_isinstance, n_ValueError := PySem.W.mg_none_of X G z_ValueError, n_iter := PySem.W.mg_none_of X G z_iter, n_enumerate := PySem.W.mg_none_of X G z_enumerate, n_sorted := PySem.W.mg_none_of X G z_sorted, n_tuple := PySem.W.mg_none_of X G z_tuple, n_max := PySem.W.mg_none_of X G z_max, n_min := PySem.W.mg_none_of X G z_min, n_sum := PySem.W.mg_none_of X G z_sum, n_str := PySem.W.mg_none_of X G z_str, n_dict := PySem.W.mg_none_of X G z_dict, n_bool := PySem.W.mg_none_of X G z_bool, ox_InvalidDemands := ⟨⟨nm_InvalidDemands, q_InvalidDemands, N_InvalidDemands, bs_InvalidDemands, _, sn_InvalidDemands, sub_InvalidDemands, ab_InvalidDemands, col_InvalidDemands, dd_InvalidDemands, m0_InvalidDemands, m1_InvalidDemands, m2_InvalidDemands, m3_InvalidDemands, m5_InvalidDemands, xL_InvalidDemands, rfl⟩, sa_InvalidDemands, eC_InvalidDemands, tC_InvalidDemands, kC_InvalidDemands⟩, xf_InvalidDemands := ⟨ga_InvalidDemands, gg_InvalidDemands, eC_InvalidDemands, hC_InvalidDemands⟩, ox_InvalidSheaf := ⟨⟨nm_InvalidSheaf, q_InvalidSheaf, N_InvalidSheaf, bs_InvalidSheaf, _, sn_InvalidSheaf, sub_InvalidSheaf, ab_InvalidSheaf, col_InvalidSheaf, dd_InvalidSheaf, m0_InvalidSheaf, m1_InvalidSheaf, m2_InvalidSheaf, m3_InvalidSheaf, m5_InvalidSheaf, xL_InvalidSheaf, rfl⟩, sa_InvalidSheaf, eC_InvalidSheaf, tC_InvalidSheaf, kC_InvalidSheaf⟩, xf_InvalidSheaf := ⟨ga_InvalidSheaf, gg_InvalidSheaf, eC_InvalidSheaf, hC_InvalidSheaf⟩, ec_InvalidDemands := ⟨ga_InvalidDemands, gg_InvalidDemands, eC_InvalidDemands, hC_InvalidDemands, xa_InvalidDemands, xn_InvalidDemands, xt_InvalidDemands, xm_InvalidDemands⟩, po_Sheaf_top := po_Sheaf_top, ins_Sheaf := ⟨⟨h_pg_Sheaf, h_hd_Sheaf, h_po_Sheaf, h_sa_Sheaf⟩, ia_Sheaf, in_Sheaf, it_Sheaf, im_Sheaf, kit_self⟩, g_InvalidDemands := PySem.W.mg_of X G a_InvalidDemands, na_InvalidDemands_record := h_na_InvalidDemands_record, g_InvalidEntry := PySem.W.mg_of X G a_InvalidEntry, kit_InvalidDemands_InvalidEntry := kit_ref sS_InvalidDemands ks_InvalidDemands_InvalidEntry kd_InvalidEntry kt_InvalidEntry, g_InvalidDeed := PySem.W.mg_of X G a_InvalidDeed, kit_InvalidDemands_InvalidDeed := kit_ref sS_InvalidDemands ks_InvalidDemands_InvalidDeed kd_InvalidDeed kt_InvalidDeed, g_InvalidSheaf := PySem.W.mg_of X G a_InvalidSheaf, kit_InvalidDemands_InvalidSheaf := kit_ref sS_InvalidDemands ks_InvalidDemands_InvalidSheaf kd_InvalidSheaf kt_InvalidSheaf, g_NoOutcome := PySem.W.mg_of X G a_NoOutcome, kit_InvalidDemands_NoOutcome := kit_ref sS_InvalidDemands ks_InvalidDemands_NoOutcome kd_NoOutcome kt_NoOutcome, g_InvalidBox := PySem.W.mg_of X G a_InvalidBox, kit_InvalidDemands_InvalidBox := kit_ref sS_InvalidDemands ks_InvalidDemands_InvalidBox kd_InvalidBox kt_InvalidBox, g_InvalidText := PySem.W.mg_of X G a_InvalidText, kit_InvalidDemands_InvalidText := kit_ref sS_InvalidDemands ks_InvalidDemands_InvalidText kd_InvalidText kt_InvalidText, g_Spoiled := PySem.W.mg_of X G a_Spoiled, kit_InvalidDemands_Spoiled := kit_ref sS_InvalidDemands ks_InvalidDemands_Spoiled kd_Spoiled kt_Spoiled, g_UnknownRecord := PySem.W.mg_of X G a_UnknownRecord, kit_InvalidDemands_UnknownRecord := kit_ref sS_InvalidDemands ks_InvalidDemands_UnknownRecord kd_UnknownRecord kt_UnknownRecord, kit_InvalidDemands_InvalidDemands := kit_self, g_WrongMove := PySem.W.mg_of X G a_WrongMove, kit_InvalidDemands_WrongMove := kit_ref sS_InvalidDemands ks_InvalidDemands_WrongMove kd_WrongMove kt_WrongMove, g_RepeatedRecord := PySem.W.mg_of X G a_RepeatedRecord, kit_InvalidDemands_RepeatedRecord := kit_ref sS_InvalidDemands ks_InvalidDemands_RepeatedRecord kd_RepeatedRecord kt_RepeatedRecord, g_Impossible := PySem.W.mg_of X G a_Impossible, kit_InvalidDemands_Impossible := kit_ref sS_InvalidDemands ks_InvalidDemands_Impossible kd_Impossible kt_Impossible, g_UsedName := PySem.W.mg_of X G a_UsedName, kit_InvalidDemands_UsedName := kit_ref sS_InvalidDemands ks_InvalidDemands_UsedName kd_UsedName kt_UsedName, g_InvalidRound := PySem.W.mg_of X G a_InvalidRound, kit_InvalidDemands_InvalidRound := kit_ref sS_InvalidDemands ks_InvalidDemands_InvalidRound kd_InvalidRound kt_InvalidRound, g_ContradictoryLog := PySem.W.mg_of X G a_ContradictoryLog, kit_InvalidDemands_ContradictoryLog := kit_ref sS_InvalidDemands ks_InvalidDemands_ContradictoryLog kd_ContradictoryLog kt_ContradictoryLog, g_InvalidPage := PySem.W.mg_of X G a_InvalidPage, kit_InvalidDemands_InvalidPage := kit_ref sS_InvalidDemands ks_InvalidDemands_InvalidPage kd_InvalidPage kt_InvalidPage, g_UnknownName := PySem.W.mg_of X G a_UnknownName, kit_InvalidDemands_UnknownName := kit_ref sS_InvalidDemands ks_InvalidDemands_UnknownName kd_UnknownName kt_UnknownName, g_InvalidName := PySem.W.mg_of X G a_InvalidName, kit_InvalidDemands_InvalidName := kit_ref sS_InvalidDemands ks_InvalidDemands_InvalidName kd_InvalidName kt_InvalidName, g_NothingToRedo := PySem.W.mg_of X G a_NothingToRedo, kit_InvalidDemands_NothingToRedo := kit_ref sS_InvalidDemands ks_InvalidDemands_NothingToRedo kd_NothingToRedo kt_NothingToRedo, g_NothingToUndo := PySem.W.mg_of X G a_NothingToUndo, kit_InvalidDemands_NothingToUndo := kit_ref sS_InvalidDemands ks_InvalidDemands_NothingToUndo kd_NothingToUndo kt_NothingToUndo, kit_InvalidDemands_ValueError := kit_type (by decide +kernel) kT_InvalidDemands_ValueError, g_WornError := PySem.W.mg_of X G a_WornError, kit_InvalidDemands_WornError := kit_ref sS_InvalidDemands ks_InvalidDemands_WornError kd_WornError kt_WornError, g_Sheaf := PySem.W.mg_of X G a_Sheaf, pg_Sheaf := h_pg_Sheaf, hd_Sheaf := h_hd_Sheaf, po_Sheaf := h_po_Sheaf, sa_Sheaf := h_sa_Sheaf, na_Sheaf__rows := h_na_Sheaf__rows, na_Sheaf__top := h_na_Sheaf__top, na_Sheaf__bottom := h_na_Sheaf__bottom, me_Sheaf_sheets_of := ⟨a_Sheaf_sheets_of, mf_Sheaf_sheets_of, k_Sheaf_sheets_of⟩, me_Sheaf_sharpness_of := ⟨a_Sheaf_sharpness_of, mf_Sheaf_sharpness_of, k_Sheaf_sharpness_of⟩, iC_InvalidDemands := h_iC_InvalidDemands, tI_InvalidDemands := h_tI_InvalidDemands, na_InvalidSheaf_index := h_na_InvalidSheaf_index, iC_InvalidSheaf := h_iC_InvalidSheaf, tI_InvalidSheaf := h_tI_InvalidSheaf, at_Sheaf___iter__ := h_at_Sheaf___iter__, fn_Sheaf___iter__ := h_fn_Sheaf___iter__, pr_Sheaf_top := ⟨pa_Sheaf_top, pgt_Sheaf_top, ptk_Sheaf_top, rs_Sheaf_top, prc_Sheaf_top⟩, at_Sheaf___len__ := h_at_Sheaf___len__, fn_Sheaf___len__ := h_fn_Sheaf___len__, me_Sheaf_rows := ⟨a_Sheaf_rows, mf_Sheaf_rows, k_Sheaf_rows⟩, te_InvalidDemands_InvalidDemands := PySem.W.exm_ref kB_InvalidDemands kd_InvalidDemands kt_InvalidDemands sS_InvalidDemands, mk_Sheaf := ⟨mk1_Sheaf, a_Sheaf___init__, mk3_Sheaf, mk4_Sheaf⟩, at_Sheaf___eq__ := h_at_Sheaf___eq__, fn_Sheaf___eq__ := h_fn_Sheaf___eq__ }, rfl, rfl⟩
  obtain ⟨T, e1, e2⟩ := T
  refine ⟨PySem.W.fnOf "law" "law" (defArgs s_law) (defBody s_law) (defScope s_law) .none kV_law dc_law pm_law an_law cd_law ct_law, fun s v => .of_eq rfl, fun base _ _ => ?_⟩
  rw [e, ← e1, ← e2]
  exact law_ok (ok_law T)
end Pf
open PySem PySem.W PyProof.Rows
set_option maxHeartbeats 0 in
theorem PySem.Challenge.cw_wornsheaf_k56_whole_shares_met_again_holds : PySem.Challenge.rw_wornsheaf_k56_whole_shares_met_again.Holds := by
  w_on; o_law; k_head; (case hw => w_witness2)
  k_fill
  refine L2.walk_of (l := PySem.Challenge.rw_wornsheaf_k56_whole_shares_met_again) (n := 63) (k := 10) (x := "script") (CX := fun _ => L2.CX0) (sp := fun w => Pf.spLaw _) rfl (by decide) rfl ⟨rfl, by decide, by decide⟩ (fun w h Y => PySem.W.kIn_of Y) ?F (fun _ _ a ns hl _ hS => ⟨a, ns, rfl, hS, hl, fun _ => rfl⟩) (fun _ _ _ _ _ h => h)
  case F =>
    intro w mg fa h KX G hmg
    refine' Pf.all_mk KX G hmg ?a_WornError ?a_InvalidSheaf ?a_InvalidDeed ?a_InvalidEntry ?a_InvalidText ?a_InvalidBox ?a_InvalidDemands ?a_UnknownRecord ?a_Impossible ?a_RepeatedRecord ?a_NoOutcome ?a_ContradictoryLog ?a_InvalidRound ?a_WrongMove ?a_InvalidName ?a_UsedName ?a_UnknownName ?a_NothingToUndo ?a_NothingToRedo ?a_Spoiled ?a_InvalidPage ?a_Sheaf ?a__power ?l__power ?c__power ?k__power ?a_valid_record ?l_valid_record ?c_valid_record ?k_valid_record ?a__law_cell ?l__law_cell ?c__law_cell ?k__law_cell ?a__law_draws ?l__law_draws ?c__law_draws ?k__law_draws ?a__law_width ?l__law_width ?c__law_width ?k__law_width ?a__law_moved ?l__law_moved ?c__law_moved ?k__law_moved ?a__law_single ?l__law_single ?c__law_single ?k__law_single ?a__law_shares ?l__law_shares ?c__law_shares ?k__law_shares ?a_InvalidSheaf___init__ ?l_InvalidSheaf___init__ ?c_InvalidSheaf___init__ ?k_InvalidSheaf___init__ ?a_InvalidDemands___init__ ?l_InvalidDemands___init__ ?c_InvalidDemands___init__ ?k_InvalidDemands___init__ ?a_Sheaf___len__ ?l_Sheaf___len__ ?c_Sheaf___len__ ?k_Sheaf___len__ ?a_Sheaf___iter__ ?l_Sheaf___iter__ ?c_Sheaf___iter__ ?k_Sheaf___iter__ ?a_Sheaf___eq__ ?l_Sheaf___eq__ ?c_Sheaf___eq__ ?k_Sheaf___eq__ ?pa_Sheaf_top ?prc_Sheaf_top ?l_Sheaf_top ?c_Sheaf_top ?k_Sheaf_top ?a_Sheaf_rows ?l_Sheaf_rows ?c_Sheaf_rows ?k_Sheaf_rows ?a_Sheaf_sharpness_of ?l_Sheaf_sharpness_of ?c_Sheaf_sharpness_of ?k_Sheaf_sharpness_of ?a_Sheaf_sheets_of ?l_Sheaf_sheets_of ?c_Sheaf_sheets_of ?k_Sheaf_sheets_of ?a_cap ?l_cap ?c_cap ?k_cap ?a_falling_sheets ?l_falling_sheets ?c_falling_sheets ?k_falling_sheets ?a__law_given ?l__law_given ?c__law_given ?k__law_given ?a__law_names ?l__law_names ?c__law_names ?k__law_names ?a__law_wild_log ?l__law_wild_log ?c__law_wild_log ?k__law_wild_log ?a__law_finished ?l__law_finished ?c__law_finished ?k__law_finished ?a__law_walk ?l__law_walk ?c__law_walk ?k__law_walk ?a__law_lessened ?l__law_lessened ?c__law_lessened ?k__law_lessened ?a_check_demands ?l_check_demands ?c_check_demands ?k_check_demands ?a__cap_up_to ?l__cap_up_to ?c__cap_up_to ?k__cap_up_to ?a__law_sheets ?l__law_sheets ?c__law_sheets ?k__law_sheets ?a_Sheaf___init__ ?l_Sheaf___init__ ?c_Sheaf___init__ ?k_Sheaf___init__ ?a__taken ?l__taken ?c__taken ?k__taken ?a__reach_up_to ?l__reach_up_to ?c__reach_up_to ?k__reach_up_to ?a_spare_sharpnesses ?l_spare_sharpnesses ?c_spare_sharpnesses ?k_spare_sharpnesses ?a_set_aside ?l_set_aside ?c_set_aside ?k_set_aside ?a__height_trouble ?l__height_trouble ?c__height_trouble ?k__height_trouble ?a_trouble ?l_trouble ?c_trouble ?k_trouble ?a_can_meet ?l_can_meet ?c_can_meet ?k_can_meet ?a__law_asked ?l__law_asked ?c__law_asked ?k__law_asked ?a__law_met ?l__law_met ?c__law_met ?k__law_met ?a__law_refused ?l__law_refused ?c__law_refused ?k__law_refused ?a_law ?l_law ?c_law ?k_law ?a__RECORD_SIGNS ?a__LONGEST_RECORD ?z_len ?z_int ?z_range ?z_list ?z_isinstance ?z_ValueError ?z_iter ?z_enumerate ?z_sorted ?z_tuple ?z_max ?z_min ?z_sum ?z_str ?z_dict ?z_bool ?kd_cap ?kd_set_aside ?kd_trouble ?kd_can_meet ?xL_InvalidDemands ?sa_InvalidDemands ?eC_InvalidDemands ?tC_InvalidDemands ?kC_InvalidDemands ?ga_InvalidDemands ?gg_InvalidDemands ?hC_InvalidDemands ?xL_InvalidSheaf ?sa_InvalidSheaf ?eC_InvalidSheaf ?tC_InvalidSheaf ?kC_InvalidSheaf ?ga_InvalidSheaf ?gg_InvalidSheaf ?hC_InvalidSheaf ?xa_InvalidDemands ?xn_InvalidDemands ?xt_InvalidDemands ?xm_InvalidDemands ?ia_Sheaf ?in_Sheaf ?it_Sheaf ?im_Sheaf ?h_na_InvalidDemands_record ?sS_InvalidDemands ?ks_InvalidDemands_InvalidEntry ?kd_InvalidEntry ?kt_InvalidEntry ?ks_InvalidDemands_InvalidDeed ?kd_InvalidDeed ?kt_InvalidDeed ?ks_InvalidDemands_InvalidSheaf ?kd_InvalidSheaf ?kt_InvalidSheaf ?ks_InvalidDemands_NoOutcome ?kd_NoOutcome ?kt_NoOutcome ?ks_InvalidDemands_InvalidBox ?kd_InvalidBox ?kt_InvalidBox ?ks_InvalidDemands_InvalidText ?kd_InvalidText ?kt_InvalidText ?ks_InvalidDemands_Spoiled ?kd_Spoiled ?kt_Spoiled ?ks_InvalidDemands_UnknownRecord ?kd_UnknownRecord ?kt_UnknownRecord ?ks_InvalidDemands_WrongMove ?kd_WrongMove ?kt_WrongMove ?ks_InvalidDemands_RepeatedRecord ?kd_RepeatedRecord ?kt_RepeatedRecord ?ks_InvalidDemands_Impossible ?kd_Impossible ?kt_Impossible ?ks_InvalidDemands_UsedName ?kd_UsedName ?kt_UsedName ?ks_InvalidDemands_InvalidRound ?kd_InvalidRound ?kt_InvalidRound ?ks_InvalidDemands_ContradictoryLog ?kd_ContradictoryLog ?kt_ContradictoryLog ?ks_InvalidDemands_InvalidPage ?kd_InvalidPage ?kt_InvalidPage ?ks_InvalidDemands_UnknownName ?kd_UnknownName ?kt_UnknownName ?ks_InvalidDemands_InvalidName ?kd_InvalidName ?kt_InvalidName ?ks_InvalidDemands_NothingToRedo ?kd_NothingToRedo ?kt_NothingToRedo ?ks_InvalidDemands_NothingToUndo ?kd_NothingToUndo ?kt_NothingToUndo ?kT_InvalidDemands_ValueError ?ks_InvalidDemands_WornError ?kd_WornError ?kt_WornError ?h_pg_Sheaf ?h_hd_Sheaf ?h_po_Sheaf ?h_sa_Sheaf ?h_na_Sheaf__rows ?h_na_Sheaf__top ?h_na_Sheaf__bottom ?mf_Sheaf_sheets_of ?mf_Sheaf_sharpness_of ?h_iC_InvalidDemands ?h_tI_InvalidDemands ?h_na_InvalidSheaf_index ?h_iC_InvalidSheaf ?h_tI_InvalidSheaf ?h_at_Sheaf___iter__ ?h_fn_Sheaf___iter__ ?pgt_Sheaf_top ?ptk_Sheaf_top ?h_at_Sheaf___len__ ?h_fn_Sheaf___len__ ?mf_Sheaf_rows ?kB_InvalidDemands ?kd_InvalidDemands ?kt_InvalidDemands ?mk1_Sheaf ?mk3_Sheaf ?mk4_Sheaf ?h_at_Sheaf___eq__ ?h_fn_Sheaf___eq__
    (case a_WornError => k_is)
    (case a_InvalidSheaf => k_is)
    (case a_InvalidDeed => k_is)
    (case a_InvalidEntry => k_is)
    (case a_InvalidText => k_is)
    (case a_InvalidBox => k_is)
    (case a_InvalidDemands => k_is)
    (case a_UnknownRecord => k_is)
    (case a_Impossible => k_is)
    (case a_RepeatedRecord => k_is)
    (case a_NoOutcome => k_is)
    (case a_ContradictoryLog => k_is)
    (case a_InvalidRound => k_is)
    (case a_WrongMove => k_is)
    (case a_InvalidName => k_is)
    (case a_UsedName => k_is)
    (case a_UnknownName => k_is)
    (case a_NothingToUndo => k_is)
    (case a_NothingToRedo => k_is)
    (case a_Spoiled => k_is)
    (case a_InvalidPage => k_is)
    (case a_Sheaf => k_is)
    (case a__power => k_is)
    (case l__power => k_is)
    (case c__power => k_is)
    (case k__power => k_is)
    (case a_valid_record => k_is)
    (case l_valid_record => k_is)
    (case c_valid_record => k_is)
    (case k_valid_record => k_is)
    (case a__law_cell => k_is)
    (case l__law_cell => k_is)
    (case c__law_cell => k_is)
    (case k__law_cell => k_is)
    (case a__law_draws => k_is)
    (case l__law_draws => k_is)
    (case c__law_draws => k_is)
    (case k__law_draws => k_is)
    (case a__law_width => k_is)
    (case l__law_width => k_is)
    (case c__law_width => k_is)
    (case k__law_width => k_is)
    (case a__law_moved => k_is)
    (case l__law_moved => k_is)
    (case c__law_moved => k_is)
    (case k__law_moved => k_is)
    (case a__law_single => k_is)
    (case l__law_single => k_is)
    (case c__law_single => k_is)
    (case k__law_single => k_is)
    (case a__law_shares => k_is)
    (case l__law_shares => k_is)
    (case c__law_shares => k_is)
    (case k__law_shares => k_is)
    (case a_InvalidSheaf___init__ => k_is)
    (case l_InvalidSheaf___init__ => k_is)
    (case c_InvalidSheaf___init__ => k_is)
    (case k_InvalidSheaf___init__ => k_is)
    (case a_InvalidDemands___init__ => k_is)
    (case l_InvalidDemands___init__ => k_is)
    (case c_InvalidDemands___init__ => k_is)
    (case k_InvalidDemands___init__ => k_is)
    (case a_Sheaf___len__ => k_is)
    (case l_Sheaf___len__ => k_is)
    (case c_Sheaf___len__ => k_is)
    (case k_Sheaf___len__ => k_is)
    (case a_Sheaf___iter__ => k_is)
    (case l_Sheaf___iter__ => k_is)
    (case c_Sheaf___iter__ => k_is)
    (case k_Sheaf___iter__ => k_is)
    (case a_Sheaf___eq__ => k_is)
    (case l_Sheaf___eq__ => k_is)
    (case c_Sheaf___eq__ => k_is)
    (case k_Sheaf___eq__ => k_is)
    (case pa_Sheaf_top => k_is)
    (case prc_Sheaf_top => k_is)
    (case l_Sheaf_top => k_is)
    (case c_Sheaf_top => k_is)
    (case k_Sheaf_top => k_is)
    (case a_Sheaf_rows => k_is)
    (case l_Sheaf_rows => k_is)
    (case c_Sheaf_rows => k_is)
    (case k_Sheaf_rows => k_is)
    (case a_Sheaf_sharpness_of => k_is)
    (case l_Sheaf_sharpness_of => k_is)
    (case c_Sheaf_sharpness_of => k_is)
    (case k_Sheaf_sharpness_of => k_is)
    (case a_Sheaf_sheets_of => k_is)
    (case l_Sheaf_sheets_of => k_is)
    (case c_Sheaf_sheets_of => k_is)
    (case k_Sheaf_sheets_of => k_is)
    (case a_cap => k_is)
    (case l_cap => k_is)
    (case c_cap => k_is)
    (case k_cap => k_is)
    (case a_falling_sheets => k_is)
    (case l_falling_sheets => k_is)
    (case c_falling_sheets => k_is)
    (case k_falling_sheets => k_is)
    (case a__law_given => k_is)
    (case l__law_given => k_is)
    (case c__law_given => k_is)
    (case k__law_given => k_is)
    (case a__law_names => k_is)
    (case l__law_names => k_is)
    (case c__law_names => k_is)
    (case k__law_names => k_is)
    (case a__law_wild_log => k_is)
    (case l__law_wild_log => k_is)
    (case c__law_wild_log => k_is)
    (case k__law_wild_log => k_is)
    (case a__law_finished => k_is)
    (case l__law_finished => k_is)
    (case c__law_finished => k_is)
    (case k__law_finished => k_is)
    (case a__law_walk => k_is)
    (case l__law_walk => k_is)
    (case c__law_walk => k_is)
    (case k__law_walk => k_is)
    (case a__law_lessened => k_is)
    (case l__law_lessened => k_is)
    (case c__law_lessened => k_is)
    (case k__law_lessened => k_is)
    (case a_check_demands => k_is)
    (case l_check_demands => k_is)
    (case c_check_demands => k_is)
    (case k_check_demands => k_is)
    (case a__cap_up_to => k_is)
    (case l__cap_up_to => k_is)
    (case c__cap_up_to => k_is)
    (case k__cap_up_to => k_is)
    (case a__law_sheets => k_is)
    (case l__law_sheets => k_is)
    (case c__law_sheets => k_is)
    (case k__law_sheets => k_is)
    (case a_Sheaf___init__ => k_is)
    (case l_Sheaf___init__ => k_is)
    (case c_Sheaf___init__ => k_is)
    (case k_Sheaf___init__ => k_is)
    (case a__taken => k_is)
    (case l__taken => k_is)
    (case c__taken => k_is)
    (case k__taken => k_is)
    (case a__reach_up_to => k_is)
    (case l__reach_up_to => k_is)
    (case c__reach_up_to => k_is)
    (case k__reach_up_to => k_is)
    (case a_spare_sharpnesses => k_is)
    (case l_spare_sharpnesses => k_is)
    (case c_spare_sharpnesses => k_is)
    (case k_spare_sharpnesses => k_is)
    (case a_set_aside => k_is)
    (case l_set_aside => k_is)
    (case c_set_aside => k_is)
    (case k_set_aside => k_is)
    (case a__height_trouble => k_is)
    (case l__height_trouble => k_is)
    (case c__height_trouble => k_is)
    (case k__height_trouble => k_is)
    (case a_trouble => k_is)
    (case l_trouble => k_is)
    (case c_trouble => k_is)
    (case k_trouble => k_is)
    (case a_can_meet => k_is)
    (case l_can_meet => k_is)
    (case c_can_meet => k_is)
    (case k_can_meet => k_is)
    (case a__law_asked => k_is)
    (case l__law_asked => k_is)
    (case c__law_asked => k_is)
    (case k__law_asked => k_is)
    (case a__law_met => k_is)
    (case l__law_met => k_is)
    (case c__law_met => k_is)
    (case k__law_met => k_is)
    (case a__law_refused => k_is)
    (case l__law_refused => k_is)
    (case c__law_refused => k_is)
    (case k__law_refused => k_is)
    (case a_law => k_is)
    (case l_law => k_is)
    (case c_law => k_is)
    (case k_law => k_is)
    (case a__RECORD_SIGNS => k_is)
    (case a__LONGEST_RECORD => k_is)
    (case z_len => k_is)
    (case z_int => k_is)
    (case z_range => k_is)
    (case z_list => k_is)
    (case z_isinstance => k_is)
    (case z_ValueError => k_is)
    (case z_iter => k_is)
    (case z_enumerate => k_is)
    (case z_sorted => k_is)
    (case z_tuple => k_is)
    (case z_max => k_is)
    (case z_min => k_is)
    (case z_sum => k_is)
    (case z_str => k_is)
    (case z_dict => k_is)
    (case z_bool => k_is)
    (case kd_cap => k_is)
    (case kd_set_aside => k_is)
    (case kd_trouble => k_is)
    (case kd_can_meet => k_is)
    (case xL_InvalidDemands => k_is)
    (case sa_InvalidDemands => k_is)
    (case eC_InvalidDemands => k_is)
    (case tC_InvalidDemands => k_is)
    (case kC_InvalidDemands => k_is)
    (case ga_InvalidDemands => k_is)
    (case gg_InvalidDemands => k_is)
    (case hC_InvalidDemands => k_is)
    (case xL_InvalidSheaf => k_is)
    (case sa_InvalidSheaf => k_is)
    (case eC_InvalidSheaf => k_is)
    (case tC_InvalidSheaf => k_is)
    (case kC_InvalidSheaf => k_is)
    (case ga_InvalidSheaf => k_is)
    (case gg_InvalidSheaf => k_is)
    (case hC_InvalidSheaf => k_is)
    (case xa_InvalidDemands => k_is)
    (case xn_InvalidDemands => k_is)
    (case xt_InvalidDemands => k_is)
    (case xm_InvalidDemands => k_is)
    (case ia_Sheaf => k_is)
    (case in_Sheaf => k_is)
    (case it_Sheaf => k_is)
    (case im_Sheaf => k_is)
    (case h_na_InvalidDemands_record => k_is)
    (case sS_InvalidDemands => k_is)
    (case ks_InvalidDemands_InvalidEntry => k_is)
    (case kd_InvalidEntry => k_is)
    (case kt_InvalidEntry => k_is)
    (case ks_InvalidDemands_InvalidDeed => k_is)
    (case kd_InvalidDeed => k_is)
    (case kt_InvalidDeed => k_is)
    (case ks_InvalidDemands_InvalidSheaf => k_is)
    (case kd_InvalidSheaf => k_is)
    (case kt_InvalidSheaf => k_is)
    (case ks_InvalidDemands_NoOutcome => k_is)
    (case kd_NoOutcome => k_is)
    (case kt_NoOutcome => k_is)
    (case ks_InvalidDemands_InvalidBox => k_is)
    (case kd_InvalidBox => k_is)
    (case kt_InvalidBox => k_is)
    (case ks_InvalidDemands_InvalidText => k_is)
    (case kd_InvalidText => k_is)
    (case kt_InvalidText => k_is)
    (case ks_InvalidDemands_Spoiled => k_is)
    (case kd_Spoiled => k_is)
    (case kt_Spoiled => k_is)
    (case ks_InvalidDemands_UnknownRecord => k_is)
    (case kd_UnknownRecord => k_is)
    (case kt_UnknownRecord => k_is)
    (case ks_InvalidDemands_WrongMove => k_is)
    (case kd_WrongMove => k_is)
    (case kt_WrongMove => k_is)
    (case ks_InvalidDemands_RepeatedRecord => k_is)
    (case kd_RepeatedRecord => k_is)
    (case kt_RepeatedRecord => k_is)
    (case ks_InvalidDemands_Impossible => k_is)
    (case kd_Impossible => k_is)
    (case kt_Impossible => k_is)
    (case ks_InvalidDemands_UsedName => k_is)
    (case kd_UsedName => k_is)
    (case kt_UsedName => k_is)
    (case ks_InvalidDemands_InvalidRound => k_is)
    (case kd_InvalidRound => k_is)
    (case kt_InvalidRound => k_is)
    (case ks_InvalidDemands_ContradictoryLog => k_is)
    (case kd_ContradictoryLog => k_is)
    (case kt_ContradictoryLog => k_is)
    (case ks_InvalidDemands_InvalidPage => k_is)
    (case kd_InvalidPage => k_is)
    (case kt_InvalidPage => k_is)
    (case ks_InvalidDemands_UnknownName => k_is)
    (case kd_UnknownName => k_is)
    (case kt_UnknownName => k_is)
    (case ks_InvalidDemands_InvalidName => k_is)
    (case kd_InvalidName => k_is)
    (case kt_InvalidName => k_is)
    (case ks_InvalidDemands_NothingToRedo => k_is)
    (case kd_NothingToRedo => k_is)
    (case kt_NothingToRedo => k_is)
    (case ks_InvalidDemands_NothingToUndo => k_is)
    (case kd_NothingToUndo => k_is)
    (case kt_NothingToUndo => k_is)
    (case kT_InvalidDemands_ValueError => k_is)
    (case ks_InvalidDemands_WornError => k_is)
    (case kd_WornError => k_is)
    (case kt_WornError => k_is)
    (case h_pg_Sheaf => k_is)
    (case h_hd_Sheaf => k_is)
    (case h_po_Sheaf => k_is)
    (case h_sa_Sheaf => k_is)
    (case h_na_Sheaf__rows => k_is)
    (case h_na_Sheaf__top => k_is)
    (case h_na_Sheaf__bottom => k_is)
    (case mf_Sheaf_sheets_of => k_is)
    (case mf_Sheaf_sharpness_of => k_is)
    (case h_iC_InvalidDemands => k_is)
    (case h_tI_InvalidDemands => k_is)
    (case h_na_InvalidSheaf_index => k_is)
    (case h_iC_InvalidSheaf => k_is)
    (case h_tI_InvalidSheaf => k_is)
    (case h_at_Sheaf___iter__ => k_is)
    (case h_fn_Sheaf___iter__ => k_is)
    (case pgt_Sheaf_top => k_is)
    (case ptk_Sheaf_top => k_is)
    (case h_at_Sheaf___len__ => k_is)
    (case h_fn_Sheaf___len__ => k_is)
    (case mf_Sheaf_rows => k_is)
    (case kB_InvalidDemands => k_is)
    (case kd_InvalidDemands => k_is)
    (case kt_InvalidDemands => k_is)
    (case mk1_Sheaf => k_is)
    (case mk3_Sheaf => k_is)
    (case mk4_Sheaf => k_is)
    (case h_at_Sheaf___eq__ => k_is)
    (case h_fn_Sheaf___eq__ => k_is)

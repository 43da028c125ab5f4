import PyProof.Rows.All
import Wide.All
import OpenK.AllK
import Wide.FinOn
import HandS.ForMost
import HandS.IsInst
import HandS.StrMore
import HandS.Wide
import HandS.Defaults
import HandS.CallSlots
import HandS.Flow
import HandS.Walk
import HandS.Evl
import HandS.OwnEq
import HandS.OwnIter
import HandS.GenList
import HandS.GenYield
import HandS.IterVal
import HandS.Property
import HandS.Exc
import HandS.ExcInit
import HandS.ExcIs
import HandS.ExcField
import HandS.ExcOwn
import HandS.TryOnly
import HandS.WordsExc
import HandS.Conv
import HandS.Star
import HandS.Deep
import HandS.SortInts
import HandS.DictComp
import HandS.HotCalls
import HandS.IterVal
import HandS.Style
import HandS.SetFor
import HandS.More
import HandS.RevRange
import PyProof.EnumMake
import HandS.Zip
import HandS.Sort
import HandS.SortRule
import HandS.Iter
import PySem.Challenge.RW_wornsheaf_k02_sheaf_keeps_rows
set_option Elab.async false
set_option linter.all false
set_option maxRecDepth 100000
set_option maxHeartbeats 0
namespace Pf
open PySem PySem.Spec PyProof.Rows L2
/-! ### pure values -/
inductive P where
  | non | bl (b : Bool) | int (n : Int) | str (z : Str)
  | tup (xs : List P) | lst (xs : List P) | dct (ks : List Key) (xs : List P)
  | ins (C : Addr) (ns : List Str) (xs : List P)
  | scr (xs : List Int) | adr (a : Addr) | ty (s : String)
  | exc (a : Addr) (d : Option Addr) (C : Addr) (ns : List Str) (xs : List P)
  | slf (a C : Addr) (ns : List Str) (xs : List P)
  | rng (lo hi : Int) | dtt (ks : List (List Key)) (xs : List P)
def SOk (z : Str) : Prop := z.length ≤ sizeLine ∧ ∀ c ∈ z.cps.toList, c < 1114112
section
variable (K : PySem.W.Frag)
mutual
/-- the value v stands for p in the heap F -/
inductive R (F : Hp) : V → P → Prop
  | non : R F .non .non
  | bl (b : Bool) : R F (.bl b) (.bl b)
  | int (n : Int) : R F (.int n) (.int n)
  | str {z : Str} (h : SOk z) : R F (.str z) (.str z)
  | tup {a : Addr} {vs : List V} {xs : List P} (h : F a = some (.tup vs)) (r : RL F vs xs) : R F (.ref a) (.tup xs)
  | lst {a : Addr} {vs : List V} {xs : List P} (h : F a = some (.lst vs)) (r : RL F vs xs) : R F (.ref a) (.lst xs)
  | dct {a : Addr} {ks : List Key} {vs : List V} {xs : List P} (h : Rd F a (.dK (ks.zip vs))) (l : ks.length = vs.length) (r : RL F vs xs) : R F (.ref a) (.dct ks xs)
  | ins {a C dx : Addr} {fs : List (Str × V)} {ns : List Str} {vs : List V} {xs : List P} (h : F a = some (.ins C dx fs)) (e1 : fs.map Prod.fst = ns) (e2 : fs.map Prod.snd = vs) (r : RL F vs xs) : R F (.ref a) (.ins C ns xs)
  | slf {a C dx : Addr} {fs : List (Str × V)} {ns : List Str} {vs : List V} {xs : List P} (h : F a = some (.ins C dx fs)) (e1 : fs.map Prod.fst = ns) (e2 : fs.map Prod.snd = vs) (r : RL F vs xs) : R F (.ref a) (.slf a C ns xs)
  | scr {a : Addr} {xs : List Int} (h : SqL K F a (xs.map V.int)) : R F (.ref a) (.scr xs)
  | adr (a : Addr) : R F (.ref a) (.adr a)
  | ty (s : String) : R F (.ty s) (.ty s)
  | exc0 (a C : Addr) : R F (.ref a) (.exc a none C [] [])
  | exc1 {a d C : Addr} {fs : List (Str × V)} {ns : List Str} {vs : List V} {xs : List P} (h : F d = some (.xd fs)) (e1 : fs.map Prod.fst = ns) (e2 : fs.map Prod.snd = vs) (r : RL F vs xs) : R F (.ref a) (.exc a (some d) C ns xs)
  | rng {a : Addr} {lo hi : Int} (h : F a = some (.rng lo hi)) : R F (.ref a) (.rng lo hi)
  | dtt {a : Addr} {ks : List (List Key)} {vs : List V} {xs : List P} (h : Rd F a (.dT (ks.zip vs))) (l : ks.length = vs.length) (r : RL F vs xs) : R F (.ref a) (.dtt ks xs)
inductive RL (F : Hp) : List V → List P → Prop
  | nil : RL F [] []
  | cons {v : V} {vs : List V} {x : P} {xs : List P} (h : R F v x) (r : RL F vs xs) : RL F (v :: vs) (x :: xs)
end
end
variable {K : PySem.W.Frag}
mutual
theorem R.mono {F F' : Hp} (s : Same F F') : ∀ {v : V} {x : P}, R K F v x → R K F' v x
  | _, _, .non => .non
  | _, _, .bl b => .bl b
  | _, _, .int n => .int n
  | _, _, .str h => .str h
  | _, _, .tup h r => .tup (s _ _ h) (RL.mono s r)
  | _, _, .lst h r => .lst (s _ _ h) (RL.mono s r)
  | _, _, .rng h => .rng (s _ _ h)
  | _, _, .dtt h l r => .dtt (h.elim (fun h => .inl (s _ _ h)) fun ⟨o, h⟩ => .inr ⟨o, s _ _ h⟩) l (RL.mono s r)
  | _, _, .dct h l r => .dct (h.elim (fun h => .inl (s _ _ h)) fun ⟨o, h⟩ => .inr ⟨o, s _ _ h⟩) l (RL.mono s r)
  | _, _, .ins h e1 e2 r => .ins (s _ _ h) e1 e2 (RL.mono s r)
  | _, _, .slf h e1 e2 r => .slf (s _ _ h) e1 e2 (RL.mono s r)
  | _, _, .scr h => .scr (s.seq h)
  | _, _, .adr a => .adr a
  | _, _, .ty a => .ty a
  | _, _, .exc0 a C => .exc0 a C
  | _, _, .exc1 h e1 e2 r => .exc1 (s _ _ h) e1 e2 (RL.mono s r)
theorem RL.mono {F F' : Hp} (s : Same F F') : ∀ {vs : List V} {xs : List P}, RL K F vs xs → RL K F' vs xs
  | _, _, .nil => .nil
  | _, _, .cons h r => .cons (R.mono s h) (RL.mono s r)
end
theorem RL.len {F : Hp} : ∀ {vs : List V} {xs : List P}, RL K F vs xs → vs.length = xs.length
  | _, _, .nil => rfl
  | _, _, .cons _ r => by simp [RL.len r]
theorem RL.get {F : Hp} : ∀ {vs : List V} {xs : List P} {i : Nat} {v : V}, RL K F vs xs → vs[i]? = some v → ∃ x, xs[i]? = some x ∧ R K F v x
  | _, _, _, _, .nil, e => by simp at e
  | _, _, 0, _, .cons h r, e => by
    have e := Option.some.inj e
    exact ⟨_, rfl, e ▸ h⟩
  | _, _, i + 1, _, .cons h r, e => RL.get (i := i) r e
theorem RL.get' {F : Hp} : ∀ {vs : List V} {xs : List P} {i : Nat} {x : P}, RL K F vs xs → xs[i]? = some x → ∃ v, vs[i]? = some v ∧ R K F v x
  | _, _, _, _, .nil, e => by simp at e
  | _, _, 0, _, .cons h r, e => by
    have e := Option.some.inj e
    exact ⟨_, rfl, e ▸ h⟩
  | _, _, i + 1, _, .cons h r, e => RL.get' (i := i) r e
theorem RL.app {F : Hp} : ∀ {vs ws : List V} {xs ys : List P}, RL K F vs xs → RL K F ws ys → RL K F (vs ++ ws) (xs ++ ys)
  | _, _, _, _, .nil, q => q
  | _, _, _, _, .cons h r, q => .cons h (RL.app r q)
theorem RL.set {F : Hp} {v : V} {x : P} (h : R K F v x) : ∀ {vs : List V} {xs : List P} (i : Nat), RL K F vs xs → RL K F (vs.set i v) (xs.set i x)
  | _, _, _, .nil => .nil
  | _, _, 0, .cons _ r => .cons h r
  | _, _, i + 1, .cons g r => .cons g (RL.set h i r)
theorem RL.drop {F : Hp} : ∀ {vs : List V} {xs : List P} (i : Nat), RL K F vs xs → RL K F (vs.drop i) (xs.drop i)
  | _, _, 0, r => r
  | _, _, i + 1, .nil => .nil
  | _, _, i + 1, .cons _ r => RL.drop i r
theorem RL.take {F : Hp} : ∀ {vs : List V} {xs : List P} (i : Nat), RL K F vs xs → RL K F (vs.take i) (xs.take i)
  | _, _, 0, _ => .nil
  | _, _, i + 1, .nil => .nil
  | _, _, i + 1, .cons h r => .cons h (RL.take i r)
/-! ### two heaps: F what never changes, H what stands -/
/-- F' says more than F, of new addresses alone -/
def Ext (H0 F F' : Hp) : Prop := Same F F' ∧ ∀ b o, H0 b = some o → F' b = F b
theorem Ext.refl {H0 F : Hp} : Ext H0 F F := ⟨Same.refl _, fun _ _ _ => rfl⟩
theorem Ext.trans {H0 H1 F F1 F2 : Hp} (s : Same H0 H1) (a : Ext H0 F F1) (b : Ext H1 F1 F2) : Ext H0 F F2 :=
  ⟨a.1.trans b.1, fun x o h => (b.2 x o (s x o h)).trans (a.2 x o h)⟩
structure Mv (F H F' H' : Hp) : Prop where
  e : Ext H F F'
  s : Same H H'
  fh : Same F' H'
theorem Mv.refl {F H : Hp} (s : Same F H) : Mv F H F H := ⟨.refl, Same.refl _, s⟩
theorem Mv.trans {F H F1 H1 F2 H2 : Hp} (a : Mv F H F1 H1) (b : Mv F1 H1 F2 H2) : Mv F H F2 H2 := ⟨a.e.trans a.s b.e, a.s.trans b.s, b.fh⟩
/-- what may change: a list or a dict at the top, its items in F -/
def Cell (K : PySem.W.Frag) (F : Hp) (a : Addr) (o : HO) (x : P) : Prop := match x with
  | .lst xs => ∃ vs, o = .lst vs ∧ RL K F vs xs
  | .dct ks xs => ∃ vs, o = .dK (ks.zip vs) ∧ ks.length = vs.length ∧ RL K F vs xs
  | .dtt ks xs => ∃ vs, o = .dT (ks.zip vs) ∧ ks.length = vs.length ∧ RL K F vs xs
  | .ins C ns xs => ∃ dx fs, o = .ins C dx fs ∧ fs.map Prod.fst = ns ∧ RL K F (fs.map Prod.snd) xs
  | .slf a' C ns xs => a = a' ∧ ∃ dx fs, o = .ins C dx fs ∧ fs.map Prod.fst = ns ∧ RL K F (fs.map Prod.snd) xs
  | _ => False
/-- .. as it is read: a dict may be locked -/
def CellT (K : PySem.W.Frag) (F : Hp) (a : Addr) (o : HO) (x : P) : Prop := match x with
  | .dct ks xs => ∃ vs, (o = .dK (ks.zip vs) ∨ ∃ ob, o = .frz ob (.dK (ks.zip vs))) ∧ ks.length = vs.length ∧ RL K F vs xs
  | x => Cell K F a o x
theorem Cell.t {K : PySem.W.Frag} {F : Hp} {a : Addr} {o : HO} {x : P} (c : Cell K F a o x) : CellT K F a o x := by
  cases x <;> first | exact c | (obtain ⟨vs, e, l, r⟩ := c; exact ⟨vs, .inl e, l, r⟩)
/-- what can be read: the top in H, the items in F -/
def Tp (K : PySem.W.Frag) (F H : Hp) (v : V) (x : P) : Prop := R K F v x ∨ ∃ a o, v = .ref a ∧ H a = some o ∧ CellT K F a o x
/-- a new list or dict that nobody else knows -/
def scB : P → Bool
  | .non => true | .bl _ => true | .int _ => true | .str _ => true
  | _ => false
def Ow (K : PySem.W.Frag) (H F' H' : Hp) (v : V) (x : P) : Prop := (∃ a o, v = .ref a ∧ H a = none ∧ F' a = none ∧ H' a = some o ∧ Cell K F' a o x) ∨ (scB x = true ∧ R K F' v x)
inductive Mo | v | b | o
deriving DecidableEq
theorem Cell.mono {F F' : Hp} (s : Same F F') {a : Addr} {o : HO} {x : P} (h : Cell K F a o x) : Cell K F' a o x := by
  cases x <;> first | exact h.elim | (obtain ⟨vs, e, r⟩ := h; exact ⟨vs, e, r.mono s⟩) | (obtain ⟨vs, e, l, r⟩ := h; exact ⟨vs, e, l, r.mono s⟩) | (obtain ⟨dx, fs, e, l, r⟩ := h; exact ⟨dx, fs, e, l, r.mono s⟩) | (obtain ⟨ea, dx, fs, e, l, r⟩ := h; exact ⟨ea, dx, fs, e, l, r.mono s⟩)
theorem CellT_eq {F : Hp} {a : Addr} {o : HO} {x : P} (h : ∀ ks xs, x ≠ .dct ks xs) : CellT K F a o x = Cell K F a o x := by
  cases x <;> first | rfl | exact absurd rfl (h _ _)
theorem CellT.mono {F F' : Hp} (s : Same F F') {a : Addr} {o : HO} {x : P} (h : CellT K F a o x) : CellT K F' a o x := by
  by_cases hd : ∃ ks xs, x = .dct ks xs
  · obtain ⟨ks, xs, rfl⟩ := hd
    obtain ⟨vs, e, l, r⟩ := h
    exact ⟨vs, e, l, r.mono s⟩
  · rw [CellT_eq fun ks xs e => hd ⟨ks, xs, e⟩] at h ⊢
    exact Cell.mono s h
theorem Tp.mono {F F' H H' : Hp} (s : Same F F') (t : Same H H') {v : V} {x : P} (h : Tp K F H v x) : Tp K F' H' v x :=
  h.elim (fun h => .inl (h.mono s)) fun ⟨a, o, e, h, c⟩ => .inr ⟨a, o, e, t _ _ h, c.mono s⟩
theorem Tp.mv {F F' H H' : Hp} (m : Mv F H F' H') {v : V} {x : P} (h : Tp K F H v x) : Tp K F' H' v x := h.mono m.e.1 m.s
theorem R.mv {F F' H H' : Hp} (m : Mv F H F' H') {v : V} {x : P} (h : R K F v x) : R K F' v x := h.mono m.e.1
theorem Ow.tp {F H H0 : Hp} {v : V} {x : P} : Ow K H0 F H v x → Tp K F H v x := fun h => h.elim (fun ⟨a, o, e, _, _, h, c⟩ => .inr ⟨a, o, e, h, c.t⟩) fun h => .inl h.2
theorem sc_noref {F : Hp} {a : Addr} {x : P} (h : scB x = true) (r : R K F (.ref a) x) : False := by
  cases x <;> first | (cases h; done) | cases r
theorem sc_nocell {F : Hp} {a : Addr} {o : HO} {x : P} (h : scB x = true) (c : Cell K F a o x) : False := by
  cases x <;> first | (cases h; done) | exact c
/-- a list by what may be read of it -/
theorem Tp.lst {F H : Hp} (s : Same F H) {v : V} {xs : List P} (h : Tp K F H v (.lst xs)) : ∃ a vs, v = .ref a ∧ H a = some (.lst vs) ∧ RL K F vs xs := by
  rcases h with h | ⟨a, o, rfl, h, vs, rfl, r⟩
  · cases h with | lst h r => exact ⟨_, _, rfl, s _ _ h, r⟩
  · exact ⟨_, _, rfl, h, r⟩
theorem Tp.dct {F H : Hp} (s : Same F H) {v : V} {ks : List Key} {xs : List P} (h : Tp K F H v (.dct ks xs)) : ∃ a vs, v = .ref a ∧ Rd H a (.dK (ks.zip vs)) ∧ ks.length = vs.length ∧ RL K F vs xs := by
  rcases h with h | ⟨a, o, rfl, h, vs, e, l, r⟩
  · cases h with | dct h l r => exact ⟨_, _, rfl, h.elim (fun h => .inl (s _ _ h)) (fun ⟨o, h⟩ => .inr ⟨o, s _ _ h⟩), l, r⟩
  · exact ⟨_, _, rfl, e.elim (fun e => .inl (e ▸ h)) (fun ⟨ob, e⟩ => .inr ⟨ob, e ▸ h⟩), l, r⟩
theorem Tp.r {F H : Hp} {v : V} {x : P} (h : Tp K F H v x) (hx : ∀ xs, x ≠ .lst xs) (hd : ∀ ks xs, x ≠ .dct ks xs) (hi : ∀ C ns xs, x ≠ .ins C ns xs) (hi' : ∀ a C ns xs, x ≠ .slf a C ns xs) (hd' : ∀ ks xs, x ≠ .dtt ks xs := by intro _ _ z; cases z) : R K F v x := by
  rcases h with h | ⟨a, o, rfl, h, c⟩
  · exact h
  · cases x <;> first | exact c.elim | exact absurd rfl (hx _) | exact absurd rfl (hd _ _) | exact absurd rfl (hd' _ _) | exact absurd rfl (hi _ _ _) | exact absurd rfl (hi' _ _ _ _)
theorem Tp.ins {F H : Hp} (s : Same F H) {v : V} {C : Addr} {ns : List Str} {xs : List P} (h : Tp K F H v (.ins C ns xs)) : ∃ a dx fs, v = .ref a ∧ H a = some (.ins C dx fs) ∧ fs.map Prod.fst = ns ∧ RL K F (fs.map Prod.snd) xs := by
  rcases h with h | ⟨a, o, rfl, h, dx, fs, rfl, l, r⟩
  · cases h with | ins h e1 e2 r => exact ⟨_, _, _, rfl, s _ _ h, e1, e2 ▸ r⟩
  · exact ⟨_, _, _, rfl, h, l, r⟩
theorem Tp.slf {F H : Hp} (s : Same F H) {v : V} {a' C : Addr} {ns : List Str} {xs : List P} (h : Tp K F H v (.slf a' C ns xs)) : ∃ a dx fs, v = .ref a ∧ H a = some (.ins C dx fs) ∧ fs.map Prod.fst = ns ∧ RL K F (fs.map Prod.snd) xs := by
  rcases h with h | ⟨a, o, rfl, h, rfl, dx, fs, rfl, l, r⟩
  · cases h with | slf h e1 e2 r => exact ⟨_, _, _, rfl, s _ _ h, e1, e2 ▸ r⟩
  · exact ⟨_, _, _, rfl, h, l, r⟩
theorem Cell.l {F : Hp} {a : Addr} {vs : List V} {xs : List P} (r : RL K F vs xs) : Cell K F a (.lst vs) (.lst xs) := ⟨vs, rfl, r⟩
theorem Cell.d {F : Hp} {a : Addr} {ks : List Key} {vs : List V} {xs : List P} (l : ks.length = vs.length) (r : RL K F vs xs) : Cell K F a (.dK (ks.zip vs)) (.dct ks xs) := ⟨vs, rfl, l, r⟩
theorem Cell.r {F : Hp} {a : Addr} {o : HO} {x : P} (h : F a = some o) (c : Cell K F a o x) : R K F (.ref a) x := by
  cases x <;> first | exact c.elim | (obtain ⟨vs, e, r⟩ := c; subst e; exact .lst h r) | (obtain ⟨vs, e, l, r⟩ := c; subst e; exact .dct (.inl h) l r) | (obtain ⟨vs, e, l, r⟩ := c; subst e; exact .dtt (.inl h) l r) | (obtain ⟨dx, fs, rfl, l, r⟩ := c; exact .ins h l rfl r) | (obtain ⟨rfl, dx, fs, rfl, l, r⟩ := c; exact .slf h l rfl r)
theorem upd_ext {H F : Hp} {p : Addr} {o : HO} (hH : H p = none) (hF : F p = none) : Ext H F (upd F p o) :=
  ⟨fun b x e => by rw [upd_ne (ne_of_none e hF)]; exact e, fun b x e => upd_ne (ne_of_none e hH)⟩
theorem same_new {H : Hp} {p : Addr} {o : HO} (h : H p = none) : Same H (upd H p o) := fun b x e => by
  rw [upd_ne (ne_of_none e h)]; exact e
theorem same_free {F H : Hp} (s : Same F H) {p : Addr} (h : H p = none) : F p = none := by
  cases e : F p with
  | none => rfl
  | some o => rw [s _ _ e] at h; cases h
theorem same_upd2 {F H : Hp} (s : Same F H) {p : Addr} {o : HO} : Same (upd F p o) (upd H p o) := fun b x e => by
  by_cases hb : b = p
  · subst hb; rw [upd_same] at e ⊢; exact e
  · rw [upd_ne hb] at e ⊢; exact s _ _ e
/-- a new object that is never changed -/
theorem mv_frz {F H : Hp} {p : Addr} {o : HO} (s : Same F H) (h : H p = none) : Mv F H (upd F p o) (upd H p o) :=
  ⟨upd_ext h (same_free s h), same_new h, same_upd2 s⟩
/-- a new object that may be changed -/
theorem mv_new {F H : Hp} {p : Addr} {o : HO} (s : Same F H) (h : H p = none) : Mv F H F (upd H p o) :=
  ⟨.refl, same_new h, fun b x e => by rw [upd_ne (ne_of_none e (same_free s h))]; exact s _ _ e⟩
theorem same_put {F H : Hp} {p : Addr} {o : HO} (s : Same F H) (h : F p = none) : Same F (upd H p o) := fun b x e => by
  rw [upd_ne (ne_of_none e h)]; exact s _ _ e
end Pf

namespace Pf
open PySem PySem.Spec PyProof.Rows L2
/-! ### the pure state and pure readings -/
abbrev PEnv := List (Option (Mo × P))
abbrev XP := Addr → List Str → List P → Prop
abbrev WE := PEnv → (P → Prop) → XP → Prop
abbrev WT := PEnv → (Bool → Prop) → XP → Prop
abbrev WA := PEnv → (List P → Prop) → XP → Prop
structure PEnds where
  nx : PEnv → Prop
  rt : P → Prop
  bk : PEnv → Prop
  ct : PEnv → Prop
  ex : PEnv → XP
abbrev WS := PEnds → PEnv → Prop
def Slot (K : PySem.W.Frag) (F H0 H : Hp) (m : Mo) (v : V) (x : P) : Prop := match m with
  | .v => R K F v x
  | .b => Tp K F H0 v x
  | .o => (∃ a o, v = .ref a ∧ H a = some o ∧ Cell K F a o x) ∨ (scB x = true ∧ R K F v x)
structure Good (K : PySem.W.Frag) (F0 H0 : Hp) (σ : L2.St) (F H : Hp) (env : PEnv) : Prop where
  fh : Same F H
  hh : Same H0 H
  e : Ext H0 F0 F
  len : env.length ≤ σ.length
  slot : ∀ (i : Nat) m x, env[i]? = some (some (m, x)) → ∃ v, σ[i]? = some (some v) ∧ Slot K F H0 H m v x
  own : ∀ (i : Nat) x a, env[i]? = some (some (Mo.o, x)) → σ[i]? = some (some (.ref a)) → F a = none ∧ H0 a = none
  dis : ∀ (i j : Nat) x y a, i ≠ j → env[i]? = some (some (Mo.o, x)) → env[j]? = some (some (Mo.o, y)) → σ[i]? = some (some (.ref a)) → σ[j]? = some (some (.ref a)) → False
section
variable {K : PySem.W.Frag} {F0 H0 F H F' H' : Hp} {σ : L2.St} {env : PEnv}
theorem Slot.mv (m : Mv F H F' H') {q : Mo} {v : V} {x : P} (h : Slot K F H0 H q v x) : Slot K F' H0 H' q v x := by
  cases q with
  | v => exact R.mv m h
  | b => exact Tp.mono m.e.1 (Same.refl _) h
  | o =>
    rcases h with ⟨a, o, e, ha, c⟩ | h
    · exact .inl ⟨a, o, e, m.s _ _ ha, c.mono m.e.1⟩
    · exact .inr ⟨h.1, R.mv m h.2⟩
theorem Good.mv (g : Good K F0 H0 σ F H env) (m : Mv F H F' H') : Good K F0 H0 σ F' H' env where
  fh := m.fh
  hh := g.hh.trans m.s
  e := g.e.trans g.hh m.e
  len := g.len
  slot := fun i q x h => by
    obtain ⟨v, e, s⟩ := g.slot i q x h
    exact ⟨v, e, s.mv m⟩
  own := fun i x a h hs => by
    obtain ⟨v, e, sl⟩ := g.slot i _ x h
    rw [hs] at e; cases e
    rcases sl with ⟨a', o, ev, ha, c⟩ | sl
    · cases ev
      exact ⟨(m.e.2 _ _ ha).trans (g.own i x a h hs).1, (g.own i x a h hs).2⟩
    · exact (sc_noref sl.1 sl.2).elim
  dis := g.dis
theorem Good.mvr (g : Good K F0 H0 σ F H env) : Mv F H F H := .refl g.fh
/-- a slot forgotten -/
theorem get_set_none {env : PEnv} {i j : Nat} {z : Mo × P} (h : (env.set i none)[j]? = some (some z)) : j ≠ i ∧ env[j]? = some (some z) := by
  by_cases e : i = j
  · subst e
    by_cases hi : i < env.length
    · rw [List.getElem?_set_self hi] at h; cases h
    · rw [List.getElem?_eq_none (by simpa using hi)] at h; cases h
  · rw [List.getElem?_set_ne e] at h
    exact ⟨fun z => e z.symm, h⟩
theorem get_set_some {env : PEnv} {i j : Nat} {z w : Mo × P} (h : (env.set i (some w))[j]? = some (some z)) : (j = i ∧ z = w ∧ i < env.length) ∨ (j ≠ i ∧ env[j]? = some (some z)) := by
  by_cases e : i = j
  · subst e
    by_cases hi : i < env.length
    · rw [List.getElem?_set_self hi] at h; cases h; exact .inl ⟨rfl, rfl, hi⟩
    · rw [List.getElem?_eq_none (by simpa using hi)] at h; cases h
  · rw [List.getElem?_set_ne e] at h
    exact .inr ⟨fun z => e z.symm, h⟩
/-- the slot i gets a value that is not changed any more -/
theorem Good.setV (g : Good K F0 H0 σ F H env) {i : Nat} {v : V} {x : P} (h : R K F v x) : Good K F0 H0 (σ.set i (some v)) F H (env.set i (some (Mo.v, x))) where
  fh := g.fh
  hh := g.hh
  e := g.e
  len := by rw [List.length_set, List.length_set]; exact g.len
  slot := fun j m y hj => by
    rcases get_set_some hj with ⟨rfl, e, hi⟩ | ⟨n, hj⟩
    · cases e
      exact ⟨v, by rw [List.getElem?_set_self (Nat.lt_of_lt_of_le hi g.len)], h⟩
    · obtain ⟨w, e, s⟩ := g.slot j m y hj
      exact ⟨w, by rw [List.getElem?_set_ne (fun z => n z.symm)]; exact e, s⟩
  own := fun j y a hj hs => by
    rcases get_set_some hj with ⟨rfl, e, hi⟩ | ⟨n, hj⟩
    · cases e
    · rw [List.getElem?_set_ne (fun z => n z.symm)] at hs
      exact g.own j y a hj hs
  dis := fun j k y z a hjk hj hk sj sk => by
    rcases get_set_some hj with ⟨rfl, e, hi⟩ | ⟨n, hj⟩
    · cases e
    rcases get_set_some hk with ⟨rfl, e, hi⟩ | ⟨n', hk⟩
    · cases e
    rw [List.getElem?_set_ne (fun z => n z.symm)] at sj
    rw [List.getElem?_set_ne (fun z => n' z.symm)] at sk
    exact g.dis j k y z a hjk hj hk sj sk
/-- the slot i gets what is no object -/
theorem Good.setS (g : Good K F0 H0 σ F H env) {i : Nat} {v : V} {x : P} (hs : scB x = true) (h : R K F v x) : Good K F0 H0 (σ.set i (some v)) F H (env.set i (some (Mo.o, x))) where
  fh := g.fh
  hh := g.hh
  e := g.e
  len := by rw [List.length_set, List.length_set]; exact g.len
  slot := fun j m y hj => by
    rcases get_set_some hj with ⟨rfl, e, hi⟩ | ⟨n, hj⟩
    · cases e
      exact ⟨v, by rw [List.getElem?_set_self (Nat.lt_of_lt_of_le hi g.len)], .inr ⟨hs, h⟩⟩
    · obtain ⟨w, e, s⟩ := g.slot j m y hj
      exact ⟨w, by rw [List.getElem?_set_ne (fun z => n z.symm)]; exact e, s⟩
  own := fun j y a hj hq => by
    rcases get_set_some hj with ⟨ej, e, hi⟩ | ⟨n, hj⟩
    · subst ej
      rw [List.getElem?_set_self (Nat.lt_of_lt_of_le hi g.len)] at hq
      cases hq
      exact (sc_noref hs h).elim
    · rw [List.getElem?_set_ne (fun z => n z.symm)] at hq
      exact g.own j y a hj hq
  dis := fun j k y z a hjk hj hk sj sk => by
    rcases get_set_some hj with ⟨ej, e, hi⟩ | ⟨n, hj⟩
    · subst ej
      rw [List.getElem?_set_self (Nat.lt_of_lt_of_le hi g.len)] at sj
      cases sj
      exact (sc_noref hs h).elim
    rcases get_set_some hk with ⟨ek, e, hi⟩ | ⟨n', hk⟩
    · subst ek
      rw [List.getElem?_set_self (Nat.lt_of_lt_of_le hi g.len)] at sk
      cases sk
      exact (sc_noref hs h).elim
    rw [List.getElem?_set_ne (fun z => n z.symm)] at sj
    rw [List.getElem?_set_ne (fun z => n' z.symm)] at sk
    exact g.dis j k y z a hjk hj hk sj sk
/-- the slot i gets a new list that may be changed -/
theorem Good.setO (g : Good K F0 H0 σ F H env) {i : Nat} {v : V} {x : P} (m : Mv F H F' H') (h : Ow K H F' H' v x) : Good K F0 H0 (σ.set i (some v)) F' H' (env.set i (some (Mo.o, x))) := by
  have g' := g.mv m
  rcases h with ⟨a, o, rfl, na, nf, ha, c⟩ | h
  case inr => exact g'.setS h.1 h.2
  have fresh : ∀ (j : Nat) y, env[j]? = some (some (Mo.o, y)) → σ[j]? = some (some (.ref a)) → False := fun j y hj sj => by
    obtain ⟨w, e, sl⟩ := g.slot j _ y hj
    rw [sj] at e; cases e
    rcases sl with ⟨b, u, ew, hb, _⟩ | sl
    · cases ew
      rw [na] at hb; cases hb
    · exact sc_noref sl.1 sl.2
  refine ⟨g'.fh, g'.hh, g'.e, by rw [List.length_set, List.length_set]; exact g.len, fun j q y hj => ?_, fun j y b hj hs => ?_, fun j k y z b hjk hj hk sj sk => ?_⟩
  · rcases get_set_some hj with ⟨rfl, e, hi⟩ | ⟨n, hj⟩
    · cases e
      exact ⟨_, by rw [List.getElem?_set_self (Nat.lt_of_lt_of_le hi g.len)], .inl ⟨a, o, rfl, ha, c⟩⟩
    · obtain ⟨w, e, s⟩ := g'.slot j q y hj
      exact ⟨w, by rw [List.getElem?_set_ne (fun z => n z.symm)]; exact e, s⟩
  · rcases get_set_some hj with ⟨rfl, e, hi⟩ | ⟨n, hj⟩
    · rw [List.getElem?_set_self (Nat.lt_of_lt_of_le hi g.len)] at hs
      cases hs
      refine ⟨nf, ?_⟩
      cases e : H0 a with
      | none => rfl
      | some u => rw [g.hh _ _ e] at na; cases na
    · rw [List.getElem?_set_ne (fun z => n z.symm)] at hs
      exact g'.own j y b hj hs
  · rcases get_set_some hj with ⟨ej, _, hi⟩ | ⟨n, hj2⟩
    · rcases get_set_some hk with ⟨ek, _, _⟩ | ⟨n', hk2⟩
      · exact hjk (ej.trans ek.symm)
      · subst ej
        rw [List.getElem?_set_self (Nat.lt_of_lt_of_le hi g.len)] at sj
        cases sj
        rw [List.getElem?_set_ne (fun z => n' z.symm)] at sk
        exact fresh k z hk2 sk
    · rw [List.getElem?_set_ne (fun z => n z.symm)] at sj
      rcases get_set_some hk with ⟨ek, _, hi⟩ | ⟨n', hk2⟩
      · subst ek
        rw [List.getElem?_set_self (Nat.lt_of_lt_of_le hi g.len)] at sk
        cases sk
        exact fresh j y hj2 sj
      · rw [List.getElem?_set_ne (fun z => n' z.symm)] at sk
        exact g.dis j k y z b hjk hj2 hk2 sj sk
/-- a slot forgotten -/
theorem Good.drop (g : Good K F0 H0 σ F H env) (i : Nat) (s : Option V) : Good K F0 H0 (σ.set i s) F H (env.set i none) where
  fh := g.fh
  hh := g.hh
  e := g.e
  len := by rw [List.length_set, List.length_set]; exact g.len
  slot := fun j m y hj => by
    obtain ⟨n, hj⟩ := get_set_none hj
    obtain ⟨w, e, s⟩ := g.slot j m y hj
    exact ⟨w, by rw [List.getElem?_set_ne (fun z => n z.symm)]; exact e, s⟩
  own := fun j y a hj hs => by
    obtain ⟨n, hj⟩ := get_set_none hj
    rw [List.getElem?_set_ne (fun z => n z.symm)] at hs
    exact g.own j y a hj hs
  dis := fun j k y z a hjk hj hk sj sk => by
    obtain ⟨n, hj⟩ := get_set_none hj
    obtain ⟨n', hk⟩ := get_set_none hk
    rw [List.getElem?_set_ne (fun z => n z.symm)] at sj
    rw [List.getElem?_set_ne (fun z => n' z.symm)] at sk
    exact g.dis j k y z a hjk hj hk sj sk
/-- what slot i owns is changed -/
theorem Good.put (g : Good K F0 H0 σ F H env) {i : Nat} {x y : P} {a : Addr} {o : HO} (hi : env[i]? = some (some (Mo.o, x))) (hs : σ[i]? = some (some (.ref a))) (c : Cell K F a o y) : Good K F0 H0 σ F (upd H a o) (env.set i (some (Mo.o, y))) := by
  obtain ⟨nf, nh⟩ := g.own i x a hi hs
  refine ⟨same_put g.fh nf, fun b u e => by rw [upd_ne (ne_of_none e nh)]; exact g.hh _ _ e, g.e, by rw [List.length_set]; exact g.len, fun j q z hj => ?_, fun j z b hj sj => ?_, fun j k z w b hjk hj hk sj sk => ?_⟩
  · rcases get_set_some hj with ⟨rfl, e, _⟩ | ⟨n, hj⟩
    · cases e
      exact ⟨_, hs, .inl ⟨a, o, rfl, upd_same, c⟩⟩
    · obtain ⟨w, e, s⟩ := g.slot j q z hj
      refine ⟨w, e, ?_⟩
      cases q with
      | v => exact s
      | b => exact s
      | o =>
        rcases s with ⟨b, u, rfl, hb, cb⟩ | s
        · exact .inl ⟨b, u, rfl, by rw [upd_ne (fun z => g.dis j i _ _ a n hj hi (by rw [← z]; exact e) hs)]; exact hb, cb⟩
        · exact .inr s
  · rcases get_set_some hj with ⟨rfl, e, _⟩ | ⟨n, hj⟩
    · exact g.own _ _ _ hi sj
    · exact g.own j z b hj sj
  · rcases get_set_some hj with ⟨ej, e, _⟩ | ⟨n, hj2⟩
    · rcases get_set_some hk with ⟨ek, _, _⟩ | ⟨n', hk2⟩
      · exact hjk (ej.trans ek.symm)
      · subst ej; exact g.dis _ k _ w b hjk hi hk2 sj sk
    · rcases get_set_some hk with ⟨ek, _, _⟩ | ⟨n', hk2⟩
      · subst ek; exact g.dis j _ z _ b hjk hj2 hi sj sk
      · exact g.dis j k z w b hjk hj2 hk2 sj sk
/-- what slot i owns is not changed any more -/
theorem Good.frz (g : Good K F0 H0 σ F H env) {i : Nat} {x : P} (hi : env[i]? = some (some (Mo.o, x))) : ∃ F', Good K F0 H0 σ F' H (env.set i (some (Mo.v, x))) := by
  obtain ⟨v, hs, sl⟩ := g.slot i _ x hi
  rcases sl with ⟨a, o, rfl, ha, c⟩ | sl
  case inr =>
    have g2 := g.setV (i := i) sl.2
    have e : σ.set i (some v) = σ := by
      refine List.ext_getElem? fun j => ?_
      by_cases hj : i = j
      · subst hj
        rw [List.getElem?_set_self (List.getElem?_eq_some_iff.mp hs).1, hs]
      · rw [List.getElem?_set_ne hj]
    rw [e] at g2
    exact ⟨F, g2⟩
  obtain ⟨nf, nh⟩ := g.own i x a hi hs
  have se : Same F (upd F a o) := same_new nf
  have hr : R K (upd F a o) (.ref a) x := Cell.r upd_same (c.mono se)
  refine ⟨upd F a o, fun b u e => ?_, g.hh, ⟨g.e.1.trans se, fun b u e => ?_⟩, by rw [List.length_set]; exact g.len, fun j q z hj => ?_, fun j z b hj sj => ?_, fun j k z w b hjk hj hk sj sk => ?_⟩
  · by_cases hb : b = a
    · subst hb; rw [upd_same] at e; cases e; exact ha
    · rw [upd_ne hb] at e; exact g.fh _ _ e
  · rw [upd_ne (ne_of_none e nh)]; exact g.e.2 _ _ e
  · rcases get_set_some hj with ⟨rfl, e, _⟩ | ⟨n, hj⟩
    · cases e
      exact ⟨_, hs, hr⟩
    · obtain ⟨w, e, s⟩ := g.slot j q z hj
      refine ⟨w, e, ?_⟩
      cases q with
      | v => exact R.mono se s
      | b => exact Tp.mono se (Same.refl _) s
      | o =>
        rcases s with ⟨b, u, rfl, hb, cb⟩ | s
        · exact .inl ⟨b, u, rfl, hb, cb.mono se⟩
        · exact .inr ⟨s.1, R.mono se s.2⟩
  · rcases get_set_some hj with ⟨rfl, e, _⟩ | ⟨n, hj⟩
    · cases e
    · refine ⟨?_, (g.own j z b hj sj).2⟩
      rw [upd_ne fun y => g.dis j i _ _ a n hj hi (by rw [← y]; exact sj) hs]
      exact (g.own j z b hj sj).1
  · rcases get_set_some hj with ⟨rfl, e, _⟩ | ⟨n, hj⟩
    · cases e
    · rcases get_set_some hk with ⟨rfl, e, _⟩ | ⟨n', hk⟩
      · cases e
      · exact g.dis j k z w b hjk hj hk sj sk
end
/-! ### what a reading does, told by pure values -/
/-- an exception's own dict -/
def XF (K : PySem.W.Frag) (F : Hp) (d : Option Addr) (ns : List Str) (xs : List P) : Prop :=
  (d = none ∧ ns = [] ∧ xs = []) ∨ ∃ a fs, d = some a ∧ F a = some (.xd fs) ∧ fs.map Prod.fst = ns ∧ RL K F (fs.map Prod.snd) xs
theorem XF.r {K : PySem.W.Frag} {F : Hp} {d : Option Addr} {ns : List Str} {xs : List P} (h : XF K F d ns xs) (a C : Addr) : R K F (.ref a) (.exc a d C ns xs) := by
  rcases h with ⟨rfl, rfl, rfl⟩ | ⟨a', fs, rfl, h, e, r⟩
  · exact .exc0 a C
  · exact .exc1 h e rfl r
def XOk (K : PySem.W.Frag) (W : WX) (σ : L2.St) (F H : Hp) (Xp : XP) : Prop := ∀ F' H' C d ns xs, Mv F H F' H' → XF K F' d ns xs → Xp C ns xs → W (.ref C) d σ H'
theorem XOk.mv {K : PySem.W.Frag} {W : WX} {σ : L2.St} {F H F' H' : Hp} {Xp : XP} (x : XOk K W σ F H Xp) (m : Mv F H F' H') : XOk K W σ F' H' Xp := fun F2 H2 C d ns xs m2 f h => x F2 H2 C d ns xs (m.trans m2) f h
abbrev Rel := Hp → Hp → Hp → V → P → Prop
abbrev rV (K : PySem.W.Frag) : Rel := fun _ F' _ v x => R K F' v x
abbrev rC (K : PySem.W.Frag) : Rel := fun _ F' H' v x => Tp K F' H' v x
abbrev rO (K : PySem.W.Frag) : Rel := fun H F' H' v x => Ow K H F' H' v x
def SimE (K : PySem.W.Frag) (W : WX) (rel : Rel) (t : TE) (w : WE) : Prop :=
  ∀ F0 H0 σ F H env Qp Xp Q, Good K F0 H0 σ F H env → w env Qp Xp → XOk K W σ F H Xp → (∀ F' H' v x, Mv F H F' H' → rel H F' H' v x → Qp x → Q v H') → t σ H Q
def SimT (K : PySem.W.Frag) (W : WX) (t : TT) (w : WT) : Prop :=
  ∀ F0 H0 σ F H env Qp Xp Q, Good K F0 H0 σ F H env → w env Qp Xp → XOk K W σ F H Xp → (∀ F' H' b, Mv F H F' H' → Qp b → Q b H') → t σ H Q
/-- arguments, each to be read (b) or kept (v) -/
def AL (K : PySem.W.Frag) (F H : Hp) : List Mo → List V → List P → Prop
  | [], [], [] => True
  | .v :: ms, v :: vs, x :: xs => R K F v x ∧ AL K F H ms vs xs
  | .b :: ms, v :: vs, x :: xs => Tp K F H v x ∧ AL K F H ms vs xs
  | _, _, _ => False
theorem AL.mv {K : PySem.W.Frag} {F H F' H' : Hp} (m : Mv F H F' H') : ∀ {ms : List Mo} {vs : List V} {xs : List P}, AL K F H ms vs xs → AL K F' H' ms vs xs
  | [], [], [], _ => trivial
  | .v :: ms, v :: vs, x :: xs, h => ⟨h.1.mv m, AL.mv (ms := ms) m h.2⟩
  | .b :: ms, v :: vs, x :: xs, h => ⟨h.1.mv m, AL.mv (ms := ms) m h.2⟩
  | [], _ :: _, _, h => h.elim
  | [], [], _ :: _, h => h.elim
  | .o :: _, _, _, h => by unfold AL at h; exact h.elim
  | .v :: _, [], _, h => h.elim
  | .b :: _, [], _, h => h.elim
  | .v :: _, _ :: _, [], h => h.elim
  | .b :: _, _ :: _, [], h => h.elim
def SimA (K : PySem.W.Frag) (W : WX) (ms : List Mo) (t : TA) (w : WA) : Prop :=
  ∀ F0 H0 σ F H env Qp Xp Q, Good K F0 H0 σ F H env → w env Qp Xp → XOk K W σ F H Xp → (∀ F' H' vs xs, Mv F H F' H' → AL K F' H' ms vs xs → Qp xs → Q vs H') → t σ H Q
def DOk (K : PySem.W.Frag) (ro : Bool) (F0 H0 : Hp) (Dp : PEnds) (D : Ends) : Prop :=
  (∀ σ F H env, Good K F0 H0 σ F H env → Dp.nx env → D.nx σ H) ∧
  (∀ F H v x, Mv F0 H0 F H → (if ro = true then Ow K H0 F H v x else R K F v x) → Dp.rt x → D.rt v H) ∧
  (∀ σ F H env, Good K F0 H0 σ F H env → Dp.bk env → D.bk σ H) ∧
  (∀ σ F H env, Good K F0 H0 σ F H env → Dp.ct env → D.ct σ H)
def WOk (K : PySem.W.Frag) (W : WX) (F0 H0 : Hp) (ex : PEnv → XP) : Prop := ∀ σ F H env C d ns xs, Good K F0 H0 σ F H env → XF K F d ns xs → ex env C ns xs → W (.ref C) d σ H
theorem WOk.x {K : PySem.W.Frag} {W : WX} {F0 H0 : Hp} {ex : PEnv → XP} (w : WOk K W F0 H0 ex) {σ : L2.St} {F H : Hp} {env : PEnv} (g : Good K F0 H0 σ F H env) : XOk K W σ F H (ex env) := fun F' H' C d ns xs m f h => w σ F' H' env C d ns xs (g.mv m) f h
def SimS (K : PySem.W.Frag) (W : WX) (ro : Bool) (t : TS) (w : WS) : Prop :=
  ∀ F0 H0 σ F H env Dp D, Good K F0 H0 σ F H env → w Dp env → DOk K ro F0 H0 Dp D → WOk K W F0 H0 Dp.ex → t D σ H
end Pf

namespace Pf
open PySem PySem.Spec PyProof.Rows L2
inductive Rk | V | C | O
def rel (K : PySem.W.Frag) : Rk → Rel
  | .V => rV K
  | .C => rC K
  | .O => rO K
theorem rel_back {K : PySem.W.Frag} {k : Rk} {H1 H2 F H : Hp} {v : V} {x : P} (s : Same H1 H2) (h : rel K k H2 F H v x) : rel K k H1 F H v x := by
  cases k with
  | V => exact h
  | C => exact h
  | O =>
    rcases h with ⟨a, o, e, n, f, ha, c⟩ | h
    · exact .inl ⟨a, o, e, s.free n, f, ha, c⟩
    · exact .inr h
section
variable {K : PySem.W.Frag} {W : WX} {k : Rk}
abbrev SE (K : PySem.W.Frag) (W : WX) (k : Rk) (t : TE) (w : WE) : Prop := SimE K W (rel K k) t w
/-! #### coercions -/
theorem se_vc {t : TE} {w : WE} (h : SE K W .V t w) : SE K W .C t w := fun F0 H0 σ F H env Qp Xp Q g hw hx q => h F0 H0 σ F H env Qp Xp Q g hw hx fun F' H' v x m r z => q F' H' v x m (.inl r) z
theorem se_oc {t : TE} {w : WE} (h : SE K W .O t w) : SE K W .C t w := fun F0 H0 σ F H env Qp Xp Q g hw hx q => h F0 H0 σ F H env Qp Xp Q g hw hx fun F' H' v x m r z => q F' H' v x m (Ow.tp r) z
theorem Ow.frz {F H F' H' : Hp} {v : V} {x : P} (m : Mv F H F' H') (h : Ow K H F' H' v x) : ∃ F2, Mv F H F2 H' ∧ R K F2 v x := by
  rcases h with ⟨a, o, rfl, n, f, ha, c⟩ | h
  case inr => exact ⟨F', m, h.2⟩
  have s : Same F' (upd F' a o) := same_new f
  refine ⟨upd F' a o, ⟨⟨m.e.1.trans s, fun b u e => by rw [upd_ne (ne_of_none e n)]; exact m.e.2 _ _ e⟩, m.s, fun b u e => ?_⟩, ?_⟩
  · by_cases hb : b = a
    · subst hb; rw [upd_same] at e; cases e; exact ha
    · rw [upd_ne hb] at e; exact m.fh _ _ e
  · exact Cell.r upd_same (c.mono s)
theorem se_ov {t : TE} {w : WE} (h : SE K W .O t w) : SE K W .V t w := fun F0 H0 σ F H env Qp Xp Q g hw hx q => h F0 H0 σ F H env Qp Xp Q g hw hx fun F' H' v x m r z => by
  obtain ⟨F2, m2, r2⟩ := Ow.frz m r
  exact q F2 H' v x m2 r2 z
/-- what is no object stands alone -/
def wSc (a : WE) : WE := fun env Q X => a env (fun x => scB x = true ∧ Q x) X
theorem se_vo {t : TE} {w : WE} (h : SE K W .V t w) : SE K W .O t (wSc w) := fun F0 H0 σ F H env Qp Xp Q g hw hx q => h F0 H0 σ F H env _ Xp Q g hw hx fun F' H' v x m r z => q F' H' v x m (.inr ⟨z.1, r⟩) z.2
/-! #### names and constants -/
def wV (i : Nat) : WE := fun env Q _ => match env[i]? with
  | some (some (.v, x)) => Q x
  | _ => False
def wC (i : Nat) : WE := fun env Q _ => match env[i]? with
  | some (some (_, x)) => Q x
  | _ => False
def wK (x : P) : WE := fun _ Q _ => Q x
theorem slot_tp {F0 H0 F H : Hp} {σ : L2.St} {env : PEnv} (g : Good K F0 H0 σ F H env) {i : Nat} {m : Mo} {x : P} (h : env[i]? = some (some (m, x))) : ∃ v, σ[i]? = some (some v) ∧ Tp K F H v x := by
  obtain ⟨v, e, s⟩ := g.slot i m x h
  refine ⟨v, e, ?_⟩
  cases m with
  | v => exact .inl s
  | b => exact Tp.mono (Same.refl _) g.hh s
  | o => exact s.elim (fun ⟨a, o, e, ha, c⟩ => .inr ⟨a, o, e, ha, c.t⟩) fun s => .inl s.2
theorem se_v (i : Nat) : SE K W .V (tVar i) (wV i) := fun F0 H0 σ F H env Qp Xp Q g hw hx q => by
  unfold wV at hw
  split at hw
  · rename_i x e
    obtain ⟨v, e, s⟩ := g.slot i _ x e
    exact ⟨v, e, q F H v x g.mvr s hw⟩
  · exact hw.elim
theorem se_c (i : Nat) : SE K W .C (tVar i) (wC i) := fun F0 H0 σ F H env Qp Xp Q g hw hx q => by
  unfold wC at hw
  split at hw
  · rename_i m x e
    obtain ⟨v, e, s⟩ := slot_tp g e
    exact ⟨v, e, q F H v x g.mvr s hw⟩
  · exact hw.elim
theorem se_k {v : V} {x : P} (h : ∀ F, R K F v x) : SE K W .V (tC v) (wK x) := fun F0 H0 σ F H env Qp Xp Q g hw hx q => q F H v x g.mvr (h F) hw
theorem se_int {n : Int} : SE K W .V (tC (.int n)) (wK (.int n)) := se_k fun _ => .int n
theorem se_bl {b : Bool} : SE K W .V (tC (.bl b)) (wK (.bl b)) := se_k fun _ => .bl b
theorem se_non : SE K W .V (tC .non) (wK .non) := se_k fun _ => .non
theorem se_str {z : Str} (h : SOk z) : SE K W .V (tC (.str z)) (wK (.str z)) := se_k fun _ => .str h
theorem se_adr {a : Addr} : SE K W .V (tC (.ref a)) (wK (.adr a)) := se_k fun _ => .adr a
theorem se_ty {s : String} : SE K W .V (tC (.ty s)) (wK (.ty s)) := se_k fun _ => .ty s
def sokB (z : Str) : Bool := decide (z.length ≤ sizeLine) && z.cps.toList.all fun c => decide (c < 1114112)
theorem sok_by {z : Str} (h : sokB z = true) : SOk z := by
  unfold sokB at h
  rw [Bool.and_eq_true, List.all_eq_true] at h
  exact ⟨of_decide_eq_true h.1, fun c hc => of_decide_eq_true (h.2 c hc)⟩
/-! #### operators by values -/
abbrev PF2 := P → P → (P → Prop) → Prop
def OpS (K : PySem.W.Frag) (k : Rk) (r : R2) (f : PF2) : Prop := ∀ F H v w x y (Qp : P → Prop) (Q : VK), Same F H → Tp K F H v x → Tp K F H w y → f x y Qp → (∀ F' H' u z, Mv F H F' H' → rel K k H F' H' u z → Qp z → Q u H') → r v w H Q
def wOp (f : PF2) (a b : WE) : WE := fun env Q X => a env (fun x => b env (fun y => f x y Q) X) X
theorem se_op {ta tb : TE} {wa wb : WE} {r : R2} {f : PF2} (ho : OpS K k r f) (ha : SE K W .C ta wa) (hb : SE K W .C tb wb) : SE K W k (tOp r ta tb) (wOp f wa wb) :=
  fun F0 H0 σ F H env Qp Xp Q g hw hx q => ha F0 H0 σ F H env _ Xp _ g hw hx fun F1 H1 v x m1 r1 h1 =>
    hb F0 H0 σ F1 H1 env _ Xp _ (g.mv m1) h1 (hx.mv m1) fun F2 H2 w y m2 r2 h2 =>
      ho F2 H2 v w x y Qp Q m2.fh (Tp.mv m2 r1) r2 h2 fun F3 H3 u z m3 r3 h3 => q F3 H3 u z ((m1.trans m2).trans m3) (rel_back (m1.s.trans m2.s) r3) h3
abbrev PF1 := P → (P → Prop) → Prop
def UnS (K : PySem.W.Frag) (k : Rk) (r : V → Hp → VK → Prop) (f : PF1) : Prop := ∀ F H v x (Qp : P → Prop) (Q : VK), Same F H → Tp K F H v x → f x Qp → (∀ F' H' u z, Mv F H F' H' → rel K k H F' H' u z → Qp z → Q u H') → r v H Q
def wUn (f : PF1) (a : WE) : WE := fun env Q X => a env (fun x => f x Q) X
theorem se_un {ta : TE} {wa : WE} {r : V → Hp → VK → Prop} {f : PF1} (ho : UnS K k r f) (ha : SE K W .C ta wa) : SE K W k (tUn r ta) (wUn f wa) :=
  fun F0 H0 σ F H env Qp Xp Q g hw hx q => ha F0 H0 σ F H env _ Xp _ g hw hx fun F1 H1 v x m1 r1 h1 =>
    ho F1 H1 v x Qp Q m1.fh r1 h1 fun F3 H3 u z m3 r3 h3 => q F3 H3 u z (m1.trans m3) (rel_back m1.s r3) h3
/-! #### truth -/
def onB (x : P) (Q : Bool → Prop) : Prop := match x with
  | .bl b => Q b
  | _ => False
theorem onB_of {F H : Hp} {v : V} {x : P} {Q : Bool → Prop} (r : Tp K F H v x) (h : onB x Q) : ∃ b, v = .bl b ∧ x = .bl b ∧ Q b := by
  cases x with
  | bl b =>
    rcases r with r | ⟨_, _, _, _, c⟩
    · cases r; exact ⟨b, rfl, rfl, h⟩
    · exact c.elim
  | _ => exact h.elim
abbrev ST (K : PySem.W.Frag) (W : WX) (t : TT) (w : WT) : Prop := SimT K W t w
def wT (a : WE) : WT := fun env Q X => a env (fun x => onB x Q) X
theorem st_test {ta : TE} {wa : WE} (ha : SE K W .C ta wa) : ST K W (tTest ta) (wT wa) :=
  fun F0 H0 σ F H env Qp Xp Q g hw hx q => ha F0 H0 σ F H env _ Xp _ g hw hx fun F1 H1 v x m1 r1 h1 => by
    obtain ⟨b, rfl, rfl, h⟩ := onB_of r1 h1
    exact ⟨b, rfl, q F1 H1 b m1 h⟩
theorem st_val {ta : TE} {wa : WE} (ha : SE K W .C ta wa) : ST K W (tB ta) (wT wa) := st_test ha
/-- a list, a dict, a text, an int as a test -/
def onT (x : P) (Q : Bool → Prop) : Prop := match x with
  | .bl b => Q b
  | .non => Q false
  | .int i => Q (i != 0)
  | .str z => Q ((z.length : Int) != 0)
  | .lst xs => Q (!xs.isEmpty)
  | .tup xs => Q (!xs.isEmpty)
  | _ => False
def wTr (a : WE) : WT := fun env Q X => a env (fun x => onT x Q) X
def wAndV (a b : WE) : WE := fun env Q X => a env (fun x => onB x fun c => if c = true then b env Q X else Q (.bl false)) X
def wOrV (a b : WE) : WE := fun env Q X => a env (fun x => onB x fun c => if c = true then Q (.bl true) else b env Q X) X
def wNotV (a : WE) : WE := fun env Q X => a env (fun x => onB x fun c => Q (.bl (!c))) X
theorem se_and {ta tb : TE} {wa wb : WE} (ha : SE K W .C ta wa) (hb : SE K W .V tb wb) : SE K W .V (tAndV ta tb) (wAndV wa wb) :=
  fun F0 H0 σ F H env Qp Xp Q g hw hx q => ha F0 H0 σ F H env _ Xp _ g hw hx fun F1 H1 v x m1 r1 h1 => by
    obtain ⟨c, rfl, rfl, h⟩ := onB_of r1 h1
    refine ⟨c, rfl, ?_⟩
    cases c with
    | true => exact iteT (hb F0 H0 σ F1 H1 env Qp Xp Q (g.mv m1) (by simpa using h) (hx.mv m1) fun F2 H2 u z m2 r2 h2 => q F2 H2 u z (m1.trans m2) r2 h2)
    | false => exact iteF (q F1 H1 _ _ m1 (R.bl false) (by simpa using h))
theorem se_or {ta tb : TE} {wa wb : WE} (ha : SE K W .C ta wa) (hb : SE K W .V tb wb) : SE K W .V (tOrV ta tb) (wOrV wa wb) :=
  fun F0 H0 σ F H env Qp Xp Q g hw hx q => ha F0 H0 σ F H env _ Xp _ g hw hx fun F1 H1 v x m1 r1 h1 => by
    obtain ⟨c, rfl, rfl, h⟩ := onB_of r1 h1
    refine ⟨c, rfl, ?_⟩
    cases c with
    | true => exact iteT (q F1 H1 _ _ m1 (R.bl true) (by simpa using h))
    | false => exact iteF (hb F0 H0 σ F1 H1 env Qp Xp Q (g.mv m1) (by simpa using h) (hx.mv m1) fun F2 H2 u z m2 r2 h2 => q F2 H2 u z (m1.trans m2) r2 h2)
theorem se_not {ta : TE} {wa : WE} (ha : SE K W .C ta wa) : SE K W .V (tNotV ta) (wNotV wa) :=
  fun F0 H0 σ F H env Qp Xp Q g hw hx q => ha F0 H0 σ F H env _ Xp _ g hw hx fun F1 H1 v x m1 r1 h1 => by
    obtain ⟨c, rfl, rfl, h⟩ := onB_of r1 h1
    exact ⟨c, rfl, q F1 H1 _ _ m1 (R.bl _) h⟩
def wAnd (a b : WT) : WT := fun env Q X => a env (fun c => if c = true then b env Q X else Q false) X
def wOr (a b : WT) : WT := fun env Q X => a env (fun c => if c = true then Q true else b env Q X) X
def wNot (a : WT) : WT := fun env Q X => a env (fun c => Q (!c)) X
theorem st_and {ta tb : TT} {wa wb : WT} (ha : ST K W ta wa) (hb : ST K W tb wb) : ST K W (tAnd ta tb) (wAnd wa wb) :=
  fun F0 H0 σ F H env Qp Xp Q g hw hx q => ha F0 H0 σ F H env _ Xp _ g hw hx fun F1 H1 c m1 h => by
    cases c with
    | true => exact iteT (hb F0 H0 σ F1 H1 env Qp Xp Q (g.mv m1) (by simpa using h) (hx.mv m1) fun F2 H2 z m2 h2 => q F2 H2 z (m1.trans m2) h2)
    | false => exact iteF (q F1 H1 _ m1 (by simpa using h))
theorem st_or {ta tb : TT} {wa wb : WT} (ha : ST K W ta wa) (hb : ST K W tb wb) : ST K W (tOr ta tb) (wOr wa wb) :=
  fun F0 H0 σ F H env Qp Xp Q g hw hx q => ha F0 H0 σ F H env _ Xp _ g hw hx fun F1 H1 c m1 h => by
    cases c with
    | true => exact iteT (q F1 H1 _ m1 (by simpa using h))
    | false => exact iteF (hb F0 H0 σ F1 H1 env Qp Xp Q (g.mv m1) (by simpa using h) (hx.mv m1) fun F2 H2 z m2 h2 => q F2 H2 z (m1.trans m2) h2)
theorem st_not {ta : TT} {wa : WT} (ha : ST K W ta wa) : ST K W (tNot ta) (wNot wa) :=
  fun F0 H0 σ F H env Qp Xp Q g hw hx q => ha F0 H0 σ F H env _ Xp _ g hw hx fun F1 H1 c m1 h => q F1 H1 _ m1 h
theorem st_yes : ST K W tYes (fun _ Q _ => Q true) := fun F0 H0 σ F H env Qp Xp Q g hw hx q => q F H true g.mvr hw
def wIf (c : WT) (a b : WE) : WE := fun env Q X => c env (fun d => if d = true then a env Q X else b env Q X) X
theorem se_if {tc : TT} {ta tb : TE} {wc : WT} {wa wb : WE} (hc : ST K W tc wc) (ha : SE K W k ta wa) (hb : SE K W k tb wb) : SE K W k (tIf tc ta tb) (wIf wc wa wb) :=
  fun F0 H0 σ F H env Qp Xp Q g hw hx q => hc F0 H0 σ F H env _ Xp _ g hw hx fun F1 H1 c m1 h => by
    cases c with
    | true => exact iteT (ha F0 H0 σ F1 H1 env Qp Xp Q (g.mv m1) (by simpa using h) (hx.mv m1) fun F2 H2 u z m2 r2 h2 => q F2 H2 u z (m1.trans m2) (rel_back m1.s r2) h2)
    | false => exact iteF (hb F0 H0 σ F1 H1 env Qp Xp Q (g.mv m1) (by simpa using h) (hx.mv m1) fun F2 H2 u z m2 r2 h2 => q F2 H2 u z (m1.trans m2) (rel_back m1.s r2) h2)
def wChain (f f' : PF2) (a b c : WE) : WE := fun env Q X => a env (fun x => b env (fun y => f x y fun z => onB z fun k => if k = true then c env (fun u => f' y u Q) X else Q (.bl false)) X) X
theorem se_chain {ta tb tc : TE} {wa wb wc : WE} {r r' : R2} {f f' : PF2} (ho : OpS K .V r f) (ho' : OpS K .V r' f') (ha : SE K W .C ta wa) (hb : SE K W .C tb wb) (hc : SE K W .C tc wc) : SE K W .V (tChain r r' ta tb tc) (wChain f f' wa wb wc) :=
  fun F0 H0 σ F H env Qp Xp Q g hw hx q => ha F0 H0 σ F H env _ Xp _ g hw hx fun F1 H1 v x m1 r1 h1 =>
    hb F0 H0 σ F1 H1 env _ Xp _ (g.mv m1) h1 (hx.mv m1) fun F2 H2 w y m2 r2 h2 =>
      ho F2 H2 v w x y _ _ m2.fh (Tp.mv m2 r1) r2 h2 fun F3 H3 u z m3 r3 h3 => by
        obtain ⟨c, rfl, rfl, h⟩ := onB_of (.inl r3 : Tp K F3 H3 u z) h3
        refine ⟨c, rfl, ?_⟩
        have m := (m1.trans m2).trans m3
        cases c with
        | true => exact iteT (hc F0 H0 σ F3 H3 env _ Xp _ (g.mv m) (by simpa using h) (hx.mv m) fun F4 H4 u z m4 r4 h4 =>
            ho' F4 H4 w u y z Qp Q m4.fh (Tp.mv (m3.trans m4) r2) r4 h4 fun F5 H5 u z m5 r5 h5 => q F5 H5 u z ((m.trans m4).trans m5) r5 h5)
        | false => exact iteF (q F3 H3 _ _ m (R.bl false) (by simpa using h))
/-! #### arguments, displays -/
def wNil : WA := fun _ Q _ => Q []
def wCons (a : WE) (r : WA) : WA := fun env Q X => a env (fun x => r env (fun xs => Q (x :: xs)) X) X
theorem sa_nil : SimA K W [] tNil wNil := fun F0 H0 σ F H env Qp Xp Q g hw hx q => q F H [] [] g.mvr trivial hw
theorem sa_v {ms : List Mo} {t : TE} {r : TA} {w : WE} {wr : WA} (h : SE K W .V t w) (hr : SimA K W ms r wr) : SimA K W (.v :: ms) (tCons t r) (wCons w wr) :=
  fun F0 H0 σ F H env Qp Xp Q g hw hx q => h F0 H0 σ F H env _ Xp _ g hw hx fun F1 H1 v x m1 r1 h1 =>
    hr F0 H0 σ F1 H1 env _ Xp _ (g.mv m1) h1 (hx.mv m1) fun F2 H2 vs xs m2 r2 h2 => q F2 H2 (v :: vs) (x :: xs) (m1.trans m2) ⟨R.mv m2 r1, r2⟩ h2
theorem sa_b {ms : List Mo} {t : TE} {r : TA} {w : WE} {wr : WA} (h : SE K W .C t w) (hr : SimA K W ms r wr) : SimA K W (.b :: ms) (tCons t r) (wCons w wr) :=
  fun F0 H0 σ F H env Qp Xp Q g hw hx q => h F0 H0 σ F H env _ Xp _ g hw hx fun F1 H1 v x m1 r1 h1 =>
    hr F0 H0 σ F1 H1 env _ Xp _ (g.mv m1) h1 (hx.mv m1) fun F2 H2 vs xs m2 r2 h2 => q F2 H2 (v :: vs) (x :: xs) (m1.trans m2) ⟨Tp.mv m2 r1, r2⟩ h2
def allV : List Mo → Bool
  | [] => true
  | .v :: ms => allV ms
  | _ => false
theorem AL.rl {F H : Hp} : ∀ {ms : List Mo} {vs : List V} {xs : List P}, allV ms = true → AL K F H ms vs xs → RL K F vs xs
  | [], [], [], _, _ => .nil
  | .v :: ms, v :: vs, x :: xs, a, h => .cons h.1 (AL.rl (ms := ms) a h.2)
  | [], _ :: _, _, _, h => h.elim
  | [], [], _ :: _, _, h => h.elim
  | .o :: _, _, _, a, h => by cases a
  | .b :: _, _, _, a, h => by cases a
  | .v :: _, [], _, _, h => h.elim
  | .v :: _, _ :: _, [], _, h => h.elim
def wTup (a : WA) : WE := fun env Q X => a env (fun xs => xs.length ≤ sizeLine ∧ Q (.tup xs)) X
def wLst (a : WA) : WE := fun env Q X => a env (fun xs => xs.length ≤ sizeLine ∧ Q (.lst xs)) X
theorem se_tup {ms : List Mo} {t : TA} {w : WA} (h : SimA K W ms t w) (hm : allV ms = true := by rfl) : SE K W .V (tTup t) (wTup w) :=
  fun F0 H0 σ F H env Qp Xp Q g hw hx q => h F0 H0 σ F H env _ Xp _ g hw hx fun F1 H1 vs xs m1 r1 h1 => by
    have r := AL.rl hm r1
    refine ⟨by rw [r.len]; exact h1.1, fun p np => ?_⟩
    have m2 := mv_frz (o := .tup vs) m1.fh np
    exact q _ _ _ _ (m1.trans m2) (R.tup upd_same (r.mono m2.e.1)) h1.2
theorem se_lst {ms : List Mo} {t : TA} {w : WA} (h : SimA K W ms t w) (hm : allV ms = true := by rfl) : SE K W .O (tLst t) (wLst w) :=
  fun F0 H0 σ F H env Qp Xp Q g hw hx q => h F0 H0 σ F H env _ Xp _ g hw hx fun F1 H1 vs xs m1 r1 h1 => by
    have r := AL.rl hm r1
    refine ⟨by rw [r.len]; exact h1.1, fun p np => ?_⟩
    have m2 := mv_new (o := .lst vs) m1.fh np
    exact q _ _ _ (.lst xs) (m1.trans m2) (.inl ⟨p, _, rfl, m1.s.free np, same_free m1.fh np, upd_same, vs, rfl, r⟩) h1.2
/-! #### calls of built-ins -/
abbrev PFn := List P → (P → Prop) → Prop
def CallS (K : PySem.W.Frag) (k : Rk) (ms : List Mo) (r : List V → Hp → VK → Prop) (f : PFn) : Prop := ∀ F H vs xs (Qp : P → Prop) (Q : VK), Same F H → AL K F H ms vs xs → f xs Qp → (∀ F' H' u z, Mv F H F' H' → rel K k H F' H' u z → Qp z → Q u H') → r vs H Q
def wCB (f : PFn) (a : WA) : WE := fun env Q X => a env (fun xs => f xs Q) X
theorem se_cb {ms : List Mo} {t : TA} {w : WA} {r : List V → Hp → VK → Prop} {f : PFn} (hc : CallS K k ms r f) (h : SimA K W ms t w) : SE K W k (tCB r t) (wCB f w) :=
  fun F0 H0 σ F H env Qp Xp Q g hw hx q => h F0 H0 σ F H env _ Xp _ g hw hx fun F1 H1 vs xs m1 r1 h1 =>
    hc F1 H1 vs xs Qp Q m1.fh r1 h1 fun F2 H2 u z m2 r2 h2 => q F2 H2 u z (m1.trans m2) (rel_back m1.s r2) h2
/-! #### calls of defs -/
abbrev PSp := List P → (P → Prop) → XP → Prop
def Res (K : PySem.W.Frag) (ro : Bool) (H F' H' : Hp) (v : V) (x : P) : Prop := if ro = true then Ow K H F' H' v x else R K F' v x
def spOf (K : PySem.W.Frag) (ms : List Mo) (ro : Bool) (p : PSp) : Sp := fun vs H Q E => ∃ F xs Qp Xp, Same F H ∧ AL K F H ms vs xs ∧ p xs Qp Xp ∧
  (∀ F' H' v x, Mv F H F' H' → Res K ro H F' H' v x → Qp x → Q v H') ∧ (∀ F' H' C d ns ys, Mv F H F' H' → XF K F' d ns ys → Xp C ns ys → E (.ref C) d H')
def rkOf : Bool → Rk
  | true => .O
  | false => .V
theorem Res.rel {ro : Bool} {H F' H' : Hp} {v : V} {x : P} (h : Res K ro H F' H' v x) : rel K (rkOf ro) H F' H' v x := by
  cases ro with
  | true => exact h
  | false => exact h
abbrev noX : XP := fun _ _ _ => False
def wCall0 (p : PSp) (a : WA) : WE := fun env Q X => a env (fun xs => p xs Q noX) X
def wCallX (p : PSp) (a : WA) : WE := fun env Q X => a env (fun xs => p xs Q X) X
theorem se_call0 {ms : List Mo} {ro : Bool} {p : PSp} {E : XK} {t : TA} {w : WA} (h : SimA K W ms t w) : SE K W (rkOf ro) (tCall (spOf K ms ro p) [] E t) (wCall0 p w) :=
  fun F0 H0 σ F H env Qp Xp Q g hw hx q => h F0 H0 σ F H env _ Xp _ g hw hx fun F1 H1 vs xs m1 r1 h1 => by
    rw [List.append_nil]
    exact ⟨F1, xs, Qp, noX, m1.fh, r1, h1, fun F2 H2 v x m2 r2 h2 => q F2 H2 v x (m1.trans m2) (rel_back m1.s r2.rel) h2, fun _ _ _ _ _ _ _ _ z => z.elim⟩
theorem se_callS {ms : List Mo} {ro : Bool} {p : PSp} {t : TA} {w : WA} (h : SimA K W ms t w) : SE K W (rkOf ro) (tCallS (spOf K ms ro p) (fun σ => L2.WE W σ) t) (wCallX p w) :=
  fun F0 H0 σ F H env Qp Xp Q g hw hx q => h F0 H0 σ F H env _ Xp _ g hw hx fun F1 H1 vs xs m1 r1 h1 =>
    ⟨F1, xs, Qp, Xp, m1.fh, r1, h1, fun F2 H2 v x m2 r2 h2 => q F2 H2 v x (m1.trans m2) (rel_back m1.s r2.rel) h2, fun F' H' C d ns ys m f z => hx F' H' C d ns ys (m1.trans m) f z⟩
end
end Pf

namespace Pf
open PySem PySem.Spec PyProof.Rows L2
section
variable {K : PySem.W.Frag} {W : WX} {k : Rk} {ro : Bool}
abbrev SS (K : PySem.W.Frag) (W : WX) (ro : Bool) (t : TS) (w : WS) : Prop := SimS K W ro t w
theorem Good.base {F0 H0 F H : Hp} {σ : L2.St} {env : PEnv} (g : Good K F0 H0 σ F H env) : Good K F H0 σ F H env := ⟨g.fh, g.hh, .refl, g.len, g.slot, g.own, g.dis⟩
theorem Good.back {F0 F1 H0 F H : Hp} {σ : L2.St} {env : PEnv} (e : Ext H0 F0 F1) (g : Good K F1 H0 σ F H env) : Good K F0 H0 σ F H env := ⟨g.fh, g.hh, e.trans (Same.refl _) g.e, g.len, g.slot, g.own, g.dis⟩
theorem Good.m {F0 H0 F H : Hp} {σ : L2.St} {env : PEnv} (g : Good K F0 H0 σ F H env) : Mv F0 H0 F H := ⟨g.e, g.hh, g.fh⟩
theorem DOk.base {F0 F1 H0 : Hp} {Dp : PEnds} {D : Ends} (e : Ext H0 F0 F1) (d : DOk K ro F0 H0 Dp D) : DOk K ro F1 H0 Dp D :=
  ⟨fun σ F H env g => d.1 σ F H env (g.back e), fun F H v x m => d.2.1 F H v x ⟨e.trans (Same.refl _) m.e, m.s, m.fh⟩, fun σ F H env g => d.2.2.1 σ F H env (g.back e), fun σ F H env g => d.2.2.2 σ F H env (g.back e)⟩
theorem WOk.base {F0 F1 H0 : Hp} {ex : PEnv → XP} (e : Ext H0 F0 F1) (d : WOk K W F0 H0 ex) : WOk K W F1 H0 ex := fun σ F H env C dd ns xs g => d σ F H env C dd ns xs (g.back e)
/-! #### statements -/
def wNx : WS := fun D env => D.nx env
def wSeq (a b : WS) : WS := fun D env => a { D with nx := b D } env
def wCut (a b : WS) : WS := fun D env => ∃ Mid : PEnv → Prop, a { D with nx := Mid } env ∧ ∀ env', Mid env' → b D env'
theorem ss_nx : SS K W ro tNext wNx := fun F0 H0 σ F H env Dp D g hw d x => d.1 σ F H env g hw
theorem ss_seq {t u : TS} {a b : WS} (ht : SS K W ro t a) (hu : SS K W ro u b) : SS K W ro (tSeq t u) (wSeq a b) := fun F0 H0 σ F H env Dp D g hw d x =>
  ht F0 H0 σ F H env _ _ g hw ⟨fun σ1 F1 H1 e1 g1 h1 => hu F0 H0 σ1 F1 H1 e1 Dp D g1 h1 d x, d.2⟩ x
theorem ss_cut {t u : TS} {a b : WS} (ht : SS K W ro t a) (hu : SS K W ro u b) : SS K W ro (Evl.tCut t u) (wCut a b) := fun F0 H0 σ F H env Dp D g ⟨Mid, h1, h2⟩ d x =>
  ⟨fun σ' H' => ∃ F' env', Good K F0 H0 σ' F' H' env' ∧ Mid env', ht F0 H0 σ F H env _ _ g h1 ⟨fun σ1 F1 H1 e1 g1 h1 => ⟨F1, e1, g1, h1⟩, d.2⟩ x, fun σ' H' ⟨F', env', g', m'⟩ => hu F0 H0 σ' F' H' env' Dp D g' (h2 env' m') d x⟩
/-- what slot i owns is kept from here on -/
def wFrz (i : Nat) (a : WS) : WS := fun D env => match env[i]? with
  | some (some (.o, x)) => a D (env.set i (some (.v, x)))
  | _ => a D env
theorem ss_frz {t : TS} {a : WS} (i : Nat) (ht : SS K W ro t a) : SS K W ro t (wFrz i a) := fun F0 H0 σ F H env Dp D g hw d x => by
  unfold wFrz at hw
  split at hw
  · rename_i y e
    obtain ⟨F', g'⟩ := g.frz e
    exact ht F0 H0 σ F' H _ Dp D g' hw d x
  · exact ht F0 H0 σ F H env Dp D g hw d x
/-- slot i is not read any more -/
def wDrop (i : Nat) (a : WS) : WS := fun D env => a D (env.set i none)
def wAV (i : Nat) (w : WE) : WS := fun D env => w env (fun x => D.nx (env.set i (some (.v, x)))) (D.ex env)
def wAO (i : Nat) (w : WE) : WS := fun D env => w env (fun x => D.nx (env.set i (some (.o, x)))) (D.ex env)
theorem ss_av {i : Nat} {t : TE} {w : WE} (h : SE K W .V t w) : SS K W ro (tAsg t (gName i)) (wAV i w) := fun F0 H0 σ F H env Dp D g hw d x =>
  h F0 H0 σ F H env _ _ _ g hw (x.x g) fun F1 H1 v y m r q => d.1 _ F1 H1 _ ((g.mv m).setV r) q
theorem ss_ao {i : Nat} {t : TE} {w : WE} (h : SE K W .O t w) : SS K W ro (tAsg t (gName i)) (wAO i w) := fun F0 H0 σ F H env Dp D g hw d x =>
  h F0 H0 σ F H env _ _ _ g hw (x.x g) fun F1 H1 v y m r q => d.1 _ F1 H1 _ (g.setO m r) q
/-! targets -/
def Off (ts : List Nat) (σ σ' : L2.St) : Prop := σ'.length = σ.length ∧ ∀ j, j ∉ ts → σ'[j]? = σ[j]?
def SimG (K : PySem.W.Frag) (ts : List Nat) (g : TG) (w : P → PEnv → (PEnv → Prop) → Prop) : Prop :=
  ∀ F0 H0 σ F H env v x (kp : PEnv → Prop) (k : L2.St → Hp → Prop), Good K F0 H0 σ F H env → R K F v x → w x env kp → (∀ σ2 env2, Good K F0 H0 σ2 F H env2 → Off ts σ σ2 → kp env2 → k σ2 H) → g v σ H k
def SimGs (K : PySem.W.Frag) (ts : List Nat) (g : TGs) (w : List P → PEnv → (PEnv → Prop) → Prop) : Prop :=
  ∀ F0 H0 σ F H env vs xs (kp : PEnv → Prop) (k : L2.St → Hp → Prop), Good K F0 H0 σ F H env → RL K F vs xs → w xs env kp → (∀ σ2 env2, Good K F0 H0 σ2 F H env2 → Off ts σ σ2 → kp env2 → k σ2 H) → g vs σ H k
def wgN (i : Nat) : P → PEnv → (PEnv → Prop) → Prop := fun x env k => k (env.set i (some (.v, x)))
def wgT (gs : List P → PEnv → (PEnv → Prop) → Prop) : P → PEnv → (PEnv → Prop) → Prop := fun x env k => match x with
  | .tup xs => gs xs env k
  | _ => False
def wgNil : List P → PEnv → (PEnv → Prop) → Prop := fun xs env k => match xs with
  | [] => k env
  | _ => False
def wgCons (g : P → PEnv → (PEnv → Prop) → Prop) (gs : List P → PEnv → (PEnv → Prop) → Prop) : List P → PEnv → (PEnv → Prop) → Prop := fun xs env k => match xs with
  | x :: r => g x env fun env2 => gs r env2 k
  | _ => False
theorem Off.set {ts : List Nat} {σ : L2.St} {i : Nat} {v : Option V} (h : i ∈ ts) : Off ts σ (σ.set i v) := ⟨by rw [List.length_set], fun j hj => List.getElem?_set_ne fun e => hj (by rw [← e]; exact h)⟩
theorem Off.trans {ts : List Nat} {σ σ1 σ2 : L2.St} (a : Off ts σ σ1) (b : Off ts σ1 σ2) : Off ts σ σ2 := ⟨b.1.trans a.1, fun j h => (b.2 j h).trans (a.2 j h)⟩
theorem Off.mono {ts us : List Nat} {σ σ1 : L2.St} (h : ∀ x, x ∈ ts → x ∈ us) (a : Off ts σ σ1) : Off us σ σ1 := ⟨a.1, fun j hj => a.2 j fun z => hj (h j z)⟩
theorem sg_n (i : Nat) : SimG K [i] (gName i) (wgN i) := fun F0 H0 σ F H env v x kp k g r hw q => q _ _ (g.setV r) (.set List.mem_cons_self) hw
theorem sg_nil : SimGs K [] gNil wgNil := fun F0 H0 σ F H env vs xs kp k g r hw q => by
  cases r with
  | nil => exact ⟨rfl, q σ env g ⟨rfl, fun _ _ => rfl⟩ hw⟩
  | cons => exact hw.elim
theorem sg_cons {ts us : List Nat} {a : TG} {b : TGs} {wa : P → PEnv → (PEnv → Prop) → Prop} {wb : List P → PEnv → (PEnv → Prop) → Prop} (ha : SimG K ts a wa) (hb : SimGs K us b wb) : SimGs K (ts ++ us) (gCons a b) (wgCons wa wb) := fun F0 H0 σ F H env vs xs kp k g r hw q => by
  cases r with
  | nil => exact hw.elim
  | cons h r => exact ⟨_, _, rfl, ha F0 H0 σ F H env _ _ _ _ g h hw fun σ2 env2 g2 o2 h2 => hb F0 H0 σ2 F H env2 _ _ _ _ g2 r h2 fun σ3 env3 g3 o3 h3 => q σ3 env3 g3 ((o2.mono fun x hx => List.mem_append_left _ hx).trans (o3.mono fun x hx => List.mem_append_right _ hx)) h3⟩
theorem gs_len {n : Nat} {w : List P → PEnv → (PEnv → Prop) → Prop} (hn : ∀ xs env k, w xs env k → xs.length = n) : True := trivial
/-- as many names as items -/
def wgLen : (n : Nat) → (List P → PEnv → (PEnv → Prop) → Prop) → List P → PEnv → (PEnv → Prop) → Prop := fun n w xs env k => xs.length = n ∧ w xs env k
theorem sg_t {ts : List Nat} {n : Nat} {b : TGs} {wb : List P → PEnv → (PEnv → Prop) → Prop} (hb : SimGs K ts b wb) : SimG K ts (gTup K n b) (wgT (wgLen n wb)) := fun F0 H0 σ F H env v x kp k g r hw q => by
  cases r with
  | tup h r => exact ⟨_, _, rfl, SqT.of (g.fh _ _ h), r.len.trans hw.1, hb F0 H0 σ F H env _ _ _ _ g r hw.2 q⟩
  | _ => exact hw.elim
def wAG (w : WE) (gw : P → PEnv → (PEnv → Prop) → Prop) : WS := fun D env => w env (fun x => gw x env D.nx) (D.ex env)
theorem ss_ag {ts : List Nat} {t : TE} {w : WE} {g : TG} {gw : P → PEnv → (PEnv → Prop) → Prop} (h : SE K W .V t w) (hg : SimG K ts g gw) : SS K W ro (tAsg t g) (wAG w gw) := fun F0 H0 σ F H env Dp D gd hw d x =>
  h F0 H0 σ F H env _ _ _ gd hw (x.x gd) fun F1 H1 v y m r q => hg F0 H0 σ F1 H1 env v y _ _ (gd.mv m) r q fun σ2 env2 g2 _ h2 => d.1 σ2 F1 H1 env2 g2 h2
/-! ends -/
def wRet (w : WE) : WS := fun D env => w env D.rt (D.ex env)
theorem ss_rv {t : TE} {w : WE} (h : SE K W .V t w) : SS K W false (tRet t) (wRet w) := fun F0 H0 σ F H env Dp D g hw d x =>
  h F0 H0 σ F H env _ _ _ g hw (x.x g) fun F1 H1 v y m r q => d.2.1 F1 H1 v y (g.mv m).m r q
theorem ss_ro {t : TE} {w : WE} (h : SE K W .O t w) : SS K W true (tRet t) (wRet w) := fun F0 H0 σ F H env Dp D g hw d x =>
  h F0 H0 σ F H env _ _ _ g hw (x.x g) fun F1 H1 v y m r q => d.2.1 F1 H1 v y (g.mv m).m (rel_back (k := .O) g.hh r) q
def wRetO (i : Nat) : WS := fun D env => match env[i]? with
  | some (some (.o, x)) => D.rt x
  | _ => False
theorem ss_roV (i : Nat) : SS K W true (tRet (tVar i)) (wRetO i) := fun F0 H0 σ F H env Dp D g hw d x => by
  unfold wRetO at hw
  split at hw
  · rename_i y e
    obtain ⟨v, hs, sl⟩ := g.slot i _ y e
    rcases sl with ⟨a, o, rfl, ha, c⟩ | sl
    · obtain ⟨nf, nh⟩ := g.own i y a e hs
      exact ⟨_, hs, d.2.1 F H _ y g.m (.inl ⟨a, o, rfl, nh, nf, ha, c⟩) hw⟩
    · exact ⟨_, hs, d.2.1 F H _ y g.m (.inr sl) hw⟩
  · exact hw.elim
def wRetN : WS := fun D _ => D.rt .non
theorem ss_rn : SS K W ro tRetN wRetN := fun F0 H0 σ F H env Dp D g hw d x => d.2.1 F H _ _ g.m (by cases ro with | true => exact .inr ⟨rfl, R.non⟩ | false => exact R.non) hw
def wBrk : WS := fun D env => D.bk env
def wCnt : WS := fun D env => D.ct env
theorem ss_brk : SS K W ro tBreak wBrk := fun F0 H0 σ F H env Dp D g hw d x => d.2.2.1 σ F H env g hw
theorem ss_cnt : SS K W ro tCont wCnt := fun F0 H0 σ F H env Dp D g hw d x => d.2.2.2 σ F H env g hw
def wDo (w : WE) : WS := fun D env => w env (fun _ => D.nx env) (D.ex env)
theorem ss_do {t : TE} {w : WE} (h : SE K W k t w) : SS K W ro (tDrop t) (wDo w) := fun F0 H0 σ F H env Dp D g hw d x =>
  h F0 H0 σ F H env _ _ _ g hw (x.x g) fun F1 H1 v y m r q => d.1 σ F1 H1 env (g.mv m) q
def wIfS (c : WT) (a b : WS) : WS := fun D env => c env (fun d => if d = true then a D env else b D env) (D.ex env)
theorem ss_if {tc : TT} {t u : TS} {wc : WT} {a b : WS} (hc : ST K W tc wc) (ht : SS K W ro t a) (hu : SS K W ro u b) : SS K W ro (tIfS tc t u) (wIfS wc a b) := fun F0 H0 σ F H env Dp D g hw d x =>
  hc F0 H0 σ F H env _ _ _ g hw (x.x g) fun F1 H1 c m h => by
    cases c with
    | true => exact iteT (ht F0 H0 σ F1 H1 env Dp D (g.mv m) (by simpa using h) d x)
    | false => exact iteF (hu F0 H0 σ F1 H1 env Dp D (g.mv m) (by simpa using h) d x)
/-! lists that are changed -/
def onInt (x : P) (Q : Int → Prop) : Prop := match x with
  | .int n => Q n
  | _ => False
def onLst (x : P) (Q : List P → Prop) : Prop := match x with
  | .lst xs => Q xs
  | _ => False
theorem onInt_of {F H : Hp} {v : V} {x : P} {Q : Int → Prop} (r : Tp K F H v x) (h : onInt x Q) : ∃ b, v = .int b ∧ x = .int b ∧ Q b := by
  cases x with
  | int b =>
    rcases r with r | ⟨_, _, _, _, c⟩
    · cases r; exact ⟨b, rfl, rfl, h⟩
    · exact c.elim
  | _ => exact h.elim
theorem onLst_of {F H : Hp} {v : V} {x : P} {Q : List P → Prop} (s : Same F H) (r : Tp K F H v x) (h : onLst x Q) : ∃ xs a vs, x = .lst xs ∧ v = .ref a ∧ H a = some (.lst vs) ∧ RL K F vs xs ∧ Q xs := by
  cases x with
  | lst xs => obtain ⟨a, vs, e, ha, r⟩ := Tp.lst s r; exact ⟨xs, a, vs, rfl, e, ha, r, h⟩
  | _ => exact h.elim
/-- the list that slot i owns -/
def ownL (env : PEnv) (i : Nat) (Q : List P → Prop) : Prop := match env[i]? with
  | some (some (.o, .lst xs)) => Q xs
  | _ => False
theorem ownL_of {F0 H0 F H : Hp} {σ : L2.St} {env : PEnv} {i : Nat} {Q : List P → Prop} (g : Good K F0 H0 σ F H env) (h : ownL env i Q) : ∃ xs a vs, env[i]? = some (some (.o, .lst xs)) ∧ σ[i]? = some (some (.ref a)) ∧ H a = some (.lst vs) ∧ RL K F vs xs ∧ Q xs := by
  unfold ownL at h
  split at h
  · rename_i xs e
    obtain ⟨v, hs, sl⟩ := g.slot i _ _ e
    rcases sl with ⟨a, o, rfl, ha, vs, rfl, r⟩ | sl
    · exact ⟨xs, a, vs, e, hs, ha, r, h⟩
    · cases sl.1
  · exact h.elim
def wApp (i : Nat) (w : WE) : WS := fun D env => ownL env i fun xs => w env (fun x => xs.length < sizeLine ∧ D.nx (env.set i (some (.o, .lst (xs ++ [x]))))) (D.ex env)
theorem ss_app {i : Nat} {t : TE} {w : WE} (h : SE K W .V t w) : SS K W ro (tDrop (tBM K "list" rAppend (tVar i) (tCons t tNil))) (wApp i w) := fun F0 H0 σ F H env Dp D g hw d x => by
  obtain ⟨xs, a, vs, e, hs, ha, r, hw⟩ := ownL_of g hw
  refine ⟨.ref a, hs, .inl ⟨rfl, vs, SqL.of ha⟩, ?_⟩
  refine h F0 H0 σ F H env _ _ _ g hw (x.x g) fun F1 H1 v y m ry q => ?_
  exact ⟨a, vs, v, rfl, rfl, m.s _ _ ha, by rw [r.len]; exact q.1, d.1 σ F1 _ _ ((g.mv m).put e hs (.l ((r.mono m.e.1).app (.cons ry .nil)))) q.2⟩
def wExt (i : Nat) (w : WE) : WS := fun D env => ownL env i fun xs => w env (fun x => onLst x fun ys => xs.length + ys.length ≤ sizeLine ∧ D.nx (env.set i (some (.o, .lst (xs ++ ys))))) (D.ex env)
theorem ss_ext {i : Nat} {t : TE} {w : WE} (h : SE K W .C t w) : SS K W ro (tDrop (tBM K "list" rExtend (tVar i) (tCons t tNil))) (wExt i w) := fun F0 H0 σ F H env Dp D g hw d x => by
  obtain ⟨xs, a, vs, e, hs, ha, r, hw⟩ := ownL_of g hw
  refine ⟨.ref a, hs, .inl ⟨rfl, vs, SqL.of ha⟩, ?_⟩
  refine h F0 H0 σ F H env _ _ _ g hw (x.x g) fun F1 H1 v y m ry q => ?_
  obtain ⟨ys, b, ws, rfl, rfl, hb, rb, q⟩ := onLst_of m.fh ry q
  exact ⟨a, b, vs, ws, rfl, rfl, m.s _ _ ha, hb, by rw [r.len, rb.len]; exact q.1, d.1 σ F1 _ _ ((g.mv m).put e hs (.l ((r.mono m.e.1).app rb))) q.2⟩
theorem ixN_lt {n : Nat} {i : Int} {j : Nat} (h : ixN n i = some j) : j < n := by
  unfold ixN at h
  split at h
  · split at h
    · cases h; omega
    · cases h
  · split at h
    · cases h; omega
    · cases h
def wSet (i : Nat) (w wi : WE) : WS := fun D env => ownL env i fun xs => w env (fun x => wi env (fun y => onInt y fun k => ∃ j, ixN xs.length k = some j ∧ D.nx (env.set i (some (.o, .lst (xs.set j x))))) (D.ex env)) (D.ex env)
theorem ss_set {i : Nat} {t ti : TE} {w wi : WE} (h : SE K W .V t w) (hi : SE K W .C ti wi) : SS K W ro (tAsg t (gSub (tVar i) ti rSetL)) (wSet i w wi) := fun F0 H0 σ F H env Dp D g hw d x => by
  obtain ⟨xs, a, vs, e, hs, ha, r, hw⟩ := ownL_of g hw
  refine h F0 H0 σ F H env _ _ _ g hw (x.x g) fun F1 H1 v y m ry q => ⟨.ref a, hs, ?_⟩
  have g1 := g.mv m
  refine hi F0 H0 σ F1 H1 env _ _ _ g1 q (x.x g1) fun F2 H2 u z m2 rz q2 => ?_
  obtain ⟨k, rfl, rfl, j, hj, q2⟩ := onInt_of rz q2
  have r2 := (r.mono m.e.1).mono m2.e.1
  exact ⟨a, vs, k, j, rfl, rfl, m2.s _ _ (m.s _ _ ha), by rw [r2.len]; exact hj, d.1 σ F2 _ _ ((g1.mv m2).put e hs (.l (r2.set (R.mv m2 ry) j))) q2⟩
/-! dicts that are changed: keys are texts and ints -/
def keyP : P → Option Key
  | .int n => some (Sum.inl n)
  | .str z => some (Sum.inr z)
  | _ => none
def valP (ks : List Key) (xs : List P) (k : Key) : Option P := match ks, xs with
  | q :: ks, x :: xs => if q = k then some x else valP ks xs k
  | _, _ => none
/-- the keys and the values behind d[k] = x -/
def putP (ks : List Key) (xs : List P) (k : Key) (x : P) : List Key × List P :=
  if (ks.any fun q => decide (q = k)) = true then (ks, List.zipWith (fun q y => if q = k then x else y) ks xs) else (ks ++ [k], xs ++ [x])
theorem keyP_of {F H : Hp} {v : V} {x : P} {k : Key} (r : Tp K F H v x) (h : keyP x = some k) : v = kV k := by
  rcases r with r | ⟨_, _, _, _, c⟩
  · cases r <;> cases h <;> rfl
  · cases x <;> first | exact c.elim | cases h
theorem valP_zip {F : Hp} {k : Key} : ∀ {ks : List Key} {vs : List V} {xs : List P}, ks.length = vs.length → RL K F vs xs →
    (valP ks xs k = none → valV (ks.zip vs) k = none) ∧ ∀ x, valP ks xs k = some x → ∃ v, valV (ks.zip vs) k = some v ∧ R K F v x
  | [], vs, xs, l, r => by
    have e : vs = [] := List.eq_nil_of_length_eq_zero l.symm
    subst e
    cases r
    exact ⟨fun _ => rfl, fun x h => by cases h⟩
  | q :: ks, [], xs, l, r => by cases l
  | q :: ks, v :: vs, _, l, .cons (x := x) (xs := xs) h r => by
    have ih := valP_zip (k := k) (ks := ks) (by simpa using l) r
    by_cases hq : q = k
    · subst hq
      refine ⟨fun z => ?_, fun y z => ?_⟩
      · unfold valP at z; rw [if_pos rfl] at z; cases z
      · unfold valP at z; rw [if_pos rfl] at z; cases z
        exact ⟨v, by simp [valV], h⟩
    · refine ⟨fun z => ?_, fun y z => ?_⟩
      · unfold valP at z; rw [if_neg hq] at z
        have := ih.1 z
        unfold valV at this ⊢
        rw [List.zip_cons_cons, List.find?_cons_of_neg (by simpa using hq)]
        exact this
      · unfold valP at z; rw [if_neg hq] at z
        obtain ⟨w, e, rr⟩ := ih.2 y z
        refine ⟨w, ?_, rr⟩
        unfold valV at e ⊢
        rw [List.zip_cons_cons, List.find?_cons_of_neg (by simpa using hq)]
        exact e
theorem zip_any {k : Key} : ∀ {ks : List Key} {vs : List V}, ks.length = vs.length → ((ks.zip vs).any fun kv => decide (kv.1 = k)) = (ks.any fun q => decide (q = k))
  | [], [], _ => rfl
  | q :: ks, v :: vs, l => by rw [List.zip_cons_cons, List.any_cons, List.any_cons, zip_any (by simpa using l)]
theorem zip_put {k : Key} {w : V} : ∀ {ks : List Key} {vs : List V}, ks.length = vs.length → (ks.zip vs).map (fun kv => if kv.1 = k then (kv.1, w) else kv) = ks.zip (List.zipWith (fun q y => if q = k then w else y) ks vs)
  | [], [], _ => rfl
  | q :: ks, v :: vs, l => by
    rw [List.zip_cons_cons, List.map_cons, List.zipWith_cons_cons, List.zip_cons_cons, zip_put (by simpa using l)]
    by_cases h : q = k
    · simp [h]
    · simp [h]
theorem RL.put {F : Hp} {k : Key} {w : V} {x : P} (hr : R K F w x) : ∀ {ks : List Key} {vs : List V} {xs : List P}, ks.length = vs.length → RL K F vs xs → RL K F (List.zipWith (fun q y => if q = k then w else y) ks vs) (List.zipWith (fun q y => if q = k then x else y) ks xs)
  | [], _, _, _, _ => by simp; exact .nil
  | q :: ks, v :: vs, _, l, .cons h r => by
    rw [List.zipWith_cons_cons, List.zipWith_cons_cons]
    refine .cons ?_ (RL.put hr (by simpa using l) r)
    by_cases hq : q = k
    · rw [if_pos hq, if_pos hq]; exact hr
    · rw [if_neg hq, if_neg hq]; exact h
theorem put_cell {F : Hp} {a : Addr} {ks : List Key} {vs : List V} {xs : List P} {k : Key} {w : V} {x : P} (l : ks.length = vs.length) (r : RL K F vs xs) (hr : R K F w x) :
    Cell K F a (.dK (putK (ks.zip vs) k w)) (.dct (putP ks xs k x).1 (putP ks xs k x).2) := by
  unfold putK putP
  rw [zip_any l]
  by_cases h : (ks.any fun q => decide (q = k)) = true
  · rw [if_pos h, if_pos h, zip_put l]
    exact .d (by rw [List.length_zipWith, ← l, Nat.min_self]) (RL.put hr l r)
  · rw [if_neg h, if_neg h]
    have e : ks.zip vs ++ [(k, w)] = (ks ++ [k]).zip (vs ++ [w]) := by rw [List.zip_append l]; rfl
    rw [e]
    exact .d (by rw [List.length_append, List.length_append, l]; rfl) (r.app (.cons hr .nil))
def onDct (x : P) (Q : List Key → List P → Prop) : Prop := match x with
  | .dct ks xs => Q ks xs
  | _ => False
theorem onDct_of {F H : Hp} {v : V} {x : P} {Q : List Key → List P → Prop} (s : Same F H) (r : Tp K F H v x) (h : onDct x Q) : ∃ ks xs a vs, x = .dct ks xs ∧ v = .ref a ∧ Rd H a (.dK (ks.zip vs)) ∧ ks.length = vs.length ∧ RL K F vs xs ∧ Q ks xs := by
  cases x with
  | dct ks xs => obtain ⟨a, vs, e, ha, l, r⟩ := Tp.dct s r; exact ⟨ks, xs, a, vs, rfl, e, ha, l, r, h⟩
  | _ => exact h.elim
theorem Rd.same {H H' : Hp} {a : Addr} {u : HO} (s : Same H H') (h : Rd H a u) : Rd H' a u := h.elim (fun h => .inl (s _ _ h)) fun ⟨o, h⟩ => .inr ⟨o, s _ _ h⟩
def onKey (y : P) (Q : Key → Prop) : Prop := match y with
  | .int n => Q (Sum.inl n)
  | .str z => Q (Sum.inr z)
  | _ => False
theorem onKey_of {F H : Hp} {v : V} {y : P} {Q : Key → Prop} (r : Tp K F H v y) (h : onKey y Q) : ∃ k, v = kV k ∧ Q k := by
  cases y with
  | int n => exact ⟨Sum.inl n, keyP_of r rfl, h⟩
  | str z => exact ⟨Sum.inr z, keyP_of r rfl, h⟩
  | _ => exact h.elim
def wDGet (d y : WE) : WE := fun env Q X => d env (fun x => y env (fun z => onDct x fun ks xs => onKey z fun k => ∃ u, valP ks xs k = some u ∧ Q u) X) X
theorem se_dget {td ty : TE} {d y : WE} (hd : SE K W .C td d) (hy : SE K W .C ty y) : SE K W .V (tDGet td ty) (wDGet d y) := fun F0 H0 σ F H env Qp Xp Q g hw hx q =>
  hd F0 H0 σ F H env _ Xp _ g hw hx fun F1 H1 v x m1 r1 h1 => hy F0 H0 σ F1 H1 env _ Xp _ (g.mv m1) h1 (hx.mv m1) fun F2 H2 w z m2 r2 h2 => by
    obtain ⟨ks, xs, a, vs, rfl, rfl, ha, l, r, h2⟩ := onDct_of m2.fh (Tp.mv m2 r1) h2
    obtain ⟨k, rfl, u, hu, h2⟩ := onKey_of r2 h2
    obtain ⟨w, e, rr⟩ := (valP_zip (k := k) l r).2 u hu
    exact ⟨a, w, rfl, .inl ⟨_, k, ha, rfl, e.symm⟩, q F2 H2 w u (m1.trans m2) rr h2⟩
def wDIn (n : Bool) (y d : WE) : WE := fun env Q X => y env (fun z => d env (fun x => onDct x fun ks xs => onKey z fun k => Q (.bl (if n = true then !(valP ks xs k).isSome else (valP ks xs k).isSome))) X) X
theorem din_some {F : Hp} {ks : List Key} {vs : List V} {xs : List P} {k : Key} (l : ks.length = vs.length) (r : RL K F vs xs) : (valV (ks.zip vs) k).isSome = (valP ks xs k).isSome := by
  cases e : valP ks xs k with
  | none => rw [(valP_zip l r).1 e]; rfl
  | some x => obtain ⟨w, e, _⟩ := (valP_zip l r).2 x e; rw [e]; rfl
theorem se_din {td ty : TE} {d y : WE} (hy : SE K W .C ty y) (hd : SE K W .C td d) : SE K W .V (tDIn ty td) (wDIn false y d) := fun F0 H0 σ F H env Qp Xp Q g hw hx q =>
  hy F0 H0 σ F H env _ Xp _ g hw hx fun F1 H1 v x m1 r1 h1 => hd F0 H0 σ F1 H1 env _ Xp _ (g.mv m1) h1 (hx.mv m1) fun F2 H2 w z m2 r2 h2 => by
    obtain ⟨ks, xs, a, vs, rfl, rfl, ha, l, r, h2⟩ := onDct_of m2.fh r2 h2
    obtain ⟨k, rfl, h2⟩ := onKey_of (Tp.mv m2 r1) h2
    refine ⟨a, _, rfl, .inl ⟨_, k, ha, rfl, rfl⟩, q F2 H2 _ _ (m1.trans m2) (R.bl _) ?_⟩
    rw [din_some l r]; exact h2
theorem se_dnin {td ty : TE} {d y : WE} (hy : SE K W .C ty y) (hd : SE K W .C td d) : SE K W .V (tDNotIn ty td) (wDIn true y d) := fun F0 H0 σ F H env Qp Xp Q g hw hx q =>
  hy F0 H0 σ F H env _ Xp _ g hw hx fun F1 H1 v x m1 r1 h1 => hd F0 H0 σ F1 H1 env _ Xp _ (g.mv m1) h1 (hx.mv m1) fun F2 H2 w z m2 r2 h2 => by
    obtain ⟨ks, xs, a, vs, rfl, rfl, ha, l, r, h2⟩ := onDct_of m2.fh r2 h2
    obtain ⟨k, rfl, h2⟩ := onKey_of (Tp.mv m2 r1) h2
    refine ⟨a, _, rfl, .inl ⟨_, k, ha, rfl, rfl⟩, q F2 H2 _ _ (m1.trans m2) (R.bl _) ?_⟩
    rw [din_some l r]; exact h2
/-- the dict that slot i owns -/
def ownD (env : PEnv) (i : Nat) (Q : List Key → List P → Prop) : Prop := match env[i]? with
  | some (some (.o, .dct ks xs)) => Q ks xs
  | _ => False
theorem ownD_of {F0 H0 F H : Hp} {σ : L2.St} {env : PEnv} {i : Nat} {Q : List Key → List P → Prop} (g : Good K F0 H0 σ F H env) (h : ownD env i Q) : ∃ ks xs a vs, env[i]? = some (some (.o, .dct ks xs)) ∧ σ[i]? = some (some (.ref a)) ∧ H a = some (.dK (ks.zip vs)) ∧ ks.length = vs.length ∧ RL K F vs xs ∧ Q ks xs := by
  unfold ownD at h
  split at h
  · rename_i ks xs e
    obtain ⟨v, hs, sl⟩ := g.slot i _ _ e
    rcases sl with ⟨a, o, rfl, ha, vs, rfl, l, r⟩ | sl
    · exact ⟨ks, xs, a, vs, e, hs, ha, l, r, h⟩
    · cases sl.1
  · exact h.elim
def wDPut (i : Nat) (y w : WE) : WS := fun D env => ownD env i fun ks xs => w env (fun x => y env (fun z => onKey z fun k => ks.length < sizeLine ∧ D.nx (env.set i (some (.o, .dct (putP ks xs k x).1 (putP ks xs k x).2)))) (D.ex env)) (D.ex env)
theorem ss_dput {i : Nat} {ty tv : TE} {y w : WE} (hv : SE K W .V tv w) (hy : SE K W .C ty y) : SS K W ro (sDPut (tVar i) ty tv) (wDPut i y w) := fun F0 H0 σ F H env Dp D g hw d x => by
  obtain ⟨ks, xs, a, vs, e, hs, ha, l, r, hw⟩ := ownD_of g hw
  refine hv F0 H0 σ F H env _ _ _ g hw (x.x g) fun F1 H1 v z m rz q => ⟨.ref a, hs, ?_⟩
  have g1 := g.mv m
  refine hy F0 H0 σ F1 H1 env _ _ _ g1 q (x.x g1) fun F2 H2 u z2 m2 rz2 q2 => ?_
  obtain ⟨k, rfl, q2, q3⟩ := onKey_of rz2 q2
  have hl : (ks.zip vs).length < sizeLine := by rw [List.length_zip, ← l, Nat.min_self]; exact q2
  have r2 := (r.mono m.e.1).mono m2.e.1
  exact ⟨a, _, rfl, DPut.k (m2.s _ _ (m.s _ _ ha)) hl, d.1 σ F2 _ _ ((g1.mv m2).put e hs (put_cell l r2 (R.mv m2 rz))) q3⟩
def wDAug (i : Nat) (f : PF2) (y w : WE) : WS := fun D env => ownD env i fun ks xs => y env (fun z => onKey z fun k => ∃ u, valP ks xs k = some u ∧ w env (fun x => f u x fun n => ks.length < sizeLine ∧ D.nx (env.set i (some (.o, .dct (putP ks xs k n).1 (putP ks xs k n).2)))) (D.ex env)) (D.ex env)
theorem ss_daug {i : Nat} {ty tv : TE} {y w : WE} {rd : V → V → Hp → VK → Prop} {f : PF2} (hf : OpS K .V rd f) (hy : SE K W .C ty y) (hv : SE K W .C tv w) : SS K W ro (sDAug (tVar i) ty tv rd) (wDAug i f y w) := fun F0 H0 σ F H env Dp D g hw d x => by
  obtain ⟨ks, xs, a, vs, e, hs, ha, l, r, hw⟩ := ownD_of g hw
  refine ⟨.ref a, hs, ?_⟩
  refine hy F0 H0 σ F H env _ _ _ g hw (x.x g) fun F1 H1 v z m rz q => ?_
  obtain ⟨k, rfl, u, hu, q⟩ := onKey_of rz q
  have g1 := g.mv m
  have r1 := r.mono m.e.1
  obtain ⟨vu, ev, rv⟩ := (valP_zip (k := k) l r1).2 u hu
  refine ⟨a, vu, rfl, .inl ⟨_, k, .inl (m.s _ _ ha), rfl, ev.symm⟩, ?_⟩
  refine hv F0 H0 σ F1 H1 env _ _ _ g1 q (x.x g1) fun F2 H2 w2 z2 m2 rz2 q2 => ?_
  refine hf F2 H2 vu w2 u z2 _ _ m2.fh (.inl (R.mv m2 rv)) rz2 q2 fun F3 H3 w3 z3 m3 rz3 q3 => ?_
  have hl : (ks.zip vs).length < sizeLine := by rw [List.length_zip, ← l, Nat.min_self]; exact q3.1
  have r3 := (r1.mono m2.e.1).mono m3.e.1
  exact ⟨_, DPut.k (m3.s _ _ (m2.s _ _ (m.s _ _ ha))) hl, d.1 σ F3 _ _ (((g1.mv m2).mv m3).put e hs (put_cell l r3 rz3)) q3.2⟩
def wDNew : WE := fun _ Q _ => Q (.dct [] [])
theorem se_dnew : SE K W .O tDNewK wDNew := fun F0 H0 σ F H env Qp Xp Q g hw hx q p np =>
  q F (upd H p (.dK [])) (.ref p) (.dct [] []) (mv_new g.fh np) (.inl ⟨p, _, rfl, np, same_free g.fh np, upd_same, [], rfl, rfl, .nil⟩) hw
end
end Pf

namespace Pf
open PySem PySem.Spec PyProof.Rows L2
section
variable {K : PySem.W.Frag} {W : WX} {k : Rk} {ro : Bool}
/-! #### what is walked -/
abbrev WI := PEnv → (List P → Prop) → XP → Prop
/-- J gives the items xs while the heap says what `ok` wants -/
def Wkd (K : PySem.W.Frag) (ok : Hp → Hp → Prop) (J : It) (xs : List P) : Prop :=
  ∃ G Y, Walk J xs.length G Y ∧ (∀ F1 H1, ok F1 H1 → G H1) ∧ (∀ i F1 H1 v H2, i < xs.length → ok F1 H1 → Y i H1 v H2 → ∃ x F2, xs[i]? = some x ∧ Mv F1 H1 F2 H2 ∧ R K F2 v x)
theorem Wkd.imp {ok ok' : Hp → Hp → Prop} {J : It} {xs : List P} (h : ∀ F H, ok' F H → ok F H) : Wkd K ok J xs → Wkd K ok' J xs := fun ⟨G, Y, w, a, b⟩ => ⟨G, Y, w, fun F1 H1 o => a F1 H1 (h _ _ o), fun i F1 H1 v H2 hi o => b i F1 H1 v H2 hi (h _ _ o)⟩
/-- in a for: what is kept stays -/
abbrev okF (H0 F : Hp) : Hp → Hp → Prop := fun F1 H1 => Same F F1 ∧ Same F1 H1 ∧ Same H0 H1
/-- in a comprehension: all stays -/
abbrev okC (F H : Hp) : Hp → Hp → Prop := fun F1 H1 => Mv F H F1 H1
def SimI (K : PySem.W.Frag) (W : WX) (wi : TI) (w : WI) : Prop :=
  ∀ F0 H0 σ F H env Qp Xp (Rr : It → Hp → Prop), Good K F0 H0 σ F H env → w env Qp Xp → XOk K W σ F H Xp → (∀ F' H' J xs, Mv F H F' H' → Wkd K (okF H0 F') J xs → Qp xs → Rr J H') → wi σ H Rr
def SimIc (K : PySem.W.Frag) (W : WX) (wi : TI) (w : WI) : Prop :=
  ∀ F0 H0 σ F H env Qp Xp (Rr : It → Hp → Prop), Good K F0 H0 σ F H env → w env Qp Xp → XOk K W σ F H Xp → (∀ F' H' J xs, Mv F H F' H' → Wkd K (okC F' H') J xs → Qp xs → Rr J H') → wi σ H Rr
theorem SimI.c {wi : TI} {w : WI} (h : SimI K W wi w) : SimIc K W wi w := fun F0 H0 σ F H env Qp Xp Rr g hw hx q =>
  h F0 H0 σ F H env Qp Xp Rr g hw hx fun F' H' J xs m wk z => q F' H' J xs m (wk.imp fun F1 H1 m1 => ⟨m1.e.1, m1.fh, (g.hh.trans m.s).trans m1.s⟩) z
theorem wkd_at {ok : Hp → Hp → Prop} {J : It} {vs : List V} {xs : List P} {G : Hp → Prop} (w : Walk J vs.length G (YAt vs)) (hg : ∀ F1 H1, ok F1 H1 → G H1 ∧ RL K F1 vs xs ∧ Same F1 H1) (hl : vs.length = xs.length) : Wkd K ok J xs := by
  refine ⟨G, YAt vs, hl ▸ w, fun F1 H1 o => (hg F1 H1 o).1, fun i F1 H1 v H2 hi o y => ?_⟩
  obtain ⟨rfl, y⟩ := y
  obtain ⟨_, r, s⟩ := hg F1 _ o
  obtain ⟨x, e, rx⟩ := r.get y
  exact ⟨x, F1, e, .refl s, rx⟩
def wIL (a : WE) : WI := fun env Q X => a env (fun x => onLst x Q) X
theorem si_list {tl : TE} {a : WE} (h : SE K W .V tl a) : SimI K W (iList K tl) (wIL a) := fun F0 H0 σ F H env Qp Xp Rr g hw hx q =>
  h F0 H0 σ F H env _ Xp _ g hw hx fun F1 H1 v x m r h1 => by
    cases r with
    | lst hf r =>
      refine ⟨_, rfl, ⟨_, SqL.of (m.fh _ _ hf)⟩, q F1 H1 _ _ m (wkd_at walk_list (fun F2 H2 o => ⟨SqL.of (o.2.1 _ _ (o.1 _ _ hf)), r.mono o.1, o.2.1⟩) r.len) h1⟩
    | _ => exact h1.elim
theorem si_listc {tl : TE} {a : WE} (h : SE K W .C tl a) : SimIc K W (iList K tl) (wIL a) := fun F0 H0 σ F H env Qp Xp Rr g hw hx q =>
  h F0 H0 σ F H env _ Xp _ g hw hx fun F1 H1 v x m r h1 => by
    obtain ⟨xs, b, vs, rfl, rfl, hb, r, h1⟩ := onLst_of m.fh r h1
    exact ⟨_, rfl, ⟨_, SqL.of hb⟩, q F1 H1 _ _ m (wkd_at walk_list (fun F2 H2 o => ⟨SqL.of (o.s _ _ hb), r.mono o.e.1, o.fh⟩) r.len) h1⟩
/-- a name whose list stays (kept, or the caller's) -/
def wILv (i : Nat) : WI := fun env Q _ => match env[i]? with
  | some (some (.v, .lst xs)) => Q xs
  | some (some (.b, .lst xs)) => Q xs
  | _ => False
theorem si_var (i : Nat) : SimI K W (iList K (tVar i)) (wILv i) := fun F0 H0 σ F H env Qp Xp Rr g hw hx q => by
  unfold wILv at hw
  split at hw
  · rename_i xs e
    obtain ⟨v, hs, s⟩ := g.slot i _ _ e
    cases s with
    | lst hf r => exact ⟨_, hs, _, rfl, ⟨_, SqL.of (g.fh _ _ hf)⟩, q F H _ _ g.mvr (wkd_at walk_list (fun F2 H2 o => ⟨SqL.of (o.2.1 _ _ (o.1 _ _ hf)), r.mono o.1, o.2.1⟩) r.len) hw⟩
  · rename_i xs e
    obtain ⟨v, hs, s⟩ := g.slot i _ _ e
    rcases s with s | ⟨a, o, rfl, ha, vs, rfl, r⟩
    · cases s with
      | lst hf r => exact ⟨_, hs, _, rfl, ⟨_, SqL.of (g.fh _ _ hf)⟩, q F H _ _ g.mvr (wkd_at walk_list (fun F2 H2 o => ⟨SqL.of (o.2.1 _ _ (o.1 _ _ hf)), r.mono o.1, o.2.1⟩) r.len) hw⟩
    · exact ⟨_, hs, _, rfl, ⟨_, SqL.of (g.hh _ _ ha)⟩, q F H _ _ g.mvr (wkd_at walk_list (fun F2 H2 o => ⟨SqL.of (o.2.2 _ _ ha), r.mono o.1, o.2.1⟩) r.len) hw⟩
  · exact hw.elim
def onTup (x : P) (Q : List P → Prop) : Prop := match x with
  | .tup xs => Q xs
  | _ => False
theorem onTup_of {F H : Hp} {v : V} {x : P} {Q : List P → Prop} (s : Same F H) (r : Tp K F H v x) (h : onTup x Q) : ∃ xs a vs, x = .tup xs ∧ v = .ref a ∧ F a = some (.tup vs) ∧ RL K F vs xs ∧ Q xs := by
  cases x with
  | tup xs =>
    rcases r with r | ⟨_, _, _, _, c⟩
    · cases r with | tup ha r => exact ⟨xs, _, _, rfl, rfl, ha, r, h⟩
    · exact c.elim
  | _ => exact h.elim
def wIT (a : WE) : WI := fun env Q X => a env (fun x => onTup x Q) X
theorem si_tup {tl : TE} {a : WE} (h : SE K W .C tl a) : SimI K W (iTup K tl) (wIT a) := fun F0 H0 σ F H env Qp Xp Rr g hw hx q =>
  h F0 H0 σ F H env _ Xp _ g hw hx fun F1 H1 v x m r h1 => by
    obtain ⟨xs, b, vs, rfl, rfl, hb, r, h1⟩ := onTup_of m.fh r h1
    exact ⟨_, rfl, ⟨_, SqT.of (m.fh _ _ hb)⟩, q F1 H1 _ _ m (wkd_at walk_tup (fun F2 H2 o => ⟨SqT.of (o.2.1 _ _ (o.1 _ _ hb)), r.mono o.1, o.2.1⟩) r.len) h1⟩
/-- lo, lo + 1, .. -/
def rng (lo : Int) (n : Nat) : List P := (List.range n).map fun (i : Nat) => .int (lo + (i : Int))
theorem rng_len {lo : Int} {n : Nat} : (rng lo n).length = n := by simp [rng]
theorem rng_at {lo : Int} {n i : Nat} (h : i < n) : (rng lo n)[i]? = some (.int (lo + (i : Int))) := by simp [rng, h]
theorem wkd_rng {ok : Hp → Hp → Prop} {lo : Int} {n : Nat} (hs : ∀ F H, ok F H → Same F H) : Wkd K ok (Itr lo n) (rng lo n) := by
  refine ⟨fun _ => True, YFn fun i => .int (lo + i), by rw [rng_len]; exact walk_range, fun _ _ _ => trivial, fun i F1 H1 v H2 hi o y => ?_⟩
  obtain ⟨rfl, rfl⟩ := y
  rw [rng_len] at hi
  exact ⟨_, F1, rng_at hi, .refl (hs _ _ o), .int _⟩
theorem AL.one {F H : Hp} {m : Mo} {vs : List V} {xs : List P} (h : AL K F H [m] vs xs) : ∃ v x, vs = [v] ∧ xs = [x] ∧ Tp K F H v x := by
  cases m <;> cases vs <;> cases xs <;> first
    | exact h.elim
    | (rename_i v vs x xs; cases vs <;> cases xs <;> first
        | exact h.2.elim
        | exact ⟨_, _, rfl, rfl, .inl h.1⟩
        | exact ⟨_, _, rfl, rfl, h.1⟩)
theorem AL.cons {F H : Hp} {m : Mo} {ms : List Mo} {vs : List V} {xs : List P} (h : AL K F H (m :: ms) vs xs) : ∃ v vs' x xs', vs = v :: vs' ∧ xs = x :: xs' ∧ Tp K F H v x ∧ AL K F H ms vs' xs' := by
  cases m <;> cases vs <;> cases xs <;> first
    | exact h.elim
    | exact ⟨_, _, _, _, rfl, rfl, .inl h.1, h.2⟩
    | exact ⟨_, _, _, _, rfl, rfl, h.1, h.2⟩
theorem AL.nil {F H : Hp} {vs : List V} {xs : List P} (h : AL K F H [] vs xs) : vs = [] ∧ xs = [] := by
  cases vs <;> cases xs <;> first | exact ⟨rfl, rfl⟩ | exact h.elim
def wIR1 (a : WA) : WI := fun env Q X => a env (fun xs => match xs with
  | [.int j] => -(2 ^ 62) ≤ j ∧ j < 2 ^ 62 ∧ Q (rng 0 j.toNat)
  | _ => False) X
def wIR2 (a : WA) : WI := fun env Q X => a env (fun xs => match xs with
  | [.int i, .int j] => (-(2 ^ 62) ≤ i ∧ i < 2 ^ 62 ∧ -(2 ^ 62) ≤ j ∧ j < 2 ^ 62) ∧ Q (rng i (j - i).toNat)
  | _ => False) X
theorem Tp.int {F H : Hp} {v : V} {n : Int} (h : Tp K F H v (.int n)) : v = .int n := by
  rcases h with r | ⟨_, _, _, _, c⟩
  · cases r; rfl
  · exact c.elim
theorem Tp.str {F H : Hp} {v : V} {z : Str} (h : Tp K F H v (.str z)) : v = .str z ∧ SOk z := by
  rcases h with r | ⟨_, _, _, _, c⟩
  · cases r with | str h => exact ⟨rfl, h⟩
  · exact c.elim
theorem si_r1 {m : Mo} {ta : TA} {a : WA} (h : SimA K W [m] ta a) : SimI K W (iRng1 ta) (wIR1 a) := fun F0 H0 σ F H env Qp Xp Rr g hw hx q =>
  h F0 H0 σ F H env _ Xp _ g hw hx fun F1 H1 vs xs m1 r h1 => by
    obtain ⟨v, x, rfl, rfl, t⟩ := AL.one r
    split at h1
    · rename_i j e
      cases e
      obtain rfl := t.int
      exact ⟨j, rfl, h1.1, h1.2.1, q F1 H1 _ _ m1 (wkd_rng fun _ _ o => o.2.1) h1.2.2⟩
    · exact h1.elim
theorem si_r2 {m m' : Mo} {ta : TA} {a : WA} (h : SimA K W [m, m'] ta a) : SimI K W (iRng2 ta) (wIR2 a) := fun F0 H0 σ F H env Qp Xp Rr g hw hx q =>
  h F0 H0 σ F H env _ Xp _ g hw hx fun F1 H1 vs xs m1 r h1 => by
    obtain ⟨v, vs', x, xs', rfl, rfl, t, r'⟩ := AL.cons r
    obtain ⟨v', x', rfl, rfl, t'⟩ := AL.one r'
    split at h1
    · rename_i i j e
      cases e
      obtain rfl := t.int
      obtain rfl := t'.int
      exact ⟨i, j, rfl, h1.1, q F1 H1 _ _ m1 (wkd_rng fun _ _ o => o.2.1) h1.2⟩
    · exact h1.elim
/-- lo, lo + c, .. -/
def rngC (lo c : Int) (n : Nat) : List P := (List.range n).map fun (i : Nat) => .int (lo + (i : Nat) * c)
theorem rngC_len {lo c : Int} {n : Nat} : (rngC lo c n).length = n := by simp [rngC]
def wIR3 (a : WA) : WI := fun env Q X => a env (fun xs => match xs with
  | [.int i, .int j, .int c] => ∃ n, RgC i j c n ∧ Q (rngC i c n)
  | _ => False) X
theorem si_r3 {m m' m2 : Mo} {ta : TA} {a : WA} (h : SimA K W [m, m', m2] ta a) : SimI K W (iRng3 ta) (wIR3 a) := fun F0 H0 σ F H env Qp Xp Rr g hw hx q =>
  h F0 H0 σ F H env _ Xp _ g hw hx fun F1 H1 vs xs m1 r h1 => by
    obtain ⟨v, vs', x, xs', rfl, rfl, t, r'⟩ := AL.cons r
    obtain ⟨v', vs', x', xs', rfl, rfl, t', r'⟩ := AL.cons r'
    obtain ⟨v2, x2, rfl, rfl, t2⟩ := AL.one r'
    split at h1
    · rename_i i j c e
      cases e
      obtain rfl := t.int
      obtain rfl := t'.int
      obtain rfl := t2.int
      obtain ⟨n, hn, h1⟩ := h1
      refine ⟨i, j, c, n, rfl, hn, q F1 H1 _ _ m1 ⟨fun _ => True, YFn fun t => .int (i + (t : Nat) * c), by rw [rngC_len]; exact walk_rangeC, fun _ _ _ => trivial, fun t F2 H2 v H3 hi o y => ?_⟩ h1⟩
      obtain ⟨rfl, rfl⟩ := y
      rw [rngC_len] at hi
      exact ⟨_, F2, by simp [rngC, hi], .refl o.2.1, .int _⟩
    · exact h1.elim
/-- pairs (i, x) -/
def enumP (xs : List P) : List P := (List.range xs.length).zipWith (fun (i : Nat) x => .tup [.int (i : Int), x]) xs
theorem enumP_len {xs : List P} : (enumP xs).length = xs.length := by simp [enumP]
theorem enumP_at {xs : List P} {i : Nat} {x : P} (h : xs[i]? = some x) : (enumP xs)[i]? = some (.tup [.int (i : Int), x]) := by
  have hi := (List.getElem?_eq_some_iff.mp h).1
  simp [enumP, List.getElem?_zipWith, hi]; exact (List.getElem?_eq_some_iff.mp h).2
theorem pair_mv {F H : Hp} {T : Addr} {v w : V} {x y : P} (s : Same F H) (n : H T = none) (r : R K F v x) (r' : R K F w y) : ∃ F2, Mv F H F2 (upd H T (.tup [v, w])) ∧ R K F2 (.ref T) (.tup [x, y]) := by
  have m := mv_frz (o := .tup [v, w]) s n
  exact ⟨_, m, .tup upd_same (.cons (r.mono m.e.1) (.cons (r'.mono m.e.1) .nil))⟩
def wIE (a : WA) : WI := fun env Q X => a env (fun xs => match xs with
  | [.lst xs] => Q (enumP xs)
  | _ => False) X
theorem wkd_enum {ok : Hp → Hp → Prop} {a : Addr} {vs : List V} {xs : List P} (hg : ∀ F1 H1, ok F1 H1 → SqL K H1 a vs ∧ RL K F1 vs xs ∧ Same F1 H1) (hl : vs.length = xs.length) : Wkd K ok (Ite K a) (enumP xs) := by
  refine ⟨fun H => SqL K H a vs, _, by rw [enumP_len, ← hl]; exact walk_enum, fun F1 H1 o => (hg F1 H1 o).1, fun i F1 H1 v H2 hi o y => ?_⟩
  obtain ⟨T, u, w, rfl, n, rfl, e1, e2⟩ := y
  obtain ⟨_, r, s⟩ := hg F1 _ o
  cases e1
  obtain ⟨x, e, rx⟩ := r.get e2
  obtain ⟨F2, m, r2⟩ := pair_mv s n (.int (i : Int)) rx
  exact ⟨_, F2, enumP_at e, m, r2⟩
theorem AL.v1 {F H : Hp} {ms : List Mo} {vs : List V} {xs : List P} (h : AL K F H (.v :: ms) vs xs) : ∃ v vs' x xs', vs = v :: vs' ∧ xs = x :: xs' ∧ R K F v x ∧ AL K F H ms vs' xs' := by
  cases vs <;> cases xs <;> first
    | exact h.elim
    | exact ⟨_, _, _, _, rfl, rfl, h.1, h.2⟩
theorem si_enum {ta : TA} {a : WA} (h : SimA K W [.v] ta a) : SimI K W (iEnum K ta) (wIE a) := fun F0 H0 σ F H env Qp Xp Rr g hw hx q =>
  h F0 H0 σ F H env _ Xp _ g hw hx fun F1 H1 vs xs m1 r h1 => by
    obtain ⟨v, vs', x, xs', rfl, rfl, t, r'⟩ := AL.v1 r
    obtain ⟨rfl, rfl⟩ := AL.nil r'
    split at h1
    · rename_i ys e
      cases e
      cases t with
      | lst hf rl => exact ⟨_, _, rfl, SqL.of (m1.fh _ _ hf), q F1 H1 _ _ m1 (wkd_enum (fun F2 H2 o => ⟨SqL.of (o.2.1 _ _ (o.1 _ _ hf)), rl.mono o.1, o.2.1⟩) rl.len) h1⟩
    · exact h1.elim
theorem si_enumc {m : Mo} {ta : TA} {a : WA} (h : SimA K W [m] ta a) : SimIc K W (iEnum K ta) (wIE a) := fun F0 H0 σ F H env Qp Xp Rr g hw hx q =>
  h F0 H0 σ F H env _ Xp _ g hw hx fun F1 H1 vs xs m1 r h1 => by
    obtain ⟨v, x, rfl, rfl, t⟩ := AL.one r
    split at h1
    · rename_i ys e
      cases e
      obtain ⟨b, ws, rfl, hb, rl⟩ := Tp.lst m1.fh t
      exact ⟨_, _, rfl, SqL.of hb, q F1 H1 _ _ m1 (wkd_enum (fun F2 H2 o => ⟨SqL.of (o.s _ _ hb), rl.mono o.e.1, o.fh⟩) rl.len) h1⟩
    · exact h1.elim
def zipP (xs ys : List P) : List P := List.zipWith (fun x y => .tup [x, y]) xs ys
theorem zipP_len {xs ys : List P} : (zipP xs ys).length = min xs.length ys.length := by simp [zipP]
theorem zipP_at {xs ys : List P} {i : Nat} {x y : P} (h : xs[i]? = some x) (h' : ys[i]? = some y) : (zipP xs ys)[i]? = some (.tup [x, y]) := by
  simp [zipP, List.getElem?_zipWith, h, h']
def wIZ (a : WA) : WI := fun env Q X => a env (fun xs => match xs with
  | [.lst xs, .lst ys] => Q (zipP xs ys)
  | _ => False) X
theorem wkd_zip {ok : Hp → Hp → Prop} {a b : Addr} {vs ws : List V} {xs ys : List P} (hg : ∀ F1 H1, ok F1 H1 → SqL K H1 a vs ∧ SqL K H1 b ws ∧ RL K F1 vs xs ∧ RL K F1 ws ys ∧ Same F1 H1) (hl : vs.length = xs.length) (hl' : ws.length = ys.length) : Wkd K ok (Itz K a b) (zipP xs ys) := by
  refine ⟨fun H => SqL K H a vs ∧ SqL K H b ws, _, by rw [zipP_len, ← hl, ← hl']; exact walk_zip rfl, fun F1 H1 o => ⟨(hg F1 H1 o).1, (hg F1 H1 o).2.1⟩, fun i F1 H1 v H2 hi o y => ?_⟩
  obtain ⟨T, u, w, rfl, n, rfl, e1, e2⟩ := y
  obtain ⟨_, _, r, r', s⟩ := hg F1 _ o
  obtain ⟨x, e, rx⟩ := r.get e1
  obtain ⟨y, e', ry⟩ := r'.get e2
  obtain ⟨F2, m, r2⟩ := pair_mv s n rx ry
  exact ⟨_, F2, zipP_at e e', m, r2⟩
theorem si_zip {ta : TA} {a : WA} (h : SimA K W [.v, .v] ta a) : SimI K W (iZip K ta) (wIZ a) := fun F0 H0 σ F H env Qp Xp Rr g hw hx q =>
  h F0 H0 σ F H env _ Xp _ g hw hx fun F1 H1 vs xs m1 r h1 => by
    obtain ⟨v, vs', x, xs', rfl, rfl, t, r'⟩ := AL.v1 r
    obtain ⟨v', vs', x', xs', rfl, rfl, t', r'⟩ := AL.v1 r'
    obtain ⟨rfl, rfl⟩ := AL.nil r'
    split at h1
    · rename_i ys zs e
      cases e
      cases t with
      | lst hf rl => cases t' with
        | lst hf' rl' => exact ⟨_, _, _, _, rfl, SqL.of (m1.fh _ _ hf), SqL.of (m1.fh _ _ hf'), q F1 H1 _ _ m1 (wkd_zip (fun F2 H2 o => ⟨SqL.of (o.2.1 _ _ (o.1 _ _ hf)), SqL.of (o.2.1 _ _ (o.1 _ _ hf')), rl.mono o.1, rl'.mono o.1, o.2.1⟩) rl.len rl'.len) h1⟩
    · exact h1.elim
theorem si_zipc {m m' : Mo} {ta : TA} {a : WA} (h : SimA K W [m, m'] ta a) : SimIc K W (iZip K ta) (wIZ a) := fun F0 H0 σ F H env Qp Xp Rr g hw hx q =>
  h F0 H0 σ F H env _ Xp _ g hw hx fun F1 H1 vs xs m1 r h1 => by
    obtain ⟨v, vs', x, xs', rfl, rfl, t, r'⟩ := AL.cons r
    obtain ⟨v', x', rfl, rfl, t'⟩ := AL.one r'
    split at h1
    · rename_i ys zs e
      cases e
      obtain ⟨b, ws, rfl, hb, rl⟩ := Tp.lst m1.fh t
      obtain ⟨b', ws', rfl, hb', rl'⟩ := Tp.lst m1.fh t'
      exact ⟨_, _, _, _, rfl, SqL.of hb, SqL.of hb', q F1 H1 _ _ m1 (wkd_zip (fun F2 H2 o => ⟨SqL.of (o.s _ _ hb), SqL.of (o.s _ _ hb'), rl.mono o.e.1, rl'.mono o.e.1, o.fh⟩) rl.len rl'.len) h1⟩
    · exact h1.elim
/-- a text, sign by sign -/
def signsP (z : Str) : List P := z.cps.toList.map fun c => .str ⟨#[c]⟩
def wIS (a : WE) : WI := fun env Q X => a env (fun x => match x with
  | .str z => Q (signsP z)
  | _ => False) X
theorem sok_one {z : Str} (h : SOk z) {i c : Nat} (e : z.cps[i]? = some c) : SOk (⟨#[c]⟩ : Str) := by
  refine ⟨by show 1 ≤ sizeLine; decide, fun d hd => ?_⟩
  have : d = c := by simpa using hd
  subst this
  exact h.2 d (by rw [← Array.getElem?_toList] at e; exact List.mem_of_getElem? e)
theorem si_str {te : TE} {a : WE} (h : SE K W .C te a) : SimI K W (iStr te) (wIS a) := fun F0 H0 σ F H env Qp Xp Rr g hw hx q =>
  h F0 H0 σ F H env _ Xp _ g hw hx fun F1 H1 v x m r h1 => by
    split at h1
    · rename_i z
      obtain ⟨rfl, hz⟩ := r.str
      have hl : (signsP z).length = z.cps.size := by simp [signsP]
      refine ⟨z, rfl, q F1 H1 _ _ m ⟨fun _ => True, _, by rw [hl]; exact walk_str, fun _ _ _ => trivial, fun i F2 H2 v H3 hi o y => ?_⟩ h1⟩
      obtain ⟨rfl, c, hc, rfl⟩ := y
      refine ⟨.str ⟨#[c]⟩, F2, ?_, .refl o.2.1, .str (sok_one hz hc)⟩
      rw [← Array.getElem?_toList] at hc
      simp [signsP, hc]
    · exact h1.elim
/-! #### for, while, comprehensions -/
def wFor (wi : WI) (g : P → PEnv → (PEnv → Prop) → Prop) (b : WS) : WS := fun D env => wi env (fun xs => ∃ Inv : Nat → PEnv → Prop, Inv 0 env ∧
  (∀ i x e, xs[i]? = some x → Inv i e → g x e fun e2 => b { D with nx := Inv (i + 1), ct := Inv (i + 1), bk := D.nx } e2) ∧ ∀ e, Inv xs.length e → D.nx e) (D.ex env)
theorem ss_for {ts : List Nat} {wi : TI} {a : WI} {g : TG} {gw : P → PEnv → (PEnv → Prop) → Prop} {tb : TS} {b : WS} (hi : SimI K W wi a) (hg : SimG K ts g gw) (hb : SS K W ro tb b) : SS K W ro (tFor wi g tb) (wFor a gw b) := fun F0 H0 σ F H env Dp D gd hw d x => by
  refine hi F0 H0 σ F H env _ _ _ gd hw (x.x gd) fun F1 H1 J xs m wk h => ?_
  obtain ⟨Inv, h0, hs, hd⟩ := h
  have g1 := gd.mv m
  have d1 : DOk K ro F1 H0 Dp D := d.base g1.e
  have x1 : WOk K W F1 H0 Dp.ex := x.base g1.e
  obtain ⟨G, Y, w, okG, okY⟩ := wk
  refine for_it w (fun i σ' H' => ∃ F' e, Good K F1 H0 σ' F' H' e ∧ Inv i e) ⟨F1, env, g1.base, h0⟩ (fun i σ' H' _ ⟨F', e, g', _⟩ => okG F' H' ⟨g'.e.1, g'.fh, g'.hh⟩) (fun i v σ' H' H2 hi ⟨F', e, g', hI⟩ y => ?_) (fun σ' H' ⟨F', e, g', hI⟩ => d1.1 σ' F' H' e g' (hd e hI))
  obtain ⟨y, F2, ey, m2, r2⟩ := okY i F' H' v H2 hi ⟨g'.e.1, g'.fh, g'.hh⟩ y
  refine hg F1 H0 σ' F2 H2 e v y _ _ (g'.mv m2) r2 (hs i y e ey hI) fun σ3 e3 g3 _ h3 => ?_
  exact hb F1 H0 σ3 F2 H2 e3 _ _ g3 h3 ⟨fun σ4 F4 H4 e4 g4 h4 => ⟨F4, e4, g4, h4⟩, d1.2.1, fun σ4 F4 H4 e4 g4 h4 => d1.1 σ4 F4 H4 e4 g4 h4, fun σ4 F4 H4 e4 g4 h4 => ⟨F4, e4, g4, h4⟩⟩ x1
def wWhile (c : WT) (b : WS) : WS := fun D env => ∃ Inv : Nat → PEnv → Prop, (∃ m, Inv m env) ∧ ∀ m e, Inv m e → c e (fun t => if t = true then b { D with nx := fun e2 => ∃ m', m' < m ∧ Inv m' e2, ct := fun e2 => ∃ m', m' < m ∧ Inv m' e2, bk := D.nx } e else D.nx e) (D.ex e)
theorem ss_while {tc : TT} {c : WT} {tb : TS} {b : WS} (hc : ST K W tc c) (hb : SS K W ro tb b) : SS K W ro (tWhile tc tb) (wWhile c b) := fun F0 H0 σ F H env Dp D gd ⟨Iv, ⟨m0, h0⟩, hs⟩ d x => by
  refine ⟨fun m σ' H' => ∃ F' e, Good K F0 H0 σ' F' H' e ∧ Iv m e, ⟨m0, F, env, gd, h0⟩, ?_⟩
  rintro m σ' H' ⟨F', e, g', hI⟩
  refine hc F0 H0 σ' F' H' e _ _ _ g' (hs m e hI) (x.x g') fun F1 H1 t m1 h1 => ?_
  have g1 := g'.mv m1
  cases t with
  | true =>
    rw [if_pos rfl] at h1 ⊢
    refine ⟨fun σ2 H2 => ∃ F2 e2, Good K F0 H0 σ2 F2 H2 e2 ∧ ∃ m', m' < m ∧ Iv m' e2, fun σ2 H2 ⟨F2, e2, g2, m', hm, h2⟩ => ⟨m', hm, F2, e2, g2, h2⟩, ?_⟩
    exact hb F0 H0 σ' F1 H1 e _ _ g1 h1 ⟨fun σ4 F4 H4 e4 g4 h4 => ⟨F4, e4, g4, h4⟩, d.2.1, fun σ4 F4 H4 e4 g4 h4 => d.1 σ4 F4 H4 e4 g4 h4, fun σ4 F4 H4 e4 g4 h4 => ⟨F4, e4, g4, h4⟩⟩ x
  | false =>
    rw [if_neg Bool.false_ne_true] at h1 ⊢
    exact d.1 σ' F1 H1 e g1 h1
/-! comprehensions -/
def wipeP (env : PEnv) : List Nat → PEnv
  | [] => env
  | v :: vs => (wipeP env vs).set v none
theorem Good.wipe {F0 H0 F H : Hp} {σ : L2.St} {env : PEnv} (g : Good K F0 H0 σ F H env) : ∀ vs : List Nat, Good K F0 H0 (wipe σ vs) F H (wipeP env vs)
  | [] => g
  | v :: vs => (Good.wipe g vs).drop v none
theorem wipe_at {σ : L2.St} {j : Nat} : ∀ {vs : List Nat}, (wipe σ vs)[j]? = if j ∈ vs ∧ j < σ.length then some none else σ[j]?
  | [] => by simp [wipe]
  | v :: vs => by
    unfold wipe
    by_cases e : v = j
    · subst e
      by_cases hv : v < σ.length
      · rw [List.getElem?_set_self (by rw [wipe_length]; exact hv), if_pos ⟨List.mem_cons_self, hv⟩]
      · rw [List.getElem?_eq_none (by rw [List.length_set, wipe_length]; omega), if_neg (fun z => hv z.2), List.getElem?_eq_none (by omega)]
    · rw [List.getElem?_set_ne e, wipe_at (vs := vs)]
      by_cases h : j ∈ vs ∧ j < σ.length
      · rw [if_pos h, if_pos ⟨List.mem_cons_of_mem _ h.1, h.2⟩]
      · rw [if_neg h, if_neg (fun z => h ⟨(List.mem_cons.mp z.1).resolve_left (fun y => e y.symm), z.2⟩)]
theorem wipe_off {σ σ2 : L2.St} {ts vs : List Nat} (o : Off ts (wipe σ vs) σ2) (h : ∀ t, t ∈ ts → t ∈ vs) : wipe σ2 vs = wipe σ vs := by
  refine List.ext_getElem? fun j => ?_
  have hl : σ2.length = σ.length := by rw [o.1, wipe_length]
  rw [wipe_at, hl]
  by_cases hj : j ∈ vs ∧ j < σ.length
  · rw [if_pos hj, wipe_at, if_pos hj]
  · rw [if_neg hj]
    by_cases hm : j ∈ ts
    · have hv := h j hm
      have hn : ¬ j < σ.length := fun z => hj ⟨hv, z⟩
      rw [List.getElem?_eq_none (by omega), List.getElem?_eq_none (by rw [wipe_length]; omega)]
    · exact o.2 j hm
def noX' : XP := fun _ _ _ => False
abbrev noW : WX := fun _ _ _ _ => False
theorem noX_ok {σ : L2.St} {F H : Hp} : XOk K noW σ F H noX' := fun _ _ _ _ _ _ _ _ h => h
def wLc (wi : WI) (g : P → PEnv → (PEnv → Prop) → Prop) (tt : WT) (te : WE) (vs : List Nat) : WE := fun env Q X => wi env (fun xs => ∃ Inv : Nat → List P → Prop, Inv 0 [] ∧
  (∀ i x acc, xs[i]? = some x → Inv i acc → g x (wipeP env vs) fun e => tt e (fun b => if b = true then te e (fun y => acc.length < sizeLine ∧ Inv (i + 1) (acc ++ [y])) noX' else Inv (i + 1) acc) noX') ∧
  ∀ acc, Inv xs.length acc → Q (.lst acc)) X
theorem se_lc {ts vs : List Nat} {wi : TI} {a : WI} {g : TG} {gw : P → PEnv → (PEnv → Prop) → Prop} {tt : TT} {te : TE} {wt : WT} {we : WE} (hi : SimIc K W wi a) (hg : SimG K ts g gw) (ht : ST K noW tt wt) (he : SE K noW .V te we) (hv : ∀ t, t ∈ ts → t ∈ vs) :
    SE K W .O (tLc wi g tt te vs) (wLc a gw wt we vs) := fun F0 H0 σ F H env Qp Xp Q gd hw hx q => by
  refine hi F0 H0 σ F H env _ Xp _ gd hw hx fun F1 H1 J xs m wk h D nD => ?_
  obtain ⟨Iv, h0, hs, hd⟩ := h
  have g1 := (gd.mv m).wipe vs
  obtain ⟨G, Y, w, okG, okY⟩ := wk
  -- the heap with the list at D
  have keep : ∀ {F' H' o}, Mv F1 H1 F' H' → F' D = none → Mv F1 H1 F' (upd H' D o) := fun m' n' =>
    ⟨m'.e, fun b u e => by rw [upd_ne (ne_of_none e nD)]; exact m'.s _ _ e, same_put m'.fh n'⟩
  refine lc_it w (fun i H' => ∃ F' acc ws, Mv F1 H1 F' H' ∧ F' D = none ∧ H' D = some (.lst ws) ∧ RL K F' ws acc ∧ Iv i acc) ⟨F1, [], [], mv_new m.fh nD, same_free m.fh nD, upd_same, .nil, h0⟩
    (fun i H' _ ⟨F', acc, ws, m', _⟩ => okG F' H' m') (fun i v H' H2 hi2 ⟨F', acc, ws, m', nf, hD, r, hI⟩ y => ?_) (fun H' ⟨F', acc, ws, m', nf, hD, r, hI⟩ => q F' H' (.ref D) (.lst acc) (m.trans m') (.inl ⟨D, _, rfl, m.s.free nD, nf, hD, .l r⟩) (hd acc hI))
  obtain ⟨y, F2, ey, m2, r2⟩ := okY i F' H' v H2 hi2 m' y
  refine hg F0 H0 (wipe σ vs) F2 H2 (wipeP env vs) v y _ _ ((g1.mv m').mv m2) r2 (hs i y acc ey hI) fun σ3 e3 g3 o3 h3 => ⟨wipe_off o3 hv, ?_⟩
  refine ht F0 H0 σ3 F2 H2 e3 _ _ _ g3 h3 noX_ok fun F3 H3 b m3 h4 => ?_
  have m13 := (m'.trans m2).trans m3
  have n3 : F3 D = none := ((m2.trans m3).e.2 _ _ hD).trans nf
  have hD3 := (m2.trans m3).s _ _ hD
  have r3 := r.mono (m2.trans m3).e.1
  cases b with
  | true =>
    rw [if_pos rfl] at h4 ⊢
    refine he F0 H0 σ3 F3 H3 e3 _ _ _ (g3.mv m3) h4 noX_ok fun F4 H4 u z m4 r4 h5 => ?_
    exact ⟨ws, m4.s _ _ hD3, by rw [r.len]; exact h5.1, F4, acc ++ [z], ws ++ [u], keep (m13.trans m4) ((m4.e.2 _ _ hD3).trans n3), (m4.e.2 _ _ hD3).trans n3, upd_same, (r3.mono m4.e.1).app (.cons r4 .nil), h5.2⟩
  | false =>
    rw [if_neg Bool.false_ne_true] at h4 ⊢
    exact ⟨F3, acc, ws, m13, n3, hD3, r3, h4⟩
end
end Pf

namespace Pf
open PySem PySem.Spec PyProof.Rows L2
section
variable {K : PySem.W.Frag} {W : WX} {k : Rk} {ro : Bool}
/-! #### operators on ints, truths -/
def fI (f : Int → Int → Int) : PF2 := fun x y Q => onInt x fun i => onInt y fun j => Q (.int (f i j))
def fB (p : Int → Int → Bool) : PF2 := fun x y Q => onInt x fun i => onInt y fun j => Q (.bl (p i j))
def fIc (C : Int → Int → Prop) (f : Int → Int → Int) : PF2 := fun x y Q => onInt x fun i => onInt y fun j => C i j ∧ Q (.int (f i j))
theorem os_i {f : Int → Int → Int} : OpS K .V (rI0 fun i j => .int (f i j)) (fI f) := fun F H v w x y Qp Q s r r' h q => by
  obtain ⟨i, rfl, rfl, h⟩ := onInt_of r h
  obtain ⟨j, rfl, rfl, h⟩ := onInt_of r' h
  exact ⟨i, j, rfl, rfl, q F H _ _ (.refl s) (R.int _) h⟩
theorem os_b {p : Int → Int → Bool} : OpS K .V (rI0 fun i j => .bl (p i j)) (fB p) := fun F H v w x y Qp Q s r r' h q => by
  obtain ⟨i, rfl, rfl, h⟩ := onInt_of r h
  obtain ⟨j, rfl, rfl, h⟩ := onInt_of r' h
  exact ⟨i, j, rfl, rfl, q F H _ _ (.refl s) (R.bl _) h⟩
theorem os_ic {C : Int → Int → Prop} {f : Int → Int → Int} : OpS K .V (rI C fun i j => .int (f i j)) (fIc C f) := fun F H v w x y Qp Q s r r' h q => by
  obtain ⟨i, rfl, rfl, h⟩ := onInt_of r h
  obtain ⟨j, rfl, rfl, h⟩ := onInt_of r' h
  exact ⟨i, j, rfl, rfl, h.1, q F H _ _ (.refl s) (R.int _) h.2⟩
theorem os_add : OpS K .V rAdd (fI fun i j => i + j) := fun F H v w x y Qp Q s r r' h q => by
  obtain ⟨i, rfl, rfl, h⟩ := onInt_of r h
  obtain ⟨j, rfl, rfl, h⟩ := onInt_of r' h
  exact ⟨i, j, rfl, rfl, q F H _ _ (.refl s) (R.int _) h⟩
theorem os_sub : OpS K .V rSub (fI fun i j => i - j) := fun F H v w x y Qp Q s r r' h q => by
  obtain ⟨i, rfl, rfl, h⟩ := onInt_of r h
  obtain ⟨j, rfl, rfl, h⟩ := onInt_of r' h
  exact ⟨i, j, rfl, rfl, q F H _ _ (.refl s) (R.int _) h⟩
theorem us_i {f : Int → Int} : UnS K .V (rU fun i => .int (f i)) (fun x Q => onInt x fun i => Q (.int (f i))) := fun F H v x Qp Q s r h q => by
  obtain ⟨i, rfl, rfl, h⟩ := onInt_of r h
  exact ⟨i, rfl, q F H _ _ (.refl s) (R.int _) h⟩
/-- == of scalars -/
def scP : P → P → Option Bool
  | .int a, .int b => some (decide (a = b))
  | .str a, .str b => some (decide (a = b))
  | .bl a, .bl b => some (decide (a = b))
  | .non, .non => some true
  | .non, .int _ => some false | .int _, .non => some false
  | .non, .str _ => some false | .str _, .non => some false
  | .int _, .str _ => some false | .str _, .int _ => some false
  | _, _ => none
def fEq : PF2 := fun x y Q => ∃ b, scP x y = some b ∧ Q (.bl b)
def fNe : PF2 := fun x y Q => ∃ b, scP x y = some b ∧ Q (.bl !b)
theorem Tp.sc {F H : Hp} {v : V} {x : P} (h : Tp K F H v x) : (x = .non → v = .non) ∧ (∀ b, x = .bl b → v = .bl b) ∧ (∀ b, x = .int b → v = .int b) ∧ (∀ b, x = .str b → v = .str b) := by
  rcases h with r | ⟨_, _, _, _, c⟩
  · cases r <;> simp
  · cases x <;> simp <;> exact c.elim
theorem sc_of {F H : Hp} {v w : V} {x y : P} {b : Bool} (r : Tp K F H v x) (r' : Tp K F H w y) (h : scP x y = some b) : scal v w = true ∧ decide (v = w) = b := by
  have a := r.sc
  have a' := r'.sc
  cases x <;> cases y <;> first
    | (cases h; done)
    | (cases h
       first | rw [a.1 rfl] | rw [a.2.1 _ rfl] | rw [a.2.2.1 _ rfl] | rw [a.2.2.2 _ rfl]
       first | rw [a'.1 rfl] | rw [a'.2.1 _ rfl] | rw [a'.2.2.1 _ rfl] | rw [a'.2.2.2 _ rfl]
       simp [scal])
theorem os_eq : OpS K .V rEq fEq := fun F H v w x y Qp Q s r r' ⟨b, e, h⟩ q => by
  obtain ⟨h1, h2⟩ := sc_of r r' e
  refine ⟨h1, ?_⟩
  rw [h2]
  exact q F H _ _ (.refl s) (R.bl _) h
theorem os_ne : OpS K .V rNe fNe := fun F H v w x y Qp Q s r r' ⟨b, e, h⟩ q => by
  obtain ⟨h1, h2⟩ := sc_of r r' e
  refine ⟨h1, ?_⟩
  rw [h2]
  exact q F H _ _ (.refl s) (R.bl _) h
def isNon : P → Bool
  | .non => true
  | _ => false
theorem isNon_of {F H : Hp} {v : V} {x : P} (r : Tp K F H v x) : decide (v = .non) = isNon x := by
  rcases r with r | ⟨_, _, rfl, _, c⟩
  · cases r <;> simp [isNon]
  · cases x <;> first | exact c.elim | simp [isNon]
def fIsN : PF2 := fun x y Q => isNon y = true ∧ Q (.bl (isNon x))
def fNotN : PF2 := fun x y Q => isNon y = true ∧ Q (.bl !(isNon x))
theorem os_isN : OpS K .V (fun x y H Q => y = .non ∧ Q (.bl (decide (x = .non))) H) fIsN := fun F H v w x y Qp Q s r r' ⟨e, h⟩ q => by
  refine ⟨of_decide_eq_true ((isNon_of r').trans e), ?_⟩
  rw [isNon_of r]
  exact q F H _ _ (.refl s) (R.bl _) h
theorem os_notN : OpS K .V (fun x y H Q => y = .non ∧ Q (.bl (!decide (x = .non))) H) fNotN := fun F H v w x y Qp Q s r r' ⟨e, h⟩ q => by
  refine ⟨of_decide_eq_true ((isNon_of r').trans e), ?_⟩
  rw [isNon_of r]
  exact q F H _ _ (.refl s) (R.bl _) h
/-! #### == of data -/
mutual
def toD : P → PyData
  | .non => .none
  | .bl b => .bool b
  | .int n => .int n
  | .str z => .str z
  | .tup xs => .tuple (toDs xs)
  | .lst xs => .list (toDs xs)
  | _ => .none
def toDs : List P → List PyData
  | [] => []
  | x :: xs => toD x :: toDs xs
end
mutual
def datB : P → Bool
  | .non => true
  | .bl _ => true
  | .int _ => true
  | .str _ => true
  | .tup xs => datBs xs
  | .lst xs => datBs xs
  | _ => false
def datBs : List P → Bool
  | [] => true
  | x :: xs => datB x && datBs xs
end
theorem strOk_of {z : Str} (h : SOk z) : PyData.strOk z = true := by
  unfold PyData.strOk
  rw [Array.all_eq_true']
  intro c hc
  exact decide_eq_true (h.2 c (Array.mem_toList_iff.mpr hc))
mutual
theorem R.dp {F H : Hp} (s : Same F H) : ∀ {v : V} {x : P}, datB x = true → R K F v x → Dp K H v (toD x) ∧ PyData.canLay0 (toD x) = true
  | _, _, _, .non => ⟨.non, rfl⟩
  | _, _, _, .bl b => ⟨.bl b, rfl⟩
  | _, _, _, .int n => ⟨.int n, rfl⟩
  | _, _, _, .str h => ⟨.str _, strOk_of h⟩
  | _, _, d, .tup h r => by
    rw [datB] at d
    obtain ⟨a, b⟩ := RL.dp s d r
    rw [toD]
    exact ⟨.tup (SqT.of (s _ _ h)) a, b⟩
  | _, _, d, .lst h r => by
    rw [datB] at d
    obtain ⟨a, b⟩ := RL.dp s d r
    rw [toD]
    exact ⟨.lst (SqL.of (s _ _ h)) a, b⟩
  | _, .dct _ _, d, _ => by cases d
  | _, .ins _ _ _, d, _ => by cases d
  | _, .slf _ _ _ _, d, _ => by cases d
  | _, .scr _, d, _ => by cases d
  | _, .rng _ _, d, _ => by cases d
  | _, .dtt _ _, d, _ => by cases d
  | _, .adr _, d, _ => by cases d
  | _, .ty _, d, _ => by cases d
  | _, .exc _ _ _ _ _, d, _ => by cases d
theorem RL.dp {F H : Hp} (s : Same F H) : ∀ {vs : List V} {xs : List P}, datBs xs = true → RL K F vs xs → DpAll K H vs (toDs xs) ∧ PyData.canLayAll0 (toDs xs) = true
  | _, _, _, .nil => ⟨.nil, rfl⟩
  | _, _, d, .cons h r => by
    rw [datBs, Bool.and_eq_true] at d
    obtain ⟨a, b⟩ := R.dp s d.1 h
    obtain ⟨a', b'⟩ := RL.dp s d.2 r
    rw [toDs]
    refine ⟨.cons a a', ?_⟩
    rw [PyData.canLayAll0, b, b']
    rfl
end
def shP (x : P) : Bool := datB x && decide ((toD x).depth ≤ 64)
theorem shP_of {F H : Hp} {v : V} {x : P} (s : Same F H) (r : Tp K F H v x) (h : shP x = true) : Dp K H v (toD x) ∧ SeqAt.shaped (toD x) = true := by
  unfold shP at h
  rw [Bool.and_eq_true] at h
  have key : Dp K H v (toD x) ∧ PyData.canLay0 (toD x) = true := by
    rcases r with r | ⟨a, o, rfl, ha, c⟩
    · exact R.dp s h.1 r
    · cases x with
      | lst xs =>
        obtain ⟨vs, rfl, r⟩ := c
        have d := h.1
        rw [datB] at d
        obtain ⟨a, b⟩ := RL.dp s d r
        rw [toD]
        exact ⟨.lst (SqL.of ha) a, b⟩
      | dct => exact absurd h.1 (by simp [datB])
      | dtt => exact absurd h.1 (by simp [datB])
      | ins => exact absurd h.1 (by simp [datB])
      | slf => exact absurd h.1 (by simp [datB])
      | _ => exact c.elim
  refine ⟨key.1, ?_⟩
  unfold SeqAt.shaped
  rw [key.2, h.2]
  rfl
def eqP (x y : P) : Bool := PyData.eqv (toD x) (toD y)
def fEqD : PF2 := fun x y Q => shP x = true ∧ shP y = true ∧ Q (.bl (eqP x y))
def fNeD : PF2 := fun x y Q => shP x = true ∧ shP y = true ∧ Q (.bl !(eqP x y))
theorem os_eqD : OpS K .V (rEqD K) fEqD := fun F H v w x y Qp Q s r r' ⟨h1, h2, h⟩ q => by
  obtain ⟨a, b⟩ := shP_of s r h1
  obtain ⟨a', b'⟩ := shP_of s r' h2
  exact ⟨_, _, a, a', b, b', q F H _ _ (.refl s) (R.bl _) h⟩
theorem os_neD : OpS K .V (rNeD K) fNeD := fun F H v w x y Qp Q s r r' ⟨h1, h2, h⟩ q => by
  obtain ⟨a, b⟩ := shP_of s r h1
  obtain ⟨a', b'⟩ := shP_of s r' h2
  exact ⟨_, _, a, a', b, b', q F H _ _ (.refl s) (R.bl _) h⟩
/-! #### texts -/
def onStr (x : P) (Q : Str → Prop) : Prop := match x with
  | .str z => Q z
  | _ => False
theorem onStr_of {F H : Hp} {v : V} {x : P} {Q : Str → Prop} (r : Tp K F H v x) (h : onStr x Q) : ∃ z, v = .str z ∧ x = .str z ∧ SOk z ∧ Q z := by
  cases x with
  | str z => obtain ⟨e, s⟩ := r.str; exact ⟨z, e, rfl, s, h⟩
  | _ => exact h.elim
theorem sok_app {a b : Str} (ha : SOk a) (hb : SOk b) (h : a.length + b.length ≤ sizeLine) : SOk (a ++ b) := by
  have e : (a ++ b).cps.toList = a.cps.toList ++ b.cps.toList := by
    show (a.cps ++ b.cps).toList = _
    simp
  refine ⟨?_, fun c hc => ?_⟩
  · have : (a ++ b).length = a.length + b.length := by
      show (a.cps ++ b.cps).size = a.cps.size + b.cps.size
      simp
    rw [this]; exact h
  · rw [e] at hc
    rcases List.mem_append.mp hc with h | h
    · exact ha.2 c h
    · exact hb.2 c h
def fAddS : PF2 := fun x y Q => onStr x fun a => onStr y fun b => a.length + b.length ≤ sizeLine ∧ Q (.str (a ++ b))
theorem os_addS : OpS K .V (fun x y H Q => ∃ i j, x = .str i ∧ y = .str j ∧ i.length + j.length ≤ sizeLine ∧ Q (.str (i ++ j)) H) fAddS := fun F H v w x y Qp Q s r r' h q => by
  obtain ⟨a, rfl, rfl, sa, h⟩ := onStr_of r h
  obtain ⟨b, rfl, rfl, sb, h⟩ := onStr_of r' h
  exact ⟨a, b, rfl, rfl, h.1, q F H _ _ (.refl s) (R.str (sok_app sa sb h.1)) h.2⟩
def fSB (p : Str → Str → Bool) : PF2 := fun x y Q => onStr x fun a => onStr y fun b => Q (.bl (p a b))
theorem os_sb {p : Str → Str → Bool} : OpS K .V (fun x y H Q => ∃ i j, x = .str i ∧ y = .str j ∧ Q (.bl (p i j)) H) (fSB p) := fun F H v w x y Qp Q s r r' h q => by
  obtain ⟨a, rfl, rfl, sa, h⟩ := onStr_of r h
  obtain ⟨b, rfl, rfl, sb, h⟩ := onStr_of r' h
  exact ⟨a, b, rfl, rfl, q F H _ _ (.refl s) (R.bl _) h⟩
def fSgn (p : Nat → Str → Bool) : PF2 := fun x y Q => ∃ c z, x = .str ⟨#[c]⟩ ∧ y = .str z ∧ Q (.bl (p c z))
theorem os_sgn {p : Nat → Str → Bool} : OpS K .V (fun x y H Q => ∃ (c : Nat) (z : Str), x = .str ⟨#[c]⟩ ∧ y = .str z ∧ Q (.bl (p c z)) H) (fSgn p) := fun F H v w x y Qp Q s r r' h q => by
  obtain ⟨c, z, rfl, rfl, h⟩ := h
  exact ⟨c, z, r.str.1, r'.str.1, q F H _ _ (.refl s) (R.bl _) h⟩
theorem sok_cut {z : Str} {lo hi : Option Int} (h : SOk z) : SOk (cutS z lo hi) := by
  have e : (cutS z lo hi).cps.toList = (z.cps.toList.drop (HT.sIx z.length 0 lo)).take (HT.sIx z.length z.length hi - HT.sIx z.length 0 lo) := by unfold cutS; rfl
  refine ⟨?_, fun c hc => ?_⟩
  · show (cutS z lo hi).cps.size ≤ sizeLine
    rw [← Array.length_toList, e]
    have h1 := h.1
    have : z.length = z.cps.toList.length := by rw [Array.length_toList]; rfl
    rw [List.length_take, List.length_drop]
    omega
  · rw [e] at hc
    exact h.2 c (List.mem_of_mem_drop (List.mem_of_mem_take hc))
/-! #### places -/
def fIxL : PF2 := fun x y Q => onLst x fun xs => onInt y fun i => ∃ z, atI xs i = some z ∧ Q z
def fIxT : PF2 := fun x y Q => onTup x fun xs => onInt y fun i => ∃ z, atI xs i = some z ∧ Q z
def fIxS : PF2 := fun x y Q => onStr x fun z => onInt y fun i => ∃ c, atI z.cps.toList i = some c ∧ Q (.str ⟨#[c]⟩)
def fIx : PF2 := fun x y Q => match x with
  | .lst xs => fIxL x y Q
  | .tup xs => fIxT x y Q
  | _ => fIxS x y Q
theorem RL.at {F : Hp} {vs : List V} {xs : List P} {i : Int} {x : P} (r : RL K F vs xs) (h : atI xs i = some x) : ∃ v, atI vs i = some v ∧ R K F v x := by
  unfold atI at h ⊢
  rw [r.len]
  cases e : ixN xs.length i with
  | none => rw [e] at h; cases h
  | some j =>
    rw [e] at h
    exact r.get' (i := j) h
theorem os_ixL : OpS K .V (rIxL K) fIxL := fun F H v w x y Qp Q s r r' h q => by
  obtain ⟨xs, a, vs, rfl, rfl, ha, rl, h⟩ := onLst_of s r h
  obtain ⟨i, rfl, rfl, z, e, h⟩ := onInt_of r' h
  obtain ⟨u, eu, ru⟩ := rl.at e
  exact ⟨a, vs, i, u, rfl, rfl, SqL.of ha, eu, q F H u z (.refl s) ru h⟩
theorem os_ixT : OpS K .V (rIxT K) fIxT := fun F H v w x y Qp Q s r r' h q => by
  obtain ⟨xs, a, vs, rfl, rfl, ha, rl, h⟩ := onTup_of s r h
  obtain ⟨i, rfl, rfl, z, e, h⟩ := onInt_of r' h
  obtain ⟨u, eu, ru⟩ := rl.at e
  exact ⟨a, vs, i, u, rfl, rfl, SqT.of (s _ _ ha), eu, q F H u z (.refl s) ru h⟩
theorem sok_sgn {z : Str} (h : SOk z) {i : Int} {c : Nat} (e : atI z.cps.toList i = some c) : SOk (⟨#[c]⟩ : Str) := by
  refine ⟨by show 1 ≤ sizeLine; decide, fun d hd => ?_⟩
  have : d = c := by simpa using hd
  subst this
  unfold atI at e
  cases q : ixN z.cps.toList.length i with
  | none => rw [q] at e; cases e
  | some j =>
    rw [q] at e
    exact h.2 d (List.mem_of_getElem? (i := j) e)
theorem os_ixS : OpS K .V rIxS fIxS := fun F H v w x y Qp Q s r r' h q => by
  obtain ⟨z, rfl, rfl, sz, h⟩ := onStr_of r h
  obtain ⟨i, rfl, rfl, c, e, h⟩ := onInt_of r' h
  exact ⟨z, i, c, rfl, rfl, sz.1, e, q F H _ _ (.refl s) (R.str (sok_sgn sz e)) h⟩
theorem os_ix : OpS K .V (rIx K) fIx := fun F H v w x y Qp Q s r r' h q => by
  unfold fIx at h
  split at h
  · exact .inl (os_ixL F H v w _ y Qp Q s r r' h q)
  · exact .inr (.inl (os_ixT F H v w _ y Qp Q s r r' h q))
  · exact .inr (.inr (os_ixS F H v w x y Qp Q s r r' h q))
/-- the script -/
def fIxScr : PF2 := fun x y Q => match x with
  | .scr xs => onInt y fun i => ∃ n, atI xs i = some n ∧ Q (.int n)
  | _ => False
theorem atI_map {α β : Type} {f : α → β} {xs : List α} {i : Int} {x : α} (h : atI xs i = some x) : atI (xs.map f) i = some (f x) := by
  unfold atI at h ⊢
  rw [List.length_map]
  cases e : ixN xs.length i with
  | none => rw [e] at h; cases h
  | some j => rw [e] at h; show (xs.map f)[j]? = some (f x); rw [List.getElem?_map, show xs[j]? = some x from h]; rfl
theorem os_ixScr : OpS K .V (rIxL K) fIxScr := fun F H v w x y Qp Q s r r' h q => by
  unfold fIxScr at h
  split at h
  · obtain ⟨i, rfl, rfl, n, e, h⟩ := onInt_of r' h
    rcases r with r | ⟨_, _, _, _, c⟩
    · cases r with
      | scr hs => exact ⟨_, _, i, _, rfl, rfl, s.seq hs, atI_map e, q F H _ _ (.refl s) (R.int n) h⟩
    · exact c.elim
  · exact h.elim
/-! #### lists made of lists -/
def fCat : PF2 := fun x y Q => onLst x fun xs => onLst y fun ys => xs.length + ys.length ≤ sizeLine ∧ Q (.lst (xs ++ ys))
theorem os_cat : OpS K .O rCat fCat := fun F H v w x y Qp Q s r r' h q => by
  obtain ⟨xs, a, vs, rfl, rfl, ha, rl, h⟩ := onLst_of s r h
  obtain ⟨ys, b, ws, rfl, rfl, hb, rl', h⟩ := onLst_of s r' h
  refine ⟨a, b, vs, ws, rfl, rfl, ha, hb, by rw [rl.len, rl'.len]; exact h.1, fun p np => ?_⟩
  exact q F _ _ (.lst (xs ++ ys)) (mv_new s np) (.inl ⟨p, _, rfl, np, same_free s np, upd_same, .l (rl.app rl')⟩) h.2
theorem RL.rep {F : Hp} {vs : List V} {xs : List P} (r : RL K F vs xs) : ∀ n : Nat, RL K F (List.replicate n vs).flatten (List.replicate n xs).flatten
  | 0 => .nil
  | n + 1 => by rw [List.replicate_succ, List.replicate_succ, List.flatten_cons, List.flatten_cons]; exact r.app (RL.rep r n)
def fRep : PF2 := fun x y Q => onLst x fun xs => onInt y fun k => -(2 ^ 63) ≤ k ∧ k < 2 ^ 63 ∧ xs.length * k.toNat ≤ sizeLine ∧ Q (.lst (List.replicate k.toNat xs).flatten)
theorem os_rep : OpS K .O rRep fRep := fun F H v w x y Qp Q s r r' h q => by
  obtain ⟨xs, a, vs, rfl, rfl, ha, rl, h⟩ := onLst_of s r h
  obtain ⟨i, rfl, rfl, h⟩ := onInt_of r' h
  refine ⟨a, i, vs, rfl, rfl, ha, h.1, h.2.1, by rw [rl.len]; exact h.2.2.1, fun p np => ?_⟩
  exact q F _ _ (.lst _) (mv_new s np) (.inl ⟨p, _, rfl, np, same_free s np, upd_same, .l (rl.rep _)⟩) h.2.2.2
def fCatT : PF2 := fun x y Q => onTup x fun xs => onTup y fun ys => xs ≠ [] ∧ xs.length + ys.length ≤ sizeLine ∧ Q (.tup (xs ++ ys))
theorem RL.nil_iff {F : Hp} {vs : List V} {xs : List P} (r : RL K F vs xs) : vs = [] ↔ xs = [] := by
  cases r <;> simp
theorem os_catT : OpS K .V (rCatT K) fCatT := fun F H v w x y Qp Q s r r' h q => by
  obtain ⟨xs, a, vs, rfl, rfl, ha, rl, h⟩ := onTup_of s r h
  obtain ⟨ys, b, ws, rfl, rfl, hb, rl', h1, h2, h⟩ := onTup_of s r' h
  refine ⟨a, b, vs, ws, rfl, rfl, SqT.of (s _ _ ha), SqT.of (s _ _ hb), fun e => h1 (rl.nil_iff.mp e), by rw [rl.len, rl'.len]; exact h2, fun e => ?_, fun _ p np => ?_⟩
  · have e' := rl'.nil_iff.mp e
    subst e'
    rw [List.append_nil] at h
    exact q F H _ _ (.refl s) (R.tup ha rl) h
  · have m := mv_frz (o := .tup (vs ++ ws)) s np
    exact q _ _ _ _ m (R.tup upd_same ((rl.app rl').mono m.e.1)) h
/-- slices -/
def WO := PEnv → (Option Int → Prop) → XP → Prop
def SimO (K : PySem.W.Frag) (W : WX) (t : TO) (w : WO) : Prop :=
  ∀ F0 H0 σ F H env Qp Xp Q, Good K F0 H0 σ F H env → w env Qp Xp → XOk K W σ F H Xp → (∀ F' H' o, Mv F H F' H' → Qp o → Q o H') → t σ H Q
def wONo : WO := fun _ Q _ => Q none
def wOSo (a : WE) : WO := fun env Q X => a env (fun x => onInt x fun i => Q (some i)) X
theorem so_none : SimO K W tNoPart wONo := fun F0 H0 σ F H env Qp Xp Q g hw hx q => q F H none g.mvr hw
theorem so_some {t : TE} {a : WE} (h : SE K W .C t a) : SimO K W (tPart t) (wOSo a) := fun F0 H0 σ F H env Qp Xp Q g hw hx q =>
  h F0 H0 σ F H env _ Xp _ g hw hx fun F1 H1 v x m r h1 => by
    obtain ⟨i, rfl, rfl, h1⟩ := onInt_of r h1
    exact ⟨i, rfl, q F1 H1 _ m h1⟩
abbrev PSl := P → Option Int → Option Int → (P → Prop) → Prop
def SlS (K : PySem.W.Frag) (k : Rk) (r : V → Option Int → Option Int → Hp → VK → Prop) (f : PSl) : Prop := ∀ F H v x lo hi (Qp : P → Prop) (Q : VK), Same F H → Tp K F H v x → f x lo hi Qp → (∀ F' H' u z, Mv F H F' H' → rel K k H F' H' u z → Qp z → Q u H') → r v lo hi H Q
def wSl (f : PSl) (a : WE) (l h : WO) : WE := fun env Q X => a env (fun x => l env (fun lo => h env (fun hi => f x lo hi Q) X) X) X
theorem se_sl {r : V → Option Int → Option Int → Hp → VK → Prop} {f : PSl} {te : TE} {tl th : TO} {a : WE} {l u : WO} (hs : SlS K k r f) (ha : SE K W .C te a) (hl : SimO K W tl l) (hu : SimO K W th u) : SE K W k (tSl r te tl th) (wSl f a l u) :=
  fun F0 H0 σ F H env Qp Xp Q g hw hx q => ha F0 H0 σ F H env _ Xp _ g hw hx fun F1 H1 v x m1 r1 h1 =>
    hl F0 H0 σ F1 H1 env _ Xp _ (g.mv m1) h1 (hx.mv m1) fun F2 H2 lo m2 h2 => hu F0 H0 σ F2 H2 env _ Xp _ ((g.mv m1).mv m2) h2 ((hx.mv m1).mv m2) fun F3 H3 hi m3 h3 =>
      hs F3 H3 v x lo hi Qp Q m3.fh (Tp.mv (m2.trans m3) r1) h3 fun F4 H4 z p m4 r4 h4 => q F4 H4 z p ((m1.trans (m2.trans m3)).trans m4) (rel_back (m1.s.trans (m2.s.trans m3.s)) r4) h4
def cutP (xs : List P) (lo hi : Option Int) : List P := (xs.drop (HT.sIx xs.length 0 lo)).take (HT.sIx xs.length xs.length hi - HT.sIx xs.length 0 lo)
theorem RL.cut {F : Hp} {vs : List V} {xs : List P} {lo hi : Option Int} (r : RL K F vs xs) : RL K F (cutV vs lo hi) (cutP xs lo hi) := by
  unfold cutV cutP
  rw [r.len]
  exact (r.drop _).take _
def fSlL : PSl := fun x lo hi Q => onLst x fun xs => Q (.lst (cutP xs lo hi))
theorem ls_list : SlS K .O (rSlL K) fSlL := fun F H v x lo hi Qp Q s r h q => by
  obtain ⟨xs, a, vs, rfl, rfl, ha, rl, h⟩ := onLst_of s r h
  exact ⟨a, vs, rfl, SqL.of ha, fun p np => q F _ _ (.lst _) (mv_new s np) (.inl ⟨p, _, rfl, np, same_free s np, upd_same, .l rl.cut⟩) h⟩
def fSlS : PSl := fun x lo hi Q => onStr x fun z => Q (.str (cutS z lo hi))
theorem ls_str : SlS K .V rSlS fSlS := fun F H v x lo hi Qp Q s r h q => by
  obtain ⟨z, rfl, rfl, sz, h⟩ := onStr_of r h
  exact ⟨z, rfl, sz.1, q F H _ _ (.refl s) (R.str (sok_cut sz)) h⟩
def fSlT : PSl := fun x lo hi Q => onTup x fun xs => ¬ (HT.sIx xs.length 0 lo = 0 ∧ HT.sIx xs.length xs.length hi = xs.length) ∧ Q (.tup (cutP xs lo hi))
theorem ls_tup : SlS K .V (rSlT K) fSlT := fun F H v x lo hi Qp Q s r h q => by
  obtain ⟨xs, a, vs, rfl, rfl, ha, rl, h⟩ := onTup_of s r h
  refine ⟨a, vs, rfl, SqT.of (s _ _ ha), by rw [rl.len]; exact h.1, fun p np => ?_⟩
  have m := mv_frz (o := .tup (cutV vs lo hi)) s np
  exact q _ _ _ _ m (R.tup upd_same (rl.cut.mono m.e.1)) h.2
/-! #### in -/
def flatP : P → Bool
  | .non => true | .bl _ => true | .int _ => true | .str _ => true
  | _ => false
def eqF : P → P → Bool
  | .non, .non => true
  | .bl a, .bl b => a == b
  | .bl a, .int b => (if a then 1 else 0) == b
  | .int a, .bl b => a == (if b then 1 else 0)
  | .int a, .int b => a == b
  | .str a, .str b => a == b
  | _, _ => false
theorem R.flat {F : Hp} {v : V} {x : P} (r : R K F v x) (h : flatP x = true) : flatV v = true := by
  cases r <;> first | rfl | (cases h; done)
theorem R.eqf {F : Hp} {v w : V} {x y : P} (r : R K F v x) (r' : R K F w y) (h : flatP x = true) (h' : flatP y = true) : eqV v w = eqF x y := by
  cases r <;> first | (cases h; done) | (cases r' <;> first | (cases h'; done) | rfl)
def inP (x : P) (xs : List P) : Bool := xs.any fun y => eqF y x
theorem in_of {F : Hp} {v : V} {x : P} (r : R K F v x) (h : flatP x = true) : ∀ {vs : List V} {xs : List P}, RL K F vs xs → xs.all flatP = true → vs.all flatV = true ∧ inV v vs = inP x xs
  | _, _, .nil, _ => ⟨rfl, rfl⟩
  | _, _, .cons q rl, a => by
    rw [List.all_cons, Bool.and_eq_true] at a
    obtain ⟨h1, h2⟩ := in_of r h rl a.2
    refine ⟨by rw [List.all_cons, q.flat a.1, h1]; rfl, ?_⟩
    unfold inV inP at h2 ⊢
    rw [List.any_cons, List.any_cons, h2, q.eqf r a.1 h]
def fIn (n : Bool) : PF2 := fun x y Q => match y with
  | .lst xs => flatP x = true ∧ xs.all flatP = true ∧ Q (.bl (if n then !inP x xs else inP x xs))
  | .tup xs => flatP x = true ∧ xs.all flatP = true ∧ Q (.bl (if n then !inP x xs else inP x xs))
  | _ => False
theorem Tp.flat {F H : Hp} {v : V} {x : P} (r : Tp K F H v x) (h : flatP x = true) : R K F v x := by
  rcases r with r | ⟨_, _, _, _, c⟩
  · exact r
  · cases x <;> first | exact c.elim | cases h
theorem os_in {n : Bool} : OpS K .V (rIn K n) (fIn n) := fun F H v w x y Qp Q s r r' h q => by
  unfold fIn at h
  split at h
  · obtain ⟨a, vs, rfl, ha, rl⟩ := Tp.lst s r'
    obtain ⟨h1, h2⟩ := in_of (r.flat h.1) h.1 rl h.2.1
    refine ⟨a, vs, rfl, .inl (SqL.of ha), (r.flat h.1).flat h.1, h1, ?_⟩
    rw [h2]
    exact q F H _ _ (.refl s) (R.bl _) h.2.2
  · obtain ⟨_, a, vs, e, rfl, ha, rl, _⟩ := onTup_of (Q := fun _ => True) s r' trivial
    cases e
    obtain ⟨h1, h2⟩ := in_of (r.flat h.1) h.1 rl h.2.1
    refine ⟨a, vs, rfl, .inr (SqT.of (s _ _ ha)), (r.flat h.1).flat h.1, h1, ?_⟩
    rw [h2]
    exact q F H _ _ (.refl s) (R.bl _) h.2.2
  · exact h.elim
end
end Pf

namespace Pf
open PySem PySem.Spec PyProof.Rows L2
/-! ### a promise that knows how large the heap is ahead of the call -/
structure FnN (P : Program) (w : World) (K : PySem.W.Frag) (mg : Str → Option Value) (base : Heap) (CX : CXT) (k : Nat) (f : Addr) (fd : FuncData) (ps : List Str) (sp : Nat → Sp) : Prop where
  ln : ∀ n vs H Q E, sp n vs H Q E → vs.length = ps.length
  go : ∀ (A : Around) (out : List Env) (s : Shared) (H : Hp) (ar : Args) (us : List Value) (vs : List V) (Q : VK) (E : XK), Room k A → Env0 P w K mg base A out s H → BindsTo s fd ar (ps.zip us) → Vals vs us → sp s.heap.objs.size vs H Q E →
    codeAny (model P w) A (.call (.ref f) ar) (CR CX out P w H s Q E) s
theorem fnN_of {CX : CXT} {P : Program} {w : World} {K : PySem.W.Frag} {mg : Str → Option Value} {base : Heap} {k : Nat} {x qual : Str} {st : Stmt} {f : Addr} {fd : FuncData} {N ps : List Str} {sp : Nat → Sp} (F : Fun K x qual st f fd) (S : FnScope N ps (defScope st))
    (ln : ∀ n vs H Q E, sp n vs H Q E → vs.length = ps.length)
    (hbody : ∀ (cdv : Value) (A : Around) (out : List Env) (s : Shared) (H : Hp) (vs : List V) (Q : VK) (E : XK), Room k (A.deeper (envOfC qual (defScope st) s.heap.objs.size f cdv)) → sp s.heap.objs.size vs H Q E →
      ∃ t, PSs (cxOf CX P w K mg base N qual (defScope st) f cdv A out s H E) (defBody st) t ∧ t { nx := fun _ H' => Q .non H', rt := Q } (start N vs) H) : FnN P w K mg base CX (k + 1) f fd ps sp := by
  obtain ⟨oc, od, kV, doc, pm, an, cdv, ct, osl, rfl, lk, hcd⟩ := F.ex
  refine ⟨ln, fun A out s H ar us vs Q E room e0 hb rl hsp => ?_⟩
  have hlen := ln _ _ _ _ _ hsp
  have KX := e0.mod.kin.keeps (h' := s.heap) fun b o e => (e0.bs b o e).1
  have kinds : ∀ y ∈ ps.zip us, (defScope st).names.lookup y.1 = some .local ∨ ((defScope st).names.lookup y.1 = some .cell ∧ ((cellsFrom (s.heap.objs.size + 1) (defScope st).names []).lookup y.1).isSome = true) := fun ⟨n, v⟩ hy =>
    (S.par n (List.of_mem_zip hy).1).elim (fun q => .inl q) fun q => .inr ⟨q, PySem.W.cellsFrom_some _ _ _ (.inl q)⟩
  refine codeAny_call_function room.depth (KX _ _ lk) rfl S.co S.gen rfl (PySem.W.codeRec_of KX hcd) (hb _ _ _ _ (wpAny_newFunctionEnv_cells S.kind kinds fun env he s1 y => ?_))
  subst he
  refine ⟨(e0.mod.nolimit.keeps (h' := s.heap) fun b o e => (e0.bs b o e).1).keeps y.toInCall.keep, codeAny_func ?_⟩
  obtain ⟨t, ht, hq⟩ := hbody cdv A out s H vs Q E (room.deeper _) hsp
  have I := inv_start (CX := CX) (P := P) (w := w) (E := E) S room.hd e0 hlen rl y
  refine wpAny_mono (ht.run [] s1 (start N vs) H _ I hq) (fun fl s' hs => ?_) (fun _ _ z => z)
  cases fl with
  | ret u => obtain ⟨v, σ', H', J, rv, q⟩ := hs; exact ⟨v, H', J.os, J.bare, J.base, J.hok, rv, q⟩
  | next => obtain ⟨σ', H', J, q⟩ := hs; exact ⟨.non, H', J.os, J.bare, J.base, J.hok, rfl, q⟩
  | brk => exact hs.elim fun _ z => z.elim fun _ z => z.2.elim
  | cont => exact hs.elim fun _ z => z.elim fun _ z => z.2.elim
theorem FnN.of {P : Program} {w : World} {K : PySem.W.Frag} {mg : Str → Option Value} {base : Heap} {CX : CXT} {k : Nat} {f : Addr} {fd : FuncData} {ps : List Str} {sp : Sp} (F : FnOk P w K mg base CX k f fd ps sp) : FnN P w K mg base CX k f fd ps (fun _ => sp) :=
  ⟨fun _ => F.len, F.run⟩
/-! ### own special methods: len, ==, +, iteration, by the def's promise -/
section
variable {X : Cx} {CX : CXT} {n : Nat} {f C : Addr} {fd : FuncData} {ps : List Str} {sp : Sp} {spn : Nat → Sp} {E : XK} {A1 : Around}
/-- the def runs at A1 (the frame's own place, or one call deeper) -/
theorem run_subN (F : FnN X.prog X.w X.K X.mg X.base CX n f fd ps spn) (hb : Binds X.K fd ps []) (sb : Sub X n A1) (hx : Passes CX X E) {pins : List (Addr × Obj)} {σ : L2.St} {H : Hp} {s : Shared} {Q : VK} {us : List Value} {vs : List V}
    (I : Inv X pins σ H s) (r : Vals vs us) (h : spn s.heap.objs.size vs H Q E) : wpAny (model X.prog X.w) A1 (call (.ref f) us)
      (fun u s' => ∃ v H', Inv X pins σ H' s' ∧ RelV v u ∧ Q v H' ∧ ∀ b o, s.heap.get? b = some o → H b = none → H' b = none) X.xe s := by
  have e0 : Env0 X.prog X.w X.K X.mg X.base A1 X.stack s H := by
    have e := I.env0
    exact ⟨(by rw [sb.fr]; exact e.frames), e.mod, e.bs, e.bsz, e.funs, e.frf, e.hok, e.bare⟩
  have hl : us.length = ps.length := by rw [← r.length]; exact F.ln _ _ _ _ _ h
  have hbb : BindsTo s fd ⟨us, []⟩ (ps.zip us) := by
    have b := hb s us I.kIn (by simpa using hl)
    simpa using b
  refine wpAny_call (codeAny_mono (F.go A1 X.stack s H ⟨us, []⟩ us vs Q E sb.room e0 hbb r h) fun t s' hq => ?_)
  cases t with
  | error e => exact hx pins σ H s e s' I hq
  | ok fl =>
    cases fl with
    | next => exact False.elim hq
    | brk => exact False.elim hq
    | cont => exact False.elim hq
    | ret u =>
      have hq0 : CE X.stack X.prog X.w H s Q u s' := hq
      obtain ⟨v, H', os, bare, un, hok, rv, q⟩ := hq0
      obtain ⟨hh, g, d, t, os'⟩ := s'
      obtain rfl : os' = s.os := os
      exact ⟨v, H', I.call (h' := hh) (g' := g) (d' := d) (t' := t) (ch := []) un hok bare (fun b z => absurd z (by simp)), rv, q, fun b o z nb => un.free b o z nb (by simp)⟩
theorem run_sub (F : FnOk X.prog X.w X.K X.mg X.base CX n f fd ps sp) (hb : Binds X.K fd ps []) (sb : Sub X n A1) (hx : Passes CX X E) {pins : List (Addr × Obj)} {σ : L2.St} {H : Hp} {s : Shared} {Q : VK} {us : List Value} {vs : List V}
    (I : Inv X pins σ H s) (r : Vals vs us) (h : sp vs H Q E) : wpAny (model X.prog X.w) A1 (call (.ref f) us)
      (fun u s' => ∃ v H', Inv X pins σ H' s' ∧ RelV v u ∧ Q v H' ∧ ∀ b o, s.heap.get? b = some o → H b = none → H' b = none) X.xe s :=
  run_subN (spn := fun _ => sp) (.of F) hb sb hx I r h
/-- len(o) of an own class -/
def rOwnLen (C : Addr) (sp : Sp) (E : XK) : List V → Hp → VK → Prop := fun xs H Q => ∃ a dx fs, xs = [.ref a] ∧ H a = some (.ins C dx fs) ∧ sp [.ref a] H (fun v H' => ∃ k : Int, v = .int k ∧ (0 ≤ k ∧ k < 2 ^ 63) ∧ Q (.int k) H') E
theorem call_lenOwn (F : FnOk X.prog X.w X.K X.mg X.base CX n f fd ps sp) (hs : PySem.W.findIn X.K (.ref C) "__len__" = some (some (.ref f))) (hf : PySem.W.isFn X.K (.ref f) = true) (hb : Binds X.K fd ps []) (hx : Passes CX X E) (hr : Room (n + 1) X.A) :
    CallR X (.builtin "len") (rOwnLen C sp E) := by
  intro pins s σ H xs us Q I rv h
  obtain ⟨a, dx, fs, rfl, ha, hsp⟩ := h
  obtain ⟨u, rfl, ru⟩ := rv.one
  cases ru
  obtain ⟨mA, J, _⟩ := ins_get I.hok ha
  obtain ⟨od, J, _⟩ := J.look
  obtain ⟨m, hF⟩ := I.fr
  refine PySem.W.len_K hF I.ok.mod.kin J hs hf ?_
  refine wpAny_mono (run_sub F hb ((⟨hr, rfl⟩ : Sub X (n + 1) X.A).in1) hx I (show Vals [V.ref a] [Value.ref a] from .cons rfl .nil) hsp) (fun z s' hz => ?_) fun _ _ y => y
  obtain ⟨v, H', I', rz, ⟨k, rfl, hk, q⟩, _⟩ := hz
  obtain ⟨t, rfl⟩ := rz
  exact ⟨hk, .int k, H', I'.tok _, ⟨_, rfl⟩, q⟩
/-- a == b, both of an own class; what the method hands back is a bool -/
def rOwnEq (C : Addr) (sp : Sp) (E : XK) : R2 := fun x y H Q => ∃ a b dx dy fs gs, x = .ref a ∧ y = .ref b ∧ H a = some (.ins C dx fs) ∧ H b = some (.ins C dy gs) ∧ sp [.ref a, .ref b] H (fun v H' => ∃ k, v = .bl k ∧ Q (.bl k) H') E
theorem op_eqOwn (F : FnOk X.prog X.w X.K X.mg X.base CX n f fd ps sp) (hs : PySem.W.findIn X.K (.ref C) "__eq__" = some (some (.ref f))) (hf : PySem.W.isFn X.K (.ref f) = true) (hb : Binds X.K fd ps []) (hx : Passes CX X E) (hr : Room n X.A) :
    OpR X (compareOp .Eq) (rOwnEq C sp E) := by
  intro pins s σ H x y v u Q I rx ry h
  obtain ⟨a, b, dx, dy, fs, gs, rfl, rfl, ha, hb', hsp⟩ := h
  cases rx
  cases ry
  obtain ⟨mA, J, _⟩ := ins_get I.hok ha
  obtain ⟨mB, J', _⟩ := ins_get I.hok hb'
  obtain ⟨od, J, _⟩ := J.look
  obtain ⟨od', J', _⟩ := J'.look
  obtain ⟨m, hF⟩ := I.fr
  show wpAny (model X.prog X.w) X.A (richCompare .Eq (.ref a) (.ref b)) (EP X pins σ Q) X.xe s
  refine PySem.W.cmp_K (op := .Eq) (tb := .ref C) hr.units0 hF I.ok.mod.kin J J'.type (by simp [PySem.W.notFirst]) hs hf ?_
  refine wpAny_mono (run_sub F hb (⟨hr, rfl⟩ : Sub X n X.A) hx I (show Vals [V.ref a, V.ref b] [Value.ref a, Value.ref b] from .cons rfl (.cons rfl .nil)) hsp) (fun z s' hz => ?_) fun _ _ y => y
  obtain ⟨v, H', I', rz, ⟨k, rfl, q⟩, _⟩ := hz
  obtain rfl : z = Value.bool k := rz
  exact ⟨.bl k, H', I', rfl, q⟩
/-- a + b, both of an own class -/
def rOwnAdd (C : Addr) (sp : Sp) (E : XK) : R2 := fun x y H Q => ∃ a b dx dy fs gs, x = .ref a ∧ y = .ref b ∧ H a = some (.ins C dx fs) ∧ H b = some (.ins C dy gs) ∧ sp [.ref a, .ref b] H (fun v H' => ∃ p, v = .ref p ∧ Q (.ref p) H') E
theorem op_addOwn (F : FnOk X.prog X.w X.K X.mg X.base CX n f fd ps sp) (hs : PySem.W.findIn X.K (.ref C) "__add__" = some (some (.ref f))) (hc : PySem.W.selfFirst X.K C = true) (hf : PySem.W.isFn X.K (.ref f) = true) (hb : Binds X.K fd ps []) (hx : Passes CX X E) (hr : Room n X.A) :
    OpR X (binaryOp .Add) (rOwnAdd C sp E) := by
  intro pins s σ H x y v u Q I rx ry h
  obtain ⟨a, b, dx, dy, fs, gs, rfl, rfl, ha, hb', hsp⟩ := h
  cases rx
  cases ry
  obtain ⟨mA, J, _⟩ := ins_get I.hok ha
  obtain ⟨mB, J', _⟩ := ins_get I.hok hb'
  obtain ⟨od, J, _⟩ := J.look
  obtain ⟨od', J', _⟩ := J'.look
  obtain ⟨m, hF⟩ := I.fr
  refine PySem.W.binop_K (op := .Add) hF I.ok.mod.kin J J'.type hc hs hf ?_
  refine wpAny_mono (run_sub F hb (⟨hr, rfl⟩ : Sub X n X.A) hx I (show Vals [V.ref a, V.ref b] [Value.ref a, Value.ref b] from .cons rfl (.cons rfl .nil)) hsp) (fun z s' hz => ?_) fun _ _ y => y
  obtain ⟨v, H', I', rz, ⟨p, rfl, q⟩, _⟩ := hz
  obtain rfl : z = Value.ref p := rz
  exact ⟨.ref p, H', I', rfl, q⟩
/-- for x in o, o of an own class whose __iter__ hands back iter(a list) -/
def iOwn (K : PySem.W.Frag) (C : Addr) (spn : Nat → Sp) (E : XK) (te : TE) : TI := fun σ H R => te σ H fun x H1 => ∃ a dx fs, x = .ref a ∧ H1 a = some (.ins C dx fs) ∧ ∀ n,
  spn n [.ref a] H1 (fun v H2 => ∃ it l, v = .ref it ∧ n ≤ it ∧ H2 it = some (ItO l it 0) ∧ R (Itl K l) (ItX.dropH H2 it)) E
theorem pi_own {tg e : Expr} {te : TE} (he : PE X e te) (F : FnN X.prog X.w X.K X.mg X.base CX n f fd ps spn) (hs : PySem.W.findIn X.K (.ref C) "__iter__" = some (some (.ref f))) (hf : PySem.W.isFn X.K (.ref f) = true) (hb : Binds X.K fd ps []) (hx : Passes CX X E) (hr : Room n X.A) :
    PI X tg e (iOwn X.K C spn E te) := by
  refine ⟨fun pins s σ H R I h => ?_⟩
  refine thn (he.run pins s σ H _ I h) fun v s1 ⟨x, H1, I1, r1, q1⟩ => ?_
  obtain ⟨a, dx, fs, rfl, ha, hsp⟩ := q1
  cases r1
  obtain ⟨mA, J, _⟩ := ins_get I1.hok ha
  obtain ⟨od, J, _⟩ := J.look
  obtain ⟨m, hF⟩ := I1.fr
  refine PySem.W.owit_iter hF I1.ok.mod.kin J hs hf ?_
  refine wpAny_mono (run_subN F hb (⟨hr, rfl⟩ : Sub X n X.A) hx I1 (show Vals [V.ref a] [Value.ref a] from .cons rfl .nil) (hsp _)) (fun z s' hz => ?_) fun _ _ y => y
  obtain ⟨v, H2, I2, rz, ⟨it, l, rfl, hbig, hit, q⟩, fr⟩ := hz
  obtain rfl : z = Value.ref it := rz
  have eo := itO_get I2 hit
  have hT : s'.TypeIs (.ref it) "list_iterator" := ⟨_, eo, rfl⟩
  unfold PySem.W.OwitIt
  refine wpAny_specialOf (name := Str.ofString "__next__") hT slot_listiter_next.lookup ?_
  have st : s'.heap.IsListIter it l 0 := ⟨_, eo, rfl, rfl⟩
  have hi' := hit
  unfold ItO at hi'
  refine ⟨it, [it], _, _, ItX.dropH H2 it, rfl, ItX.inv_drop I2 hi', turn_list l it, st, fun b hb => ?_, q⟩
  have e : b = it := by simpa using hb
  rw [e]
  exact ItX.inv_fp I2 hit (Nat.le_trans I1.sz hbig)
end
end Pf

namespace PySem.W
open PySem PySem.Spec PySem.Calls PyProof.Rows
section
variable {prog : Program} {w : World} {A : Around} {E : Value → Shared → Prop} {s : Shared} {K : Frag} {x D : Addr} {ox od : Obj}
/-- getattr of __class__ of a caught error that has fields of its own -/
theorem pf_classD {Q : Option Value → Shared → Prop} (hga : findIn K (.ref D) "__getattribute__" = some (some (.builtin "BaseException.__getattribute__"))) (hgt : findIn K (.ref D) "__getattr__" = some none) (hsub : subIn K (.ref D) (.type "BaseException") = some true) (hdct : hasDictIn K D = true)
    (ha : findIn K (.ref D) "__class__" = some (some (.builtin "object.__class__"))) (hn : specialIn K (.builtin "object.__class__") "__get__" = some (some (.builtin "getset_descriptor.__get__"))) (htk : takesIn K (.builtin "object.__class__") = some true) (hm : mroIn K D (.type "object") = some true)
    (X : K.In s.heap) (I : InstAt s.heap x ox D (some od)) (h : Q (some (.ref D)) { s with toks := s.toks + 1 }) : wpAny (model prog w) A (getAttr? (.ref x) "__class__") Q E s := by
  have hf : findObj K D (some od) "__class__" = some (.bind (.builtin "getset_descriptor.__get__") (.builtin "object.__class__")) := findObj_data (by obtain ⟨cd, hc, _⟩ := any_some hdct; rw [hc]; rfl) ha hn htk
  obtain ⟨hp, g, d, t, os⟩ := s
  have La := I.type (M := model prog w); have Lb := looks_findIn (M := model prog w) X hga; have Lc := looks_findIn (M := model prog w) X hgt; have Ld := looks_find (M := model prog w) X I hf
  have sub : Looks (model prog w) hp (isInstance (.ref x) (.type "BaseException")) true := La.andThen (looks_subIn X hsub)
  have z2 : (Value.builtin "BaseException.__getattribute__" == Value.builtin "object.__getattribute__") = false := by decide +kernel
  have z1 : (onTheHeap (Value.ref D) && Value.builtin "BaseException.__getattribute__" == Value.builtin "object.__getattribute__") = false := by rw [z2]; rfl
  unfold getAttr? getAttrBy? getAttrBy
  refine wpAny_bind (wpAny_mkText (wpAny_bind (wpAny_attempt (wpAny_holding (wpAny_bind (La.at (wpAny_bind (Lb.at ?_))))))))
  show wpAny _ _ (ite ((onTheHeap (Value.ref D) && Value.builtin "BaseException.__getattribute__" == Value.builtin "object.__getattribute__") = true) _ _) _ _ _
  rw [z1, if_neg Bool.false_ne_true]
  unfold getAttrByItsOwn hookBefore
  refine wpAny_bind ?_
  rw [if_pos (show onTheHeap (Value.ref D) = true from rfl)]
  refine Lc.at (wpAny_bind (wpAny_attempt (wpAny_holding ?_)))
  unfold callGetattribute
  rw [show (false && onTheHeap (Value.builtin "BaseException.__getattribute__")) = false from rfl, if_neg Bool.false_ne_true]
  unfold boundAndCalled
  rw [PySem.F.excAttr_ValueError.ga.bind (.ref x)]
  refine wpAny_bind (wpAny_pure (wpAny_call (codeAny_call_builtin PySem.F.excAttr_ValueError.ga.plain PySem.F.entry_bexc_ga ?_)))
  refine @check_slot (model prog w) _ _ ⟨hp, g, d, t + 1, os⟩ "BaseException.__getattribute__" "BaseException" "__getattribute__" (.ref x) [.str "__class__" t] [] _ (by decide +kernel) (by decide +kernel) sub (PySem.F.args_bexc_ga (.ref x) (.str "__class__" t)) ?_
  unfold Builtin.«object.__getattribute__»
  refine wpAny_bind (wpAny_of_eq (a := ((Value.ref x : Value), [Value.str "__class__" t])) (by first | rfl | (simp only [slotArgs]; rfl)) (wpAny_bind (wpAny_pure (wpAny_bind (La.at (wpAny_bind (Ld.at ?_)))))))
  show wpAny _ _ (holding [Value.builtin "object.__class__"] (call (.builtin "getset_descriptor.__get__") [.builtin "object.__class__", .ref x, .ref D]) >>= ret) _ _ _
  refine wpAny_bind (wpAny_holding (wpAny_call (class_get (s := ⟨hp, g, d, t + 1, os⟩) (ox := ox) (od := some od) X I hm (wpAny_pure ?_))))
  show wpAny _ _ (handedOut (.ref D)) _ _ _
  rw [handedOut_of (v := .ref D) rfl]
  first | exact wpAny_pure (wpAny_pure h) | exact wpAny_pure h | exact wpAny_pure (wpAny_bind (wpAny_pure (wpAny_pure h)))
theorem pf_kitD (hga : findIn K (.ref D) "__getattribute__" = some (some (.builtin "BaseException.__getattribute__"))) (hgt : findIn K (.ref D) "__getattr__" = some none) (hsub : subIn K (.ref D) (.type "BaseException") = some true) (hdct : hasDictIn K D = true)
    (ha : findIn K (.ref D) "__class__" = some (some (.builtin "object.__class__"))) (hn : specialIn K (.builtin "object.__class__") "__get__" = some (some (.builtin "getset_descriptor.__get__"))) (htk : takesIn K (.builtin "object.__class__") = some true) (hm : mroIn K D (.type "object") = some true) :
    KitX K (.ref x) (.ref D) (fun h => InstAt h x ox D (some od)) := by
  obtain ⟨cdD, hcD, _⟩ := any_some hdct
  have hcd : ∃ c d cd sl, K.lookup D = some ⟨c, d, .cls cd, sl⟩ := by
    unfold clsIn at hcD
    split at hcD
    · rename_i c' d' cd' sl' ho; exact ⟨_, _, _, _, ho⟩
    · cases hcD
  obtain ⟨c, d, cd, sl, ho⟩ := hcd
  refine ⟨fun _ _ _ I => I.type, fun _ h X _ => ?_, fun h tp dd its n sl X htp => ?_, fun X I k => pf_classD hga hgt hsub hdct ha hn htk hm X I k⟩
  · intro A' Q' E' s' k q
    unfold isType loadHead
    exact wpAny_bind (wpAny_loadPart (k _ _ (X _ _ ho)) (wpAny_pure q))
  · refine Bool.eq_false_iff.mpr fun q => ?_
    have e : D = tp := Value.ref.inj (beq_iff_eq.mp q)
    subst e
    cases (X _ _ ho).symm.trans htp
end
end PySem.W
namespace Pf
open PySem PySem.Spec PyProof.Rows L2
/-- isinstance(e, c), e a caught error with fields -/
def rIsD (K : PySem.W.Frag) (a : Addr) (cls : Value) (d : Option Addr) : List V → Hp → VK → Prop := fun xs H Q => ∃ (D dd : Addr) (fs : List (Str × V)) (c : V) (cv : Value) (b : Bool), xs = [.ref a, c] ∧ cls = .ref D ∧ d = some dd ∧ H dd = some (.xd fs) ∧ ExcC K D ∧ ClsV c cv ∧ PySem.W.kitOne K (.ref D) cv = some b ∧ Q (.bl b) H
theorem call_isD {X : Cx} {a : Addr} {oe : Obj} {cls : Value} {d : Option Addr} {pn : List (Addr × Obj)} (hz : Zc cls d oe) (hf : ∃ vs, oe.data = .fields vs) : CallR (X.suite a ((a, oe) :: pn)) (.builtin "isinstance") (rIsD X.K a cls d) := by
  intro pins s σ H xs us Q I r h
  obtain ⟨D, dd, fs, c, cv, b, rfl, rfl, rfl, hd, C, hcv, e, q⟩ := h
  cases r with
  | cons rx rr =>
    cases rr with
    | cons rt rr =>
      cases rr
      cases rx
      have ec := hcv.eq rt
      subst ec
      obtain ⟨hget, _⟩ := I.pin (a, oe) (List.mem_append.mpr (.inl List.mem_cons_self))
      obtain ⟨vs, hv⟩ := hf
      have hx : ObjOk X.prog X.w H s.heap dd (.xd fs) := I.hok dd _ hd
      obtain ⟨mA, hns, _⟩ := hx
      obtain ⟨od, ho, _⟩ := lookIn_ns hns
      have J : PySem.W.InstAt s.heap a oe D (some od) := ⟨hget, hz.1, by unfold PySem.W.notCls; rw [hv] <;> rfl, by rw [hz.2]; exact ho⟩
      exact PySem.W.kia_one (PySem.W.pf_kitD C.hg C.hk C.hs C.hd C.ha C.hn C.ht C.hm) I.kIn J e (fun z => nomatch z) fun tk => ⟨.bl b, H, I.kept (t' := tk) fun _ _ z => z, rfl, q⟩
section
variable {X : Cx} {CX : CXT} {k : Nat} {f C : Addr} {fd : FuncData} {ps : List Str} {sp : Sp} {x : Str} {p pos : Pos} {e : Expr} {es : List Expr} {t : TA}
/-- C(..) in a try: its __init__ may raise -/
def tMakeS (C : Addr) (sp : Sp) (E : L2.St → XK) (t : TA) : TE := fun σ H Q => t σ H fun vs H1 => ∀ x dx, H1 x = none → H1 dx = none → dx ≠ x → sp (.ref x :: vs) (upd (upd H1 dx (.own x)) x (.ins C dx [])) (fun v H2 => v = .non ∧ Q (.ref x) H2) (E σ)
theorem pe_makeS {E : L2.St → XK} (M : Mk X.K C f) (F : FnOk X.prog X.w X.K X.mg X.base CX k f fd ps sp) (hr : Room (k + 1) X.A) (hg : Gl X x) (hm : X.mg x = some (.ref C)) (hb : Binds X.K fd ps []) (hx : ∀ σ, PassesAt CX X σ (E σ))
    (ha : PA X (e :: es) t) (hdb : (x == ("__debug__" : Str)) = false := by decide) (he : starEach (e :: es) X.env = (false, eval e X.env) :: starEach es X.env := by rfl) (hpl : (backTo pos (starEach es X.env)).any (·.1) = false := by rfl) :
    PE X (.Call (.Name x p) (e :: es) [] pos) (tMakeS C sp E t) := by
  refine ⟨fun pins s0 σ H Q I0 h => ?_⟩
  refine wpAny_Call_Name_kw (ld_glob I0 hg hm (PySem.W.callWith_K (h₀ := X.base) I0.ok.mod.kin M.kp (thn (ha.run pos pins s0 σ H _ I0 h) fun us s ⟨vs, H1, I, r, q⟩ => ⟨I.kIn, ?_⟩) he hpl) hdb)
  show wpAny _ _ (call (.ref C) us) _ _ _
  have hq := q (s.heap.objs.size + 1) s.heap.objs.size (I.hok.fresh (Nat.le_succ _)) (I.hok.fresh (Nat.le_refl _)) (Nat.ne_of_lt (Nat.lt_succ_self _))
  have J := Inv.made (C := C) I
  have rr : Vals (V.ref (s.heap.objs.size + 1) :: vs) (Value.ref (s.heap.objs.size + 1) :: us) := .cons rfl r
  have hl : (Value.ref (s.heap.objs.size + 1) :: us).length = ps.length := by rw [← rr.length]; exact F.len _ _ _ _ hq
  have hbb := hb _ (Value.ref (s.heap.objs.size + 1) :: us) J.kIn (by simpa using hl)
  rw [List.append_nil] at hbb
  refine wpAny_call (make_map (f := f) I.kIn M.makes M.init (beq_iff_eq.mp M.fn) (codeAny_mono (F.run _ X.stack _ _ ⟨Value.ref (s.heap.objs.size + 1) :: us, []⟩ _ _ _ (E σ) (hr.make C us []) (J.env0.make C us []) hbb rr hq) fun z s' hz => ?_))
  cases z with
  | error er => exact hx σ pins _ _ er s' J hz
  | ok fl =>
    cases fl with
    | ret u => obtain ⟨v, H', J3, rv, ev, q3⟩ := J.after hz; subst ev; exact ⟨rv, ⟨V.ref (s.heap.objs.size + 1), H', J3, rfl, q3⟩⟩
    | next => exact hz.elim
    | brk => exact hz.elim
    | cont => exact hz.elim
/-- try: body except x as n: suite; the readings may speak of what the frame pins -/
theorem ps_try_as2 {i : Nat} {n xn : Str} {c : Value} {np pos' pos2 : Pos} {b₀ : Stmt} {suite body : List Stmt} {tb : WX → List (Addr × Obj) → (Value → Shared → Prop) → TS} {ts : Addr → Obj → Value → Option Addr → List (Addr × Obj) → TS} {Wout : WX}
    (hs : X.stack = X.env :: X.outer) (hf : X.env.frame = some X.env.locals) (hN : X.N.Nodup) (hi : X.N[i]? = some n) (hln : X.env.kindOf n = some .local) (hc : Names X xn c) (tk : Takes X Wout)
    (hb : ∀ (W : WX) (pn : List (Addr × Obj)) (xe : Value → Shared → Prop), Takes (X.tr pn xe) W → PassesOwn (model X.prog X.w) X.A X.env xe → PSs (X.tr pn xe) body (tb W pn xe))
    (hsu : ∀ (a : Addr) (oe : Obj) (cls : Value) (d : Option Addr) (pn : List (Addr × Obj)), Zc cls d oe → (∃ vs, oe.data = .fields vs) → PSs (X.suite a ((a, oe) :: pn)) (b₀ :: suite) (ts a oe cls d pn)) :
    PS X (.Try body [.ExceptHandler (some (.Name xn np)) (some n) (b₀ :: suite) pos'] [] [] pos2)
      (fun D σ H => ∀ pn xe, tb (wAs X.K c i (fun a cls d D σ H => ∀ oe pn, ts a oe cls d pn D σ H) Wout D) pn xe D σ H) :=
  ps_try_as (tb := fun W D σ H => ∀ pn xe, tb W pn xe D σ H) (ts := fun a cls d D σ H => ∀ oe pn, ts a oe cls d pn D σ H) hs hf hN hi hln hc tk
    (fun W pn xe tk' po => ⟨fun pins s σ H D I h => (hb W pn xe tk' po).run pins s σ H D I (h pn xe)⟩)
    (fun a oe cls d pn hz hf' => ⟨fun pins s σ H D I h => (hsu a oe cls d pn hz hf').run pins s σ H D I (h oe pn)⟩)
end
end Pf

namespace Pf
open PySem PySem.Spec PyProof.Rows L2
/-! ### comprehensions whose parts' readings speak of the block -/
abbrev BkT : Type := Shared → Hp → Addr → List (Str × Addr) → List Addr → TT
abbrev BkE : Type := Shared → Hp → Addr → List (Str × Addr) → List Addr → TE
abbrev BkG : Type := Shared → Hp → Addr → List (Str × Addr) → List Addr → TG
def allE (te : BkE) : TE := fun σ H Q => ∀ (s : Shared) (Hb : Hp) (C : Addr) (cl : List (Str × Addr)) (fp : List Addr), te s Hb C cl fp σ H Q
def allT (te : BkT) : TT := fun σ H Q => ∀ (s : Shared) (Hb : Hp) (C : Addr) (cl : List (Str × Addr)) (fp : List Addr), te s Hb C cl fp σ H Q
def allG (te : BkG) : TG := fun v σ H Q => ∀ (s : Shared) (Hb : Hp) (C : Addr) (cl : List (Str × Addr)) (fp : List Addr), te s Hb C cl fp v σ H Q
section
variable {X : Cx} {elt tg iter : Expr} {ifs : List Expr} {scope : Scope} {own : List (Str × Nat)} {pos : Pos} {wi : TI}
theorem pe_lcX {g : BkG} {tt : BkT} {te : BkE} (hc : X.calm = true) (hN : X.N.Nodup) (hi : PI X tg iter wi) (ok : BlkOk X.N X.env.scope scope own)
    (hg : ∀ s H C cl fp, PG (X.blk s H scope (compEnvC scope cl C X.env) fp) tg (g s H C cl fp)) (ht : ∀ s H C cl fp, PTs (X.blk s H scope (compEnvC scope cl C X.env) fp) ifs (tt s H C cl fp)) (he : ∀ s H C cl fp, PE (X.blk s H scope (compEnvC scope cl C X.env) fp) elt (te s H C cl fp))
    (hs : ∀ x, foldedSetIterable iter X.env x = pure x := by intro _; rfl) : PE X (.ListComp elt [⟨tg, iter, ifs, 0⟩] scope pos) (tLc wi (allG g) (allT tt) (allE te) (own.map (·.2))) :=
  pe_lc hc hN hi ok (fun s H C cl fp => ⟨fun pins s1 σ H1 v u Q I r h => (hg s H C cl fp).run pins s1 σ H1 v u Q I r (h s H C cl fp)⟩)
    (fun s H C cl fp => ⟨fun pins s1 σ H1 Q I h => (ht s H C cl fp).run pins s1 σ H1 Q I (h s H C cl fp)⟩) (fun s H C cl fp => ⟨fun pins s1 σ H1 Q I h => (he s H C cl fp).run pins s1 σ H1 Q I (h s H C cl fp)⟩) hs
theorem pe_lcE {g : TG} {tt : TT} {te : BkE} (hc : X.calm = true) (hN : X.N.Nodup) (hi : PI X tg iter wi) (ok : BlkOk X.N X.env.scope scope own)
    (hg : ∀ (s : Shared) (H : Hp) (C : Addr) (cl : List (Str × Addr)) (fp : List Addr), PG (X.blk s H scope (compEnvC scope cl C X.env) fp) tg g) (ht : ∀ (s : Shared) (H : Hp) (C : Addr) (cl : List (Str × Addr)) (fp : List Addr), PTs (X.blk s H scope (compEnvC scope cl C X.env) fp) ifs tt) (he : ∀ s H C cl fp, PE (X.blk s H scope (compEnvC scope cl C X.env) fp) elt (te s H C cl fp))
    (hs : ∀ x, foldedSetIterable iter X.env x = pure x := by intro _; rfl) : PE X (.ListComp elt [⟨tg, iter, ifs, 0⟩] scope pos) (tLc wi g tt (allE te) (own.map (·.2))) :=
  pe_lc hc hN hi ok hg ht (fun s H C cl fp => ⟨fun pins s1 σ H1 Q I h => (he s H C cl fp).run pins s1 σ H1 Q I (h s H C cl fp)⟩) hs
variable {i : Nat} {y : Str} {py spos : Pos}
theorem ps_setLcX {g : BkG} {tt : BkT} {te : BkE} (hc : X.calm = true) (hN : X.N.Nodup) (hy : X.N[i]? = some y) (hyl : X.env.scope.names.lookup y = some .local) (hsw : swapsWith (.ListComp elt [⟨tg, iter, ifs, 0⟩] scope pos) (some (.Name y py)) spos.line X.env = pure true) (hi : PI X tg iter wi) (ok : BlkOk X.N X.env.scope scope own)
    (hg : ∀ s H C cl fp, PG (X.blk s H scope (compEnvC scope cl C X.env) fp) tg (g s H C cl fp)) (ht : ∀ s H C cl fp, PTs (X.blk s H scope (compEnvC scope cl C X.env) fp) ifs (tt s H C cl fp)) (he : ∀ s H C cl fp, PE (X.blk s H scope (compEnvC scope cl C X.env) fp) elt (te s H C cl fp))
    (hs : ∀ x, foldedSetIterable iter X.env x = pure x := by intro _; rfl) : PS X (.Assign [.Name y py] (.ListComp elt [⟨tg, iter, ifs, 0⟩] scope pos) spos) (tAsg (tLc wi (allG g) (allT tt) (allE te) (own.map (·.2))) (gName i)) :=
  ps_setLc hc hN hy hyl hsw hi ok (fun s H C cl fp => ⟨fun pins s1 σ H1 v u Q I r h => (hg s H C cl fp).run pins s1 σ H1 v u Q I r (h s H C cl fp)⟩)
    (fun s H C cl fp => ⟨fun pins s1 σ H1 Q I h => (ht s H C cl fp).run pins s1 σ H1 Q I (h s H C cl fp)⟩) (fun s H C cl fp => ⟨fun pins s1 σ H1 Q I h => (he s H C cl fp).run pins s1 σ H1 Q I (h s H C cl fp)⟩) hs
theorem ps_setLcE {g : TG} {tt : TT} {te : BkE} (hc : X.calm = true) (hN : X.N.Nodup) (hy : X.N[i]? = some y) (hyl : X.env.scope.names.lookup y = some .local) (hsw : swapsWith (.ListComp elt [⟨tg, iter, ifs, 0⟩] scope pos) (some (.Name y py)) spos.line X.env = pure true) (hi : PI X tg iter wi) (ok : BlkOk X.N X.env.scope scope own)
    (hg : ∀ (s : Shared) (H : Hp) (C : Addr) (cl : List (Str × Addr)) (fp : List Addr), PG (X.blk s H scope (compEnvC scope cl C X.env) fp) tg g) (ht : ∀ (s : Shared) (H : Hp) (C : Addr) (cl : List (Str × Addr)) (fp : List Addr), PTs (X.blk s H scope (compEnvC scope cl C X.env) fp) ifs tt) (he : ∀ s H C cl fp, PE (X.blk s H scope (compEnvC scope cl C X.env) fp) elt (te s H C cl fp))
    (hs : ∀ x, foldedSetIterable iter X.env x = pure x := by intro _; rfl) : PS X (.Assign [.Name y py] (.ListComp elt [⟨tg, iter, ifs, 0⟩] scope pos) spos) (tAsg (tLc wi g tt (allE te) (own.map (·.2))) (gName i)) :=
  ps_setLc hc hN hy hyl hsw hi ok hg ht (fun s H C cl fp => ⟨fun pins s1 σ H1 Q I h => (he s H C cl fp).run pins s1 σ H1 Q I (h s H C cl fp)⟩) hs
end
end Pf


namespace Pf
open PySem PySem.Spec PyProof.Rows L2
section
variable {K : PySem.W.Frag} {W : WX} {k : Rk} {ro : Bool}
/-! #### built-ins -/
def fLen : PFn := fun xs Q => match xs with
  | [.lst xs] => Q (.int xs.length)
  | [.tup xs] => Q (.int xs.length)
  | [.scr xs] => Q (.int xs.length)
  | _ => False
theorem cs_len {m : Mo} : CallS K .V [m] (fun xs H Q => ∃ p ys, xs = [.ref p] ∧ (SqL K H p ys ∨ SqT K H p ys) ∧ Q (.int ys.length) H) fLen := fun F H vs xs Qp Q s r h q => by
  obtain ⟨v, x, rfl, rfl, t⟩ := AL.one r
  unfold fLen at h
  split at h
  · rename_i ys e
    cases e
    obtain ⟨a, ws, rfl, ha, rl⟩ := Tp.lst s t
    exact ⟨a, ws, rfl, .inl (SqL.of ha), by rw [rl.len]; exact q F H _ _ (.refl s) (R.int _) h⟩
  · rename_i ys e
    cases e
    obtain ⟨_, a, ws, e, rfl, ha, rl, _⟩ := onTup_of (Q := fun _ => True) s t trivial
    cases e
    exact ⟨a, ws, rfl, .inr (SqT.of (s _ _ ha)), by rw [rl.len]; exact q F H _ _ (.refl s) (R.int _) h⟩
  · rename_i ys e
    cases e
    rcases t with t | ⟨_, _, _, _, c⟩
    · cases t with
      | scr hs => exact ⟨_, _, rfl, .inl (s.seq hs), by rw [List.length_map]; exact q F H _ _ (.refl s) (R.int _) h⟩
    · exact c.elim
  · exact h.elim
def fLenS : PFn := fun xs Q => match xs with
  | [.str z] => Q (.int z.length)
  | _ => False
theorem cs_lenS {m : Mo} : CallS K .V [m] (fun xs H Q => ∃ z, xs = [.str z] ∧ z.length ≤ sizeLine ∧ Q (.int z.length) H) fLenS := fun F H vs xs Qp Q s r h q => by
  obtain ⟨v, x, rfl, rfl, t⟩ := AL.one r
  unfold fLenS at h
  split at h
  · rename_i z e
    cases e
    obtain ⟨rfl, sz⟩ := t.str
    exact ⟨z, rfl, sz.1, q F H _ _ (.refl s) (R.int _) h⟩
  · exact h.elim
theorem call_lenDR {X : Cx} : CallR X (.builtin "len") (fun xs H Q => ∃ a kvs, xs = [V.ref a] ∧ Rd H a (.dK kvs) ∧ Q (.int kvs.length) H) := by
  intro pins s σ H xs us Q I r h
  obtain ⟨a, kvs, rfl, ha, q⟩ := h
  obtain ⟨u, rfl, ru⟩ := vals1 r
  cases ru
  exact d_len I ha fun t s' I' => ⟨.int kvs.length, H, I', ⟨t, rfl⟩, q⟩
def fLenD : PFn := fun xs Q => match xs with
  | [.dct ks _] => Q (.int ks.length)
  | _ => False
theorem cs_lenD {m : Mo} : CallS K .V [m] (fun xs H Q => ∃ a kvs, xs = [V.ref a] ∧ Rd H a (.dK kvs) ∧ Q (.int kvs.length) H) fLenD := fun F H vs xs Qp Q s r h q => by
  obtain ⟨v, x, rfl, rfl, t⟩ := AL.one r
  unfold fLenD at h
  split at h
  · rename_i ks ys e
    cases e
    obtain ⟨a, ws, rfl, ha, l, rl⟩ := Tp.dct s t
    refine ⟨a, _, rfl, ha, ?_⟩
    rw [List.length_zip, ← l, Nat.min_self]
    exact q F H _ _ (.refl s) (R.int _) h
  · exact h.elim
def fInt1 : PFn := fun xs Q => match xs with
  | [.int i] => Q (.int i)
  | [.bl b] => Q (.int (if b then 1 else 0))
  | _ => False
theorem Tp.bl {F H : Hp} {v : V} {b : Bool} (h : Tp K F H v (.bl b)) : v = .bl b := by
  rcases h with r | ⟨_, _, _, _, c⟩
  · cases r; rfl
  · exact c.elim
theorem cs_int1 {m : Mo} : CallS K .V [m] (fun xs H Q => (∃ i, xs = [.int i] ∧ Q (.int i) H) ∨ ∃ k, xs = [.bl k] ∧ Q (.int (if k then 1 else 0)) H) fInt1 := fun F H vs xs Qp Q s r h q => by
  obtain ⟨v, x, rfl, rfl, t⟩ := AL.one r
  unfold fInt1 at h
  split at h
  · rename_i i e
    cases e
    obtain rfl := t.int
    exact .inl ⟨i, rfl, q F H _ _ (.refl s) (R.int _) h⟩
  · rename_i b e
    cases e
    obtain rfl := t.bl
    exact .inr ⟨b, rfl, q F H _ _ (.refl s) (R.int _) h⟩
  · exact h.elim
def fBool1 : PFn := fun xs Q => match xs with
  | [.int i] => Q (.bl (i != 0))
  | [.bl b] => Q (.bl b)
  | _ => False
theorem cs_bool1 {m : Mo} : CallS K .V [m] (fun xs H Q => (∃ i, xs = [.int i] ∧ Q (.bl (i != 0)) H) ∨ ∃ k, xs = [.bl k] ∧ Q (.bl k) H) fBool1 := fun F H vs xs Qp Q s r h q => by
  obtain ⟨v, x, rfl, rfl, t⟩ := AL.one r
  unfold fBool1 at h
  split at h
  · rename_i i e
    cases e
    obtain rfl := t.int
    exact .inl ⟨i, rfl, q F H _ _ (.refl s) (R.bl _) h⟩
  · rename_i b e
    cases e
    obtain rfl := t.bl
    exact .inr ⟨b, rfl, q F H _ _ (.refl s) (R.bl _) h⟩
  · exact h.elim
/-- isinstance(x, T), T a built-in class -/
def tyN : P → Option String
  | .non => some "NoneType" | .bl _ => some "bool" | .int _ => some "int" | .str _ => some "str" | .lst _ => some "list" | .tup _ => some "tuple" | .dct _ _ => some "dict"
  | _ => none
def isaB (a b : String) : Bool := a == b || (a == "bool" && b == "int")
def tyS : List String := ["bool", "int", "str", "list", "tuple", "dict"]
def fIsi : PFn := fun xs Q => match xs with
  | [x, .ty T] => ∃ t, tyN x = some t ∧ tyS.contains T = true ∧ Q (.bl (isaB t T))
  | _ => False
theorem kit_isa {t T : String} {x : P} (ht : tyN x = some t) (hT : tyS.contains T = true) : PySem.W.kitOne K (.type t) (.type T) = some (isaB t T) := by
  have hT' : T ∈ tyS := by simpa using hT
  have go : ∀ t ∈ ["NoneType", "bool", "int", "str", "list", "tuple", "dict"], ∀ T ∈ tyS, kitB t T = some (isaB t T) := by decide +kernel
  refine kit_ty (go t ?_ T hT')
  cases x <;> cases ht <;> simp
theorem Tp.ty {F H : Hp} (s : Same F H) {v : V} {x : P} {t : String} (h : Tp K F H v x) (ht : tyN x = some t) : TyX K H v (.type t) := by
  rcases h with r | ⟨a, o, rfl, ha, c⟩
  · cases r with
    | non => cases ht; exact .base .non
    | bl => cases ht; exact .base (.bl _)
    | int => cases ht; exact .base (.int _)
    | str => cases ht; exact .base (.str _)
    | tup h r => cases ht; exact .base (.tup (s _ _ h))
    | lst h r => cases ht; exact .base (.lst (s _ _ h))
    | dct h l r =>
      cases ht
      rcases h with h | ⟨o, h⟩
      · exact .base (.dK (s _ _ h))
      · exact .fDict (s _ _ h)
    | _ => cases ht
  · cases x <;> first | (exact c.elim) | (cases ht; done) | skip
    · cases ht; obtain ⟨vs, rfl, _⟩ := c; exact .base (.lst ha)
    · cases ht
      obtain ⟨vs, e, _⟩ := c
      rcases e with e | ⟨ob, e⟩
      · subst e; exact .base (.dK ha)
      · subst e; exact .fDict ha
theorem Tp.tyc {F H : Hp} {v : V} {T : String} (h : Tp K F H v (.ty T)) : v = .ty T := by
  rcases h with r | ⟨_, _, _, _, c⟩
  · cases r; rfl
  · exact c.elim
theorem cs_isi {m m' : Mo} : CallS K .V [m, m'] (rIsi K) fIsi := fun F H vs xs Qp Q s r h q => by
  obtain ⟨v, vs', x, xs', rfl, rfl, t, r'⟩ := AL.cons r
  obtain ⟨v', x', rfl, rfl, t'⟩ := AL.one r'
  unfold fIsi at h
  split at h
  · rename_i y T e
    cases e
    obtain ⟨u, hu, hT, h⟩ := h
    obtain rfl := t'.tyc
    exact ⟨v, _, _, _, _, rfl, .ty T, t.ty s hu, kit_isa hu hT, q F H _ _ (.refl s) (R.bl _) h⟩
  · exact h.elim
def fList : PFn := fun xs Q => match xs with
  | [.lst xs] => Q (.lst xs)
  | [.tup xs] => Q (.lst xs)
  | _ => False
theorem cs_list {m : Mo} : CallS K .O [m] (fun xs H Q => ∃ p ys, xs = [.ref p] ∧ (SqL K H p ys ∨ SqT K H p ys) ∧ ∀ l, H l = none → Q (.ref l) (upd H l (.lst ys))) fList := fun F H vs xs Qp Q s r h q => by
  obtain ⟨v, x, rfl, rfl, t⟩ := AL.one r
  unfold fList at h
  split at h
  · rename_i ys e
    cases e
    obtain ⟨a, ws, rfl, ha, rl⟩ := Tp.lst s t
    exact ⟨a, ws, rfl, .inl (SqL.of ha), fun p np => q F _ _ (.lst ys) (mv_new s np) (.inl ⟨p, _, rfl, np, same_free s np, upd_same, .l rl⟩) h⟩
  · rename_i ys e
    cases e
    obtain ⟨_, a, ws, e, rfl, ha, rl, _⟩ := onTup_of (Q := fun _ => True) s t trivial
    cases e
    exact ⟨a, ws, rfl, .inr (SqT.of (s _ _ ha)), fun p np => q F _ _ (.lst ys) (mv_new s np) (.inl ⟨p, _, rfl, np, same_free s np, upd_same, .l rl⟩) h⟩
  · exact h.elim
def fTupL : PFn := fun xs Q => match xs with
  | [.lst xs] => Q (.tup xs)
  | _ => False
theorem cs_tup {m : Mo} : CallS K .V [m] (fun xs H Q => ∃ p ys, xs = [.ref p] ∧ ((SqL K H p ys ∧ ∀ l, H l = none → Q (.ref l) (upd H l (.tup ys))) ∨ (SqT K H p ys ∧ Q (.ref p) H))) fTupL := fun F H vs xs Qp Q s r h q => by
  obtain ⟨v, x, rfl, rfl, t⟩ := AL.one r
  unfold fTupL at h
  split at h
  · rename_i ys e
    cases e
    obtain ⟨a, ws, rfl, ha, rl⟩ := Tp.lst s t
    refine ⟨a, ws, rfl, .inl ⟨SqL.of ha, fun p np => ?_⟩⟩
    have m := mv_frz (o := .tup ws) s np
    exact q _ _ _ _ m (R.tup upd_same (rl.mono m.e.1)) h
  · exact h.elim
theorem RL.ints {F : Hp} : ∀ {ns : List Int} {vs : List V}, RL K F vs (ns.map P.int) → vs = ns.map V.int
  | [], _, .nil => rfl
  | n :: ns, _, .cons (.int _) r => by rw [List.map_cons, RL.ints r]
theorem RL.of_ints {F : Hp} : ∀ {ns : List Int}, RL K F (ns.map V.int) (ns.map P.int)
  | [] => .nil
  | n :: ns => .cons (.int n) RL.of_ints
theorem RL.bls {F : Hp} : ∀ {ns : List Bool} {vs : List V}, RL K F vs (ns.map P.bl) → vs = ns.map V.bl
  | [], _, .nil => rfl
  | n :: ns, _, .cons (.bl _) r => by rw [List.map_cons, RL.bls r]
theorem RL.strs {F : Hp} : ∀ {ns : List Str} {vs : List V}, RL K F vs (ns.map P.str) → vs = ns.map V.str ∧ ∀ z ∈ ns, SOk z
  | [], _, .nil => ⟨rfl, by simp⟩
  | n :: ns, _, .cons (.str h) r => by
    obtain ⟨e, a⟩ := RL.strs r
    refine ⟨by rw [List.map_cons, e], fun z hz => ?_⟩
    rcases List.mem_cons.mp hz with rfl | hz
    · exact h
    · exact a z hz
theorem RL.of_strs {F : Hp} : ∀ {ns : List Str}, (∀ z ∈ ns, SOk z) → RL K F (ns.map V.str) (ns.map P.str)
  | [], _ => .nil
  | n :: ns, h => .cons (.str (h n List.mem_cons_self)) (RL.of_strs fun z hz => h z (List.mem_cons_of_mem _ hz))
def fSum : PFn := fun xs Q => ∃ ns : List Int, xs = [.lst (ns.map .int)] ∧ Q (.int ns.sum)
theorem cs_sum {m : Mo} : CallS K .V [m] (rSum K) fSum := fun F H vs xs Qp Q s r ⟨ns, e, h⟩ q => by
  obtain ⟨v, x, rfl, rfl, t⟩ := AL.one r
  cases e
  obtain ⟨a, ws, rfl, ha, rl⟩ := Tp.lst s t
  obtain rfl := rl.ints
  exact ⟨a, ns, rfl, SqL.of ha, q F H _ _ (.refl s) (R.int _) h⟩
def fMax : PFn := fun xs Q => ∃ ns : List Int, xs = [.lst (ns.map .int)] ∧ 0 < ns.length ∧ ∀ m, m ∈ ns → (∀ y, y ∈ ns → y ≤ m) → Q (.int m)
def fMin : PFn := fun xs Q => ∃ ns : List Int, xs = [.lst (ns.map .int)] ∧ 0 < ns.length ∧ ∀ m, m ∈ ns → (∀ y, y ∈ ns → m ≤ y) → Q (.int m)
theorem cs_max {m : Mo} : CallS K .V [m] (rMax K) fMax := fun F H vs xs Qp Q s r ⟨ns, e, h0, h⟩ q => by
  obtain ⟨v, x, rfl, rfl, t⟩ := AL.one r
  cases e
  obtain ⟨a, ws, rfl, ha, rl⟩ := Tp.lst s t
  obtain rfl := rl.ints
  exact ⟨a, ns, rfl, SqL.of ha, h0, fun m hm hy => q F H _ _ (.refl s) (R.int _) (h m hm hy)⟩
theorem cs_min {m : Mo} : CallS K .V [m] (rMin K) fMin := fun F H vs xs Qp Q s r ⟨ns, e, h0, h⟩ q => by
  obtain ⟨v, x, rfl, rfl, t⟩ := AL.one r
  cases e
  obtain ⟨a, ws, rfl, ha, rl⟩ := Tp.lst s t
  obtain rfl := rl.ints
  exact ⟨a, ns, rfl, SqL.of ha, h0, fun m hm hy => q F H _ _ (.refl s) (R.int _) (h m hm hy)⟩
def fAll : PFn := fun xs Q => ∃ bs : List Bool, xs = [.lst (bs.map .bl)] ∧ Q (.bl (bs.all id))
def fAny : PFn := fun xs Q => ∃ bs : List Bool, xs = [.lst (bs.map .bl)] ∧ Q (.bl (bs.any id))
theorem cs_all {m : Mo} : CallS K .V [m] (rAll K) fAll := fun F H vs xs Qp Q s r ⟨ns, e, h⟩ q => by
  obtain ⟨v, x, rfl, rfl, t⟩ := AL.one r
  cases e
  obtain ⟨a, ws, rfl, ha, rl⟩ := Tp.lst s t
  obtain rfl := rl.bls
  exact ⟨a, ns, rfl, SqL.of ha, q F H _ _ (.refl s) (R.bl _) h⟩
theorem cs_any {m : Mo} : CallS K .V [m] (rAny K) fAny := fun F H vs xs Qp Q s r ⟨ns, e, h⟩ q => by
  obtain ⟨v, x, rfl, rfl, t⟩ := AL.one r
  cases e
  obtain ⟨a, ws, rfl, ha, rl⟩ := Tp.lst s t
  obtain rfl := rl.bls
  exact ⟨a, ns, rfl, SqL.of ha, q F H _ _ (.refl s) (R.bl _) h⟩
def fMM (f : Int → Int → Int) : PFn := fun xs Q => match xs with
  | [.int i, .int j] => Q (.int (f i j))
  | _ => False
theorem cs_mm {m m' : Mo} {f : Int → Int → Int} : CallS K .V [m, m'] (fun xs H Q => ∃ i j, xs = [.int i, .int j] ∧ Q (.int (f i j)) H) (fMM f) := fun F H vs xs Qp Q s r h q => by
  obtain ⟨v, vs', x, xs', rfl, rfl, t, r'⟩ := AL.cons r
  obtain ⟨v', x', rfl, rfl, t'⟩ := AL.one r'
  unfold fMM at h
  split at h
  · rename_i i j e
    cases e
    obtain rfl := t.int
    obtain rfl := t'.int
    exact ⟨i, j, rfl, q F H _ _ (.refl s) (R.int _) h⟩
  · exact h.elim
def fSortI : PFn := fun xs Q => ∃ ns : List Int, xs = [.lst (ns.map .int)] ∧ ∀ ms : List Int, ms.Perm ns → ms.Pairwise (· ≤ ·) → Q (.lst (ms.map .int))
theorem cs_sortI {m : Mo} : CallS K .O [m] (rSortedI K) fSortI := fun F H vs xs Qp Q s r ⟨ns, e, h⟩ q => by
  obtain ⟨v, x, rfl, rfl, t⟩ := AL.one r
  cases e
  obtain ⟨a, ws, rfl, ha, rl⟩ := Tp.lst s t
  obtain rfl := rl.ints
  exact ⟨a, ns, rfl, SqL.of ha, fun ms p h1 h2 np => q F _ _ (.lst (ms.map .int)) (mv_new s np) (.inl ⟨p, _, rfl, np, same_free s np, upd_same, .l .of_ints⟩) (h ms h1 h2)⟩
def fSortS : PFn := fun xs Q => ∃ ns : List Str, xs = [.lst (ns.map .str)] ∧ ns.length < 64 ∧ ∀ ms : List Str, ms.Perm ns → sortedS ms = true → Q (.lst (ms.map .str))
theorem cs_sortS {m : Mo} : CallS K .O [m] (rSortedS K) fSortS := fun F H vs xs Qp Q s r ⟨ns, e, hn, h⟩ q => by
  obtain ⟨v, x, rfl, rfl, t⟩ := AL.one r
  cases e
  obtain ⟨a, ws, rfl, ha, rl⟩ := Tp.lst s t
  obtain ⟨rfl, sok⟩ := rl.strs
  exact ⟨a, ns, rfl, SqL.of ha, hn, fun ms p h1 h2 np => q F _ _ (.lst (ms.map .str)) (mv_new s np) (.inl ⟨p, _, rfl, np, same_free s np, upd_same, .l (.of_strs fun z hz => sok z (h1.mem_iff.mp hz))⟩) (h ms h1 h2)⟩
/-- list(range(a, b)) -/
def SimR (K : PySem.W.Frag) (W : WX) (t : L2.St → Hp → (Int → Int → Hp → Prop) → Prop) (w : PEnv → (Int → Int → Prop) → XP → Prop) : Prop :=
  ∀ F0 H0 σ F H env Qp Xp Q, Good K F0 H0 σ F H env → w env Qp Xp → XOk K W σ F H Xp → (∀ F' H' a b, Mv F H F' H' → Qp a b → Q a b H') → t σ H Q
def wRg1 (a : WE) : PEnv → (Int → Int → Prop) → XP → Prop := fun env Q X => a env (fun x => onInt x fun n => Q 0 n) X
def wRg2 (a b : WE) : PEnv → (Int → Int → Prop) → XP → Prop := fun env Q X => a env (fun x => b env (fun y => onInt x fun i => onInt y fun j => Q i j) X) X
theorem sr_1 {ta : TE} {a : WE} (h : SE K W .C ta a) : SimR K W (tRg1 ta) (wRg1 a) := fun F0 H0 σ F H env Qp Xp Q g hw hx q =>
  h F0 H0 σ F H env _ Xp _ g hw hx fun F1 H1 v x m r h1 => by
    obtain ⟨i, rfl, rfl, h1⟩ := onInt_of r h1
    exact ⟨i, rfl, q F1 H1 0 i m h1⟩
theorem sr_2 {ta tb : TE} {a b : WE} (h : SE K W .C ta a) (h' : SE K W .C tb b) : SimR K W (tRg2 ta tb) (wRg2 a b) := fun F0 H0 σ F H env Qp Xp Q g hw hx q =>
  h F0 H0 σ F H env _ Xp _ g hw hx fun F1 H1 v x m r h1 => h' F0 H0 σ F1 H1 env _ Xp _ (g.mv m) h1 (hx.mv m) fun F2 H2 w y m2 r2 h2 => by
    obtain ⟨i, rfl, rfl, h2⟩ := onInt_of (Tp.mv m2 r) h2
    obtain ⟨j, rfl, rfl, h2⟩ := onInt_of r2 h2
    exact ⟨i, j, rfl, rfl, q F2 H2 i j (m.trans m2) h2⟩
def wLRg (a : PEnv → (Int → Int → Prop) → XP → Prop) : WE := fun env Q X => a env (fun i j => RgOk i j ∧ Q (.lst (rng i (j - i).toNat))) X
theorem rl_rng {F : Hp} {i j : Int} : RL K F (rgV i j) (rng i (j - i).toNat) := by
  unfold rgV rng
  generalize List.range (j - i).toNat = l
  induction l with
  | nil => exact .nil
  | cons n l ih => exact .cons (.int _) ih
theorem se_lrg {t : L2.St → Hp → (Int → Int → Hp → Prop) → Prop} {a : PEnv → (Int → Int → Prop) → XP → Prop} (h : SimR K W t a) : SE K W .O (tLstRg t) (wLRg a) := fun F0 H0 σ F H env Qp Xp Q g hw hx q =>
  h F0 H0 σ F H env _ Xp _ g hw hx fun F1 H1 i j m h1 => ⟨h1.1, fun p np => q F1 _ _ (.lst (rng i (j - i).toNat)) (m.trans (mv_new m.fh np)) (.inl ⟨p, _, rfl, m.s.free np, same_free m.fh np, upd_same, .l rl_rng⟩) h1.2⟩
/-! #### methods of built-ins -/
def tyPB (T : String) : P → Bool
  | .str _ => T == "str"
  | .lst _ => T == "list"
  | _ => false
theorem tyPB_of {F H : Hp} (s : Same F H) {T : String} {v : V} {x : P} (r : Tp K F H v x) (h : tyPB T x = true) : tyV K T v H := by
  cases x <;> first | (cases h; done) | skip
  · obtain ⟨rfl, _⟩ := r.str
    exact eq_of_beq h
  · obtain ⟨a, vs, rfl, ha, _⟩ := Tp.lst s r
    exact .inl ⟨eq_of_beq h, vs, SqL.of ha⟩
abbrev PMt := P → List P → (P → Prop) → Prop
def MtS (K : PySem.W.Frag) (k : Rk) (ms : List Mo) (r : V → List V → Hp → VK → Prop) (f : PMt) : Prop := ∀ F H v vs x xs (Qp : P → Prop) (Q : VK), Same F H → Tp K F H v x → AL K F H ms vs xs → f x xs Qp → (∀ F' H' u z, Mv F H F' H' → rel K k H F' H' u z → Qp z → Q u H') → r v vs H Q
def wBM (T : String) (f : PMt) (o : WE) (a : WA) : WE := fun env Q X => o env (fun x => tyPB T x = true ∧ a env (fun xs => f x xs Q) X) X
theorem se_bm {T : String} {ms : List Mo} {r : V → List V → Hp → VK → Prop} {f : PMt} {to : TE} {t : TA} {o : WE} {a : WA} (hm : MtS K k ms r f) (ho : SE K W .C to o) (ha : SimA K W ms t a) : SE K W k (tBM K T r to t) (wBM T f o a) :=
  fun F0 H0 σ F H env Qp Xp Q g hw hx q => ho F0 H0 σ F H env _ Xp _ g hw hx fun F1 H1 v x m1 r1 h1 =>
    ⟨tyPB_of m1.fh r1 h1.1, ha F0 H0 σ F1 H1 env _ Xp _ (g.mv m1) h1.2 (hx.mv m1) fun F2 H2 vs xs m2 r2 h2 =>
      hm F2 H2 v vs x xs Qp Q m2.fh (Tp.mv m2 r1) r2 h2 fun F3 H3 u z m3 r3 h3 => q F3 H3 u z ((m1.trans m2).trans m3) (rel_back (m1.s.trans m2.s) r3) h3⟩
def wBM0 (T : String) (f : PMt) (o : WE) : WE := fun env Q X => o env (fun x => tyPB T x = true ∧ f x [] Q) X
theorem se_bm0 {T : String} {r : V → List V → Hp → VK → Prop} {f : PMt} {to : TE} {o : WE} (hm : MtS K k [] r f) (ho : SE K W .C to o) : SE K W k (tBM0 K T r to) (wBM0 T f o) :=
  fun F0 H0 σ F H env Qp Xp Q g hw hx q => ho F0 H0 σ F H env _ Xp _ g hw hx fun F1 H1 v x m1 r1 h1 =>
    ⟨tyPB_of m1.fh r1 h1.1, hm F1 H1 v [] x [] Qp Q m1.fh r1 trivial h1.2 fun F3 H3 u z m3 r3 h3 => q F3 H3 u z (m1.trans m3) (rel_back m1.s r3) h3⟩
def fStrip : PMt := fun x xs Q => match x, xs with
  | .str a, [.str b] => Q (.str (Txt.stripChars a b))
  | _, _ => False
end
end Pf

namespace Pf
open PySem PySem.Spec PyProof.Rows L2
section
variable {K : PySem.W.Frag} {W : WX} {k : Rk} {ro : Bool}
/-! #### parts of a comprehension -/
theorem se_all {te : BkE} {w : WE} (h : ∀ s Hb C cl fp, SE K W k (te s Hb C cl fp) w) : SE K W k (allE te) w := fun F0 H0 σ F H env Qp Xp Q g hw hx q s Hb C cl fp => h s Hb C cl fp F0 H0 σ F H env Qp Xp Q g hw hx q
theorem st_all {te : BkT} {w : WT} (h : ∀ s Hb C cl fp, ST K W (te s Hb C cl fp) w) : ST K W (allT te) w := fun F0 H0 σ F H env Qp Xp Q g hw hx q s Hb C cl fp => h s Hb C cl fp F0 H0 σ F H env Qp Xp Q g hw hx q
theorem sg_all {ts : List Nat} {te : BkG} {w : P → PEnv → (PEnv → Prop) → Prop} (h : ∀ s Hb C cl fp, SimG K ts (te s Hb C cl fp) w) : SimG K ts (allG te) w := fun F0 H0 σ F H env v x kp kk g r hw q s Hb C cl fp => h s Hb C cl fp F0 H0 σ F H env v x kp kk g r hw q
/-! #### x += e -/
def wAug (i : Nat) (f : Int → Int → Int) (w : WE) : WS := fun D env => match env[i]? with
  | some (some (.v, .int a)) => w env (fun y => onInt y fun b => D.nx (env.set i (some (.v, .int (f a b))))) (D.ex env)
  | _ => False
theorem ss_aug {i : Nat} {f : Int → Int → Int} {t : TE} {w : WE} (h : SE K W .C t w) : SS K W ro (tAug i t (ipI f)) (wAug i f w) := fun F0 H0 σ F H env Dp D g hw d x => by
  unfold wAug at hw
  split at hw
  · rename_i a e
    obtain ⟨v, hs, s⟩ := g.slot i _ _ e
    cases s
    refine ⟨_, hs, ?_⟩
    refine h F0 H0 σ F H env _ _ _ g hw (x.x g) fun F1 H1 v y m r q => ?_
    obtain ⟨b, rfl, rfl, q⟩ := onInt_of r q
    exact ⟨a, b, rfl, rfl, d.1 _ F1 H1 _ ((g.mv m).setV (.int _)) q⟩
  · exact hw.elim
/-! #### a def by its body -/
def startP (N : List Str) (ms : List Mo) (xs : List P) : PEnv := (List.zipWith (fun m x => some (m, x)) ms xs) ++ List.replicate (N.length - xs.length) none
theorem AL.lens {F H : Hp} : ∀ {ms : List Mo} {vs : List V} {xs : List P}, AL K F H ms vs xs → ms.length = xs.length ∧ vs.length = xs.length
  | [], vs, xs, h => by obtain ⟨rfl, rfl⟩ := AL.nil h; exact ⟨rfl, rfl⟩
  | m :: ms, vs, xs, h => by
    obtain ⟨v, vs', x, xs', rfl, rfl, _, r⟩ := AL.cons h
    obtain ⟨a, b⟩ := AL.lens r
    exact ⟨by simp [a], by simp [b]⟩
theorem AL.slot {F H : Hp} : ∀ {ms : List Mo} {vs : List V} {xs : List P} {i : Nat} {m : Mo} {x : P}, AL K F H ms vs xs → (List.zipWith (fun m x => some (m, x)) ms xs)[i]? = some (some (m, x)) → m ≠ .o ∧ ∃ v, vs[i]? = some v ∧ Slot K F H H m v x
  | [], vs, xs, i, m, x, h, e => by simp at e
  | .v :: ms, v :: vs, y :: xs, 0, m, x, h, e => by
    have e : some (Mo.v, y) = some (m, x) := Option.some.inj e
    cases e
    exact ⟨by simp, v, rfl, h.1⟩
  | .b :: ms, v :: vs, y :: xs, 0, m, x, h, e => by
    have e : some (Mo.b, y) = some (m, x) := Option.some.inj e
    cases e
    exact ⟨by simp, v, rfl, h.1⟩
  | .v :: ms, v :: vs, y :: xs, i + 1, m, x, h, e => AL.slot (ms := ms) (i := i) h.2 e
  | .b :: ms, v :: vs, y :: xs, i + 1, m, x, h, e => AL.slot (ms := ms) (i := i) h.2 e
  | .o :: ms, vs, xs, i, m, x, h, e => by unfold AL at h; exact h.elim
  | .v :: _, [], _, _, _, _, h, _ => h.elim
  | .b :: _, [], _, _, _, _, h, _ => h.elim
  | .v :: _, _ :: _, [], _, _, _, h, _ => h.elim
  | .b :: _, _ :: _, [], _, _, _, h, _ => h.elim
theorem good_start {F H : Hp} {N : List Str} {ms : List Mo} {vs : List V} {xs : List P} (s : Same F H) (h : AL K F H ms vs xs) : Good K F H (L2.start N vs) F H (startP N ms xs) := by
  obtain ⟨l1, l2⟩ := h.lens
  have key : ∀ (i : Nat) (m : Mo) (x : P), (startP N ms xs)[i]? = some (some (m, x)) → m ≠ .o ∧ ∃ v, (L2.start N vs)[i]? = some (some v) ∧ Slot K F H H m v x := fun i m x e => by
    unfold startP at e
    by_cases hi : i < xs.length
    · rw [List.getElem?_append_left (by simp [l1]; exact hi)] at e
      obtain ⟨a, v, ev, sl⟩ := h.slot e
      refine ⟨a, v, ?_, sl⟩
      unfold L2.start
      rw [List.getElem?_append_left (by simp [l2]; exact hi), List.getElem?_map, ev]
      rfl
    · rw [List.getElem?_append_right (by simp [l1]; omega)] at e
      rw [List.getElem?_replicate] at e
      split at e <;> cases e
  refine ⟨s, Same.refl _, .refl, ?_, fun i m x e => (key i m x e).2, fun i x a e _ => absurd rfl (key i _ x e).1, fun i j x y a _ e _ _ _ => absurd rfl (key i _ x e).1⟩
  unfold startP L2.start
  simp [l1, l2]
/-- what is wanted behind a def's body -/
def endsP (ro : Bool) (Q : P → Prop) (X : XP) : PEnds := ⟨fun _ => Q .non, Q, fun _ => False, fun _ => False, fun _ => X⟩
section
variable {Pg : Program} {w : World} {mg : Str → Option Value} {base : Heap} {x qual : Str} {st : Stmt} {f : Addr} {fd : FuncData} {N ps : List Str} {kk : Nat} {ms : List Mo} {p : PSp} {b : WS}
theorem ends_ok {F H : Hp} {Q : VK} {Qp : P → Prop} {Xp : XP} (q : ∀ F' H' v x, Mv F H F' H' → Res K ro H F' H' v x → Qp x → Q v H') : DOk K ro F H (endsP ro Qp Xp) { nx := fun _ H' => Q .non H', rt := Q } := by
  refine ⟨fun σ F' H' env g h => ?_, fun F' H' v x m r h => q F' H' v x m r h, fun _ _ _ _ _ h => h.elim, fun _ _ _ _ _ h => h.elim⟩
  refine q F' H' .non .non g.m ?_ h
  cases ro with
  | true => exact .inr ⟨rfl, R.non⟩
  | false => exact R.non
theorem fn_sim (F : Fun K x qual st f fd) (S : FnScope N ps (defScope st)) (hm : ms.length = ps.length)
    (hbody : ∀ (cdv : Value) (A : Around) (outer : List Env) (s : Shared) (H : Hp) (E : XK), Room kk (A.deeper (envOfC qual (defScope st) s.heap.objs.size f cdv)) → ∃ t, PSs (cxOf CX0 Pg w K mg base N qual (defScope st) f cdv A outer s H E).nox (defBody st) t ∧ SS K noW ro t b)
    (hX : ∀ xs Q X, p xs Q X → p xs Q noX) (hp : ∀ xs Q, p xs Q noX → b (endsP ro Q noX) (startP N ms xs)) : FnOk Pg w K mg base CX0 (kk + 1) f fd ps (spOf K ms ro p) := by
  refine F.ok S (fun vs H Q E ⟨F1, xs, Qp, Xp, s, al, _⟩ => ?_) fun cdv A outer s H vs Q E hr ⟨F1, xs, Qp, Xp, sm, al, hq, q, _⟩ => ?_
  · obtain ⟨l1, l2⟩ := al.lens
    rw [l2, ← l1, hm]
  · obtain ⟨t, ht, sim⟩ := hbody cdv A outer s H E hr
    exact ⟨t, ht, sim F1 H _ F1 H _ _ _ (good_start sm al) (hp xs Qp (hX _ _ _ hq)) (ends_ok q) fun _ _ _ _ _ _ _ _ _ _ z => z⟩
theorem fn_simX (F : Fun K x qual st f fd) (S : FnScope N ps (defScope st)) (hm : ms.length = ps.length)
    (hbody : ∀ (cdv : Value) (A : Around) (outer : List Env) (s : Shared) (H : Hp) (E : XK), Room kk (A.deeper (envOfC qual (defScope st) s.heap.objs.size f cdv)) → ∃ t, PSs (cxOf (L2.CX Pg w) Pg w K mg base N qual (defScope st) f cdv A outer s H E) (defBody st) t ∧ SS K (fun cls d _ H => E cls d H) ro t b)
    (hp : ∀ xs Q X, p xs Q X → b (endsP ro Q X) (startP N ms xs)) : FnOk Pg w K mg base (L2.CX Pg w) (kk + 1) f fd ps (spOf K ms ro p) := by
  refine F.okX S (fun vs H Q E ⟨F1, xs, Qp, Xp, s, al, _⟩ => ?_) fun cdv A outer s H vs Q E hr ⟨F1, xs, Qp, Xp, sm, al, hq, q, qx⟩ => ?_
  · obtain ⟨l1, l2⟩ := al.lens
    rw [l2, ← l1, hm]
  · obtain ⟨t, ht, sim⟩ := hbody cdv A outer s H E hr
    exact ⟨t, ht, sim F1 H _ F1 H _ _ _ (good_start sm al) (hp xs Qp Xp hq) (ends_ok q) fun σ F' H' env C d ns ys g f h => qx F' H' C d ns ys g.m f h⟩
/-- the law itself -/
def spLaw (K : PySem.W.Frag) : Sp := fun vs H Q _ => ∃ (a : Addr) (ns : List Int), vs = [.ref a] ∧ SqL K H a (ns.map V.int) ∧ ns.length ≤ 63 ∧ ∀ H', Q (.bl true) H'
def pLaw : PSp := fun xs Q _ => ∃ ns : List Int, xs = [.scr ns] ∧ ns.length ≤ 63 ∧ Q (.bl true)
theorem law_ok {CX : CXT} (F : FnOk Pg w K mg base CX kk f fd ps (spOf K [.v] false pLaw)) : FnOk Pg w K mg base CX kk f fd ps (spLaw K) :=
  F.imp fun vs H Q E ⟨a, ns, e, hs, hn, q⟩ => ⟨H, [.scr ns], fun x => x = .bl true, noX, Same.refl _, e ▸ ⟨.scr hs, trivial⟩, ⟨ns, rfl, hn, rfl⟩, fun F' H' v x m r h => by
    subst h
    cases r
    exact q H', fun _ _ _ _ _ _ _ _ z => z.elim⟩
end
end
end Pf

namespace Pf
open PySem PySem.Spec PyProof.Rows L2
/-! ### the pure readings, step by step -/
theorem isa_eq {x : P} {T t : String} {r : Bool} {Q : P → Prop} (h : tyN x = some t) (hT : tyS.contains T = true) (e : isaB t T = r) : (fIsi [x, .ty T] Q) = (Q (.bl r)) :=
  propext ⟨fun ⟨_, e', _, q⟩ => by rw [h] at e'; cases e'; exact e ▸ q, fun q => ⟨t, h, hT, e ▸ q⟩⟩
theorem ap_seq {a b : WS} {D : PEnds} {env : PEnv} : (wSeq a b D env) = (a { D with nx := b D } env) := rfl
theorem ap_nx {D : PEnds} {env : PEnv} : (wNx D env) = (D.nx env) := rfl
theorem ap_av {i : Nat} {w : WE} {D : PEnds} {env : PEnv} : (wAV i w D env) = (w env (fun x => D.nx (env.set i (some (.v, x)))) (D.ex env)) := rfl
theorem ap_ao {i : Nat} {w : WE} {D : PEnds} {env : PEnv} : (wAO i w D env) = (w env (fun x => D.nx (env.set i (some (.o, x)))) (D.ex env)) := rfl
theorem ap_ag {w : WE} {g : P → PEnv → (PEnv → Prop) → Prop} {D : PEnds} {env : PEnv} : (wAG w g D env) = (w env (fun x => g x env D.nx) (D.ex env)) := rfl
theorem ap_ret {w : WE} {D : PEnds} {env : PEnv} : (wRet w D env) = (w env D.rt (D.ex env)) := rfl
theorem ap_retN {D : PEnds} {env : PEnv} : (wRetN D env) = (D.rt .non) := rfl
theorem ap_brk {D : PEnds} {env : PEnv} : (wBrk D env) = (D.bk env) := rfl
theorem ap_cnt {D : PEnds} {env : PEnv} : (wCnt D env) = (D.ct env) := rfl
theorem ap_do {w : WE} {D : PEnds} {env : PEnv} : (wDo w D env) = (w env (fun _ => D.nx env) (D.ex env)) := rfl
theorem ap_ifs {c : WT} {a b : WS} {D : PEnds} {env : PEnv} : (wIfS c a b D env) = (c env (fun d => if d = true then a D env else b D env) (D.ex env)) := rfl
theorem ap_app {i : Nat} {w : WE} {D : PEnds} {env : PEnv} : (wApp i w D env) = (ownL env i fun xs => w env (fun x => xs.length < sizeLine ∧ D.nx (env.set i (some (.o, .lst (xs ++ [x]))))) (D.ex env)) := rfl
theorem ap_ext {i : Nat} {w : WE} {D : PEnds} {env : PEnv} : (wExt i w D env) = (ownL env i fun xs => w env (fun x => onLst x fun ys => xs.length + ys.length ≤ sizeLine ∧ D.nx (env.set i (some (.o, .lst (xs ++ ys))))) (D.ex env)) := rfl
theorem ap_set {i : Nat} {w wi : WE} {D : PEnds} {env : PEnv} : (wSet i w wi D env) = (ownL env i fun xs => w env (fun x => wi env (fun y => onInt y fun k => ∃ j, ixN xs.length k = some j ∧ D.nx (env.set i (some (.o, .lst (xs.set j x))))) (D.ex env)) (D.ex env)) := rfl
theorem ap_dput {i : Nat} {y w : WE} {D : PEnds} {env : PEnv} : (wDPut i y w D env) = (ownD env i fun ks xs => w env (fun x => y env (fun z => onKey z fun k => ks.length < sizeLine ∧ D.nx (env.set i (some (.o, .dct (putP ks xs k x).1 (putP ks xs k x).2)))) (D.ex env)) (D.ex env)) := rfl
theorem ap_v {i : Nat} {env : PEnv} {Q : P → Prop} {X : XP} : (wV i env Q X) = (match env[i]? with | some (some (.v, x)) => Q x | _ => False) := rfl
theorem ap_c {i : Nat} {env : PEnv} {Q : P → Prop} {X : XP} : (wC i env Q X) = (match env[i]? with | some (some (_, x)) => Q x | _ => False) := rfl
theorem ap_k {x : P} {env : PEnv} {Q : P → Prop} {X : XP} : (wK x env Q X) = (Q x) := rfl
theorem ap_sc {a : WE} {env : PEnv} {Q : P → Prop} {X : XP} : (wSc a env Q X) = (a env (fun x => scB x = true ∧ Q x) X) := rfl
theorem ap_op {f : PF2} {a b : WE} {env : PEnv} {Q : P → Prop} {X : XP} : (wOp f a b env Q X) = (a env (fun x => b env (fun y => f x y Q) X) X) := rfl
theorem ap_un {f : PF1} {a : WE} {env : PEnv} {Q : P → Prop} {X : XP} : (wUn f a env Q X) = (a env (fun x => f x Q) X) := rfl
theorem ap_t {a : WE} {env : PEnv} {Q : Bool → Prop} {X : XP} : (wT a env Q X) = (a env (fun x => onB x Q) X) := rfl
theorem ap_tr {a : WE} {env : PEnv} {Q : Bool → Prop} {X : XP} : (wTr a env Q X) = (a env (fun x => onT x Q) X) := rfl
theorem ap_andV {a b : WE} {env : PEnv} {Q : P → Prop} {X : XP} : (wAndV a b env Q X) = (a env (fun x => onB x fun c => if c = true then b env Q X else Q (.bl false)) X) := rfl
theorem ap_orV {a b : WE} {env : PEnv} {Q : P → Prop} {X : XP} : (wOrV a b env Q X) = (a env (fun x => onB x fun c => if c = true then Q (.bl true) else b env Q X) X) := rfl
theorem ap_notV {a : WE} {env : PEnv} {Q : P → Prop} {X : XP} : (wNotV a env Q X) = (a env (fun x => onB x fun c => Q (.bl (!c))) X) := rfl
theorem ap_and {a b : WT} {env : PEnv} {Q : Bool → Prop} {X : XP} : (wAnd a b env Q X) = (a env (fun c => if c = true then b env Q X else Q false) X) := rfl
theorem ap_or {a b : WT} {env : PEnv} {Q : Bool → Prop} {X : XP} : (wOr a b env Q X) = (a env (fun c => if c = true then Q true else b env Q X) X) := rfl
theorem ap_not {a : WT} {env : PEnv} {Q : Bool → Prop} {X : XP} : (wNot a env Q X) = (a env (fun c => Q (!c)) X) := rfl
theorem ap_if {c : WT} {a b : WE} {env : PEnv} {Q : P → Prop} {X : XP} : (wIf c a b env Q X) = (c env (fun d => if d = true then a env Q X else b env Q X) X) := rfl
theorem ap_chain {f f' : PF2} {a b c : WE} {env : PEnv} {Q : P → Prop} {X : XP} : (wChain f f' a b c env Q X) = (a env (fun x => b env (fun y => f x y fun z => onB z fun k => if k = true then c env (fun u => f' y u Q) X else Q (.bl false)) X) X) := rfl
theorem ap_nil {env : PEnv} {Q : List P → Prop} {X : XP} : (wNil env Q X) = (Q []) := rfl
theorem ap_cons {a : WE} {r : WA} {env : PEnv} {Q : List P → Prop} {X : XP} : (wCons a r env Q X) = (a env (fun x => r env (fun xs => Q (x :: xs)) X) X) := rfl
theorem ap_tup {a : WA} {env : PEnv} {Q : P → Prop} {X : XP} : (wTup a env Q X) = (a env (fun xs => xs.length ≤ sizeLine ∧ Q (.tup xs)) X) := rfl
theorem ap_lst {a : WA} {env : PEnv} {Q : P → Prop} {X : XP} : (wLst a env Q X) = (a env (fun xs => xs.length ≤ sizeLine ∧ Q (.lst xs)) X) := rfl
theorem ap_cb {f : PFn} {a : WA} {env : PEnv} {Q : P → Prop} {X : XP} : (wCB f a env Q X) = (a env (fun xs => f xs Q) X) := rfl
theorem ap_call0 {p : PSp} {a : WA} {env : PEnv} {Q : P → Prop} {X : XP} : (wCall0 p a env Q X) = (a env (fun xs => p xs Q noX) X) := rfl
theorem ap_callX {p : PSp} {a : WA} {env : PEnv} {Q : P → Prop} {X : XP} : (wCallX p a env Q X) = (a env (fun xs => p xs Q X) X) := rfl
theorem ap_dget {d y : WE} {env : PEnv} {Q : P → Prop} {X : XP} : (wDGet d y env Q X) = (d env (fun x => y env (fun z => onDct x fun ks xs => onKey z fun k => ∃ u, valP ks xs k = some u ∧ Q u) X) X) := rfl
theorem ap_din {n : Bool} {d y : WE} {env : PEnv} {Q : P → Prop} {X : XP} : (wDIn n y d env Q X) = (y env (fun z => d env (fun x => onDct x fun ks xs => onKey z fun k => Q (.bl (if n = true then !(valP ks xs k).isSome else (valP ks xs k).isSome))) X) X) := rfl
theorem ap_dnew {env : PEnv} {Q : P → Prop} {X : XP} : (wDNew env Q X) = (Q (.dct [] [])) := rfl
theorem ap_lrg {a : PEnv → (Int → Int → Prop) → XP → Prop} {env : PEnv} {Q : P → Prop} {X : XP} : (wLRg a env Q X) = (a env (fun i j => RgOk i j ∧ Q (.lst (rng i (j - i).toNat))) X) := rfl
theorem ap_rg1 {a : WE} {env : PEnv} {Q : Int → Int → Prop} {X : XP} : (wRg1 a env Q X) = (a env (fun x => onInt x fun n => Q 0 n) X) := rfl
theorem ap_rg2 {a b : WE} {env : PEnv} {Q : Int → Int → Prop} {X : XP} : (wRg2 a b env Q X) = (a env (fun x => b env (fun y => onInt x fun i => onInt y fun j => Q i j) X) X) := rfl
theorem ap_ono {env : PEnv} {Q : Option Int → Prop} {X : XP} : (wONo env Q X) = (Q none) := rfl
theorem ap_oso {a : WE} {env : PEnv} {Q : Option Int → Prop} {X : XP} : (wOSo a env Q X) = (a env (fun x => onInt x fun i => Q (some i)) X) := rfl
theorem ap_sl {f : PSl} {a : WE} {l h : WO} {env : PEnv} {Q : P → Prop} {X : XP} : (wSl f a l h env Q X) = (a env (fun x => l env (fun lo => h env (fun hi => f x lo hi Q) X) X) X) := rfl
theorem ap_bm {T : String} {f : PMt} {o : WE} {a : WA} {env : PEnv} {Q : P → Prop} {X : XP} : (wBM T f o a env Q X) = (o env (fun x => tyPB T x = true ∧ a env (fun xs => f x xs Q) X) X) := rfl
theorem ap_bm0 {T : String} {f : PMt} {o : WE} {env : PEnv} {Q : P → Prop} {X : XP} : (wBM0 T f o env Q X) = (o env (fun x => tyPB T x = true ∧ f x [] Q) X) := rfl
theorem ap_fI {f : Int → Int → Int} {x y : P} {Q : P → Prop} : (fI f x y Q) = (onInt x fun i => onInt y fun j => Q (.int (f i j))) := rfl
theorem ap_fB {p : Int → Int → Bool} {x y : P} {Q : P → Prop} : (fB p x y Q) = (onInt x fun i => onInt y fun j => Q (.bl (p i j))) := rfl
theorem ap_fIc {C : Int → Int → Prop} {f : Int → Int → Int} {x y : P} {Q : P → Prop} : (fIc C f x y Q) = (onInt x fun i => onInt y fun j => C i j ∧ Q (.int (f i j))) := rfl
theorem ap_fAddS {x y : P} {Q : P → Prop} : (fAddS x y Q) = (onStr x fun a => onStr y fun b => a.length + b.length ≤ sizeLine ∧ Q (.str (a ++ b))) := rfl
theorem ap_fSB {p : Str → Str → Bool} {x y : P} {Q : P → Prop} : (fSB p x y Q) = (onStr x fun a => onStr y fun b => Q (.bl (p a b))) := rfl
theorem ap_fIxL {x y : P} {Q : P → Prop} : (fIxL x y Q) = (onLst x fun xs => onInt y fun i => ∃ z, atI xs i = some z ∧ Q z) := rfl
theorem ap_fIxT {x y : P} {Q : P → Prop} : (fIxT x y Q) = (onTup x fun xs => onInt y fun i => ∃ z, atI xs i = some z ∧ Q z) := rfl
theorem ap_fIxS {x y : P} {Q : P → Prop} : (fIxS x y Q) = (onStr x fun z => onInt y fun i => ∃ c, atI z.cps.toList i = some c ∧ Q (.str ⟨#[c]⟩)) := rfl
theorem ap_fIxScr {xs : List Int} {y : P} {Q : P → Prop} : (fIxScr (.scr xs) y Q) = (onInt y fun i => ∃ n, atI xs i = some n ∧ Q (.int n)) := rfl
theorem ap_fCat {x y : P} {Q : P → Prop} : (fCat x y Q) = (onLst x fun xs => onLst y fun ys => xs.length + ys.length ≤ sizeLine ∧ Q (.lst (xs ++ ys))) := rfl
theorem ap_fRep {x y : P} {Q : P → Prop} : (fRep x y Q) = (onLst x fun xs => onInt y fun k => -(2 ^ 63) ≤ k ∧ k < 2 ^ 63 ∧ xs.length * k.toNat ≤ sizeLine ∧ Q (.lst (List.replicate k.toNat xs).flatten)) := rfl
theorem ap_fCatT {x y : P} {Q : P → Prop} : (fCatT x y Q) = (onTup x fun xs => onTup y fun ys => xs ≠ [] ∧ xs.length + ys.length ≤ sizeLine ∧ Q (.tup (xs ++ ys))) := rfl
theorem ap_fEqD {x y : P} {Q : P → Prop} : (fEqD x y Q) = (shP x = true ∧ shP y = true ∧ Q (.bl (eqP x y))) := rfl
theorem ap_fNeD {x y : P} {Q : P → Prop} : (fNeD x y Q) = (shP x = true ∧ shP y = true ∧ Q (.bl !(eqP x y))) := rfl
theorem ap_fIsN {x y : P} {Q : P → Prop} : (fIsN x y Q) = (isNon y = true ∧ Q (.bl (isNon x))) := rfl
theorem ap_fNotN {x y : P} {Q : P → Prop} : (fNotN x y Q) = (isNon y = true ∧ Q (.bl !(isNon x))) := rfl
theorem ap_fSlL {x : P} {lo hi : Option Int} {Q : P → Prop} : (fSlL x lo hi Q) = (onLst x fun xs => Q (.lst (cutP xs lo hi))) := rfl
theorem ap_fSlS {x : P} {lo hi : Option Int} {Q : P → Prop} : (fSlS x lo hi Q) = (onStr x fun z => Q (.str (cutS z lo hi))) := rfl
theorem ap_fSlT {x : P} {lo hi : Option Int} {Q : P → Prop} : (fSlT x lo hi Q) = (onTup x fun xs => ¬ (HT.sIx xs.length 0 lo = 0 ∧ HT.sIx xs.length xs.length hi = xs.length) ∧ Q (.tup (cutP xs lo hi))) := rfl
theorem ap_eq_i {a b : Int} {Q : P → Prop} : (fEq (.int a) (.int b) Q) = (Q (.bl (decide (a = b)))) := propext ⟨fun ⟨_, e, h⟩ => by cases e; exact h, fun h => ⟨_, rfl, h⟩⟩
theorem ap_ne_i {a b : Int} {Q : P → Prop} : (fNe (.int a) (.int b) Q) = (Q (.bl !(decide (a = b)))) := propext ⟨fun ⟨_, e, h⟩ => by cases e; exact h, fun h => ⟨_, rfl, h⟩⟩
theorem ap_eq_s {a b : Str} {Q : P → Prop} : (fEq (.str a) (.str b) Q) = (Q (.bl (decide (a = b)))) := propext ⟨fun ⟨_, e, h⟩ => by cases e; exact h, fun h => ⟨_, rfl, h⟩⟩
theorem ap_ne_s {a b : Str} {Q : P → Prop} : (fNe (.str a) (.str b) Q) = (Q (.bl !(decide (a = b)))) := propext ⟨fun ⟨_, e, h⟩ => by cases e; exact h, fun h => ⟨_, rfl, h⟩⟩
theorem ap_eq_b {a b : Bool} {Q : P → Prop} : (fEq (.bl a) (.bl b) Q) = (Q (.bl (decide (a = b)))) := propext ⟨fun ⟨_, e, h⟩ => by cases e; exact h, fun h => ⟨_, rfl, h⟩⟩
theorem ap_ne_b {a b : Bool} {Q : P → Prop} : (fNe (.bl a) (.bl b) Q) = (Q (.bl !(decide (a = b)))) := propext ⟨fun ⟨_, e, h⟩ => by cases e; exact h, fun h => ⟨_, rfl, h⟩⟩
theorem ap_onInt {n : Int} {Q : Int → Prop} : (onInt (.int n) Q) = (Q n) := rfl
theorem ap_onB {n : Bool} {Q : Bool → Prop} : (onB (.bl n) Q) = (Q n) := rfl
theorem ap_onLst {xs : List P} {Q : List P → Prop} : (onLst (.lst xs) Q) = (Q xs) := rfl
theorem ap_onTup {xs : List P} {Q : List P → Prop} : (onTup (.tup xs) Q) = (Q xs) := rfl
theorem ap_onStr {n : Str} {Q : Str → Prop} : (onStr (.str n) Q) = (Q n) := rfl
theorem ap_onDct {ks : List Key} {xs : List P} {Q : List Key → List P → Prop} : (onDct (.dct ks xs) Q) = (Q ks xs) := rfl
theorem ap_onKeyI {n : Int} {Q : Key → Prop} : (onKey (.int n) Q) = (Q (Sum.inl n)) := rfl
theorem ap_onKeyS {n : Str} {Q : Key → Prop} : (onKey (.str n) Q) = (Q (Sum.inr n)) := rfl
theorem ap_fInL {n : Bool} {x : P} {xs : List P} {Q : P → Prop} : (fIn n x (.lst xs) Q) = (flatP x = true ∧ xs.all flatP = true ∧ Q (.bl (if n then !inP x xs else inP x xs))) := rfl
theorem ap_fInT {n : Bool} {x : P} {xs : List P} {Q : P → Prop} : (fIn n x (.tup xs) Q) = (flatP x = true ∧ xs.all flatP = true ∧ Q (.bl (if n then !inP x xs else inP x xs))) := rfl
theorem ap_lenL {xs : List P} {Q : P → Prop} : (fLen [.lst xs] Q) = (Q (.int xs.length)) := rfl
theorem ap_lenT {xs : List P} {Q : P → Prop} : (fLen [.tup xs] Q) = (Q (.int xs.length)) := rfl
theorem ap_lenC {xs : List Int} {Q : P → Prop} : (fLen [.scr xs] Q) = (Q (.int xs.length)) := rfl
theorem ap_lenS {z : Str} {Q : P → Prop} : (fLenS [.str z] Q) = (Q (.int z.length)) := rfl
theorem ap_lenD {ks : List Key} {xs : List P} {Q : P → Prop} : (fLenD [.dct ks xs] Q) = (Q (.int ks.length)) := rfl
theorem ap_intI {n : Int} {Q : P → Prop} : (fInt1 [.int n] Q) = (Q (.int n)) := rfl
theorem ap_intB {n : Bool} {Q : P → Prop} : (fInt1 [.bl n] Q) = (Q (.int (if n then 1 else 0))) := rfl
theorem ap_boolI {n : Int} {Q : P → Prop} : (fBool1 [.int n] Q) = (Q (.bl (n != 0))) := rfl
theorem ap_boolB {n : Bool} {Q : P → Prop} : (fBool1 [.bl n] Q) = (Q (.bl n)) := rfl
theorem ap_listL {xs : List P} {Q : P → Prop} : (fList [.lst xs] Q) = (Q (.lst xs)) := rfl
theorem ap_listT {xs : List P} {Q : P → Prop} : (fList [.tup xs] Q) = (Q (.lst xs)) := rfl
theorem ap_tupL {xs : List P} {Q : P → Prop} : (fTupL [.lst xs] Q) = (Q (.tup xs)) := rfl
theorem ap_mm {f : Int → Int → Int} {i j : Int} {Q : P → Prop} : (fMM f [.int i, .int j] Q) = (Q (.int (f i j))) := rfl
theorem ap_strip {a b : Str} {Q : P → Prop} : (fStrip (.str a) [.str b] Q) = (Q (.str (Txt.stripChars a b))) := rfl
theorem ap_wgN {i : Nat} {x : P} {env : PEnv} {k : PEnv → Prop} : (wgN i x env k) = (k (env.set i (some (.v, x)))) := rfl
theorem ap_wgT {g : List P → PEnv → (PEnv → Prop) → Prop} {xs : List P} {env : PEnv} {k : PEnv → Prop} : (wgT g (.tup xs) env k) = (g xs env k) := rfl
theorem ap_wgLen {n : Nat} {g : List P → PEnv → (PEnv → Prop) → Prop} {xs : List P} {env : PEnv} {k : PEnv → Prop} : (wgLen n g xs env k) = (xs.length = n ∧ g xs env k) := rfl
theorem ap_wgNil {env : PEnv} {k : PEnv → Prop} : (wgNil [] env k) = (k env) := rfl
theorem ap_wgCons {g : P → PEnv → (PEnv → Prop) → Prop} {gs : List P → PEnv → (PEnv → Prop) → Prop} {x : P} {xs : List P} {env : PEnv} {k : PEnv → Prop} : (wgCons g gs (x :: xs) env k) = (g x env fun e => gs xs e k) := rfl
theorem ap_wIL {a : WE} {env : PEnv} {Q : List P → Prop} {X : XP} : (wIL a env Q X) = (a env (fun x => onLst x Q) X) := rfl
theorem ap_wIT {a : WE} {env : PEnv} {Q : List P → Prop} {X : XP} : (wIT a env Q X) = (a env (fun x => onTup x Q) X) := rfl
theorem ap_wILv {i : Nat} {env : PEnv} {Q : List P → Prop} {X : XP} : (wILv i env Q X) = (match env[i]? with | some (some (.v, .lst xs)) => Q xs | some (some (.b, .lst xs)) => Q xs | _ => False) := rfl
theorem ap_wIR1 {a : WA} {env : PEnv} {Q : List P → Prop} {X : XP} : (wIR1 a env Q X) = (a env (fun xs => match xs with | [.int j] => -(2 ^ 62) ≤ j ∧ j < 2 ^ 62 ∧ Q (rng 0 j.toNat) | _ => False) X) := rfl
theorem ap_wIR2 {a : WA} {env : PEnv} {Q : List P → Prop} {X : XP} : (wIR2 a env Q X) = (a env (fun xs => match xs with | [.int i, .int j] => (-(2 ^ 62) ≤ i ∧ i < 2 ^ 62 ∧ -(2 ^ 62) ≤ j ∧ j < 2 ^ 62) ∧ Q (rng i (j - i).toNat) | _ => False) X) := rfl
theorem ap_wIE {a : WA} {env : PEnv} {Q : List P → Prop} {X : XP} : (wIE a env Q X) = (a env (fun xs => match xs with | [.lst xs] => Q (enumP xs) | _ => False) X) := rfl
theorem ap_wIZ {a : WA} {env : PEnv} {Q : List P → Prop} {X : XP} : (wIZ a env Q X) = (a env (fun xs => match xs with | [.lst xs, .lst ys] => Q (zipP xs ys) | _ => False) X) := rfl
theorem ap_wIS {a : WE} {env : PEnv} {Q : List P → Prop} {X : XP} : (wIS a env Q X) = (a env (fun x => match x with | .str z => Q (signsP z) | _ => False) X) := rfl
theorem ap_isa_NoneType_bool {Q : P → Prop} : (fIsi [.non, .ty "bool"] Q) = (Q (.bl false)) := isa_eq rfl (by decide) (by decide)
theorem ap_isa_NoneType_int {Q : P → Prop} : (fIsi [.non, .ty "int"] Q) = (Q (.bl false)) := isa_eq rfl (by decide) (by decide)
theorem ap_isa_NoneType_str {Q : P → Prop} : (fIsi [.non, .ty "str"] Q) = (Q (.bl false)) := isa_eq rfl (by decide) (by decide)
theorem ap_isa_NoneType_list {Q : P → Prop} : (fIsi [.non, .ty "list"] Q) = (Q (.bl false)) := isa_eq rfl (by decide) (by decide)
theorem ap_isa_NoneType_tuple {Q : P → Prop} : (fIsi [.non, .ty "tuple"] Q) = (Q (.bl false)) := isa_eq rfl (by decide) (by decide)
theorem ap_isa_NoneType_dict {Q : P → Prop} : (fIsi [.non, .ty "dict"] Q) = (Q (.bl false)) := isa_eq rfl (by decide) (by decide)
theorem ap_isa_bool_bool {b : Bool} {Q : P → Prop} : (fIsi [(.bl b), .ty "bool"] Q) = (Q (.bl true)) := isa_eq rfl (by decide) (by decide)
theorem ap_isa_bool_int {b : Bool} {Q : P → Prop} : (fIsi [(.bl b), .ty "int"] Q) = (Q (.bl true)) := isa_eq rfl (by decide) (by decide)
theorem ap_isa_bool_str {b : Bool} {Q : P → Prop} : (fIsi [(.bl b), .ty "str"] Q) = (Q (.bl false)) := isa_eq rfl (by decide) (by decide)
theorem ap_isa_bool_list {b : Bool} {Q : P → Prop} : (fIsi [(.bl b), .ty "list"] Q) = (Q (.bl false)) := isa_eq rfl (by decide) (by decide)
theorem ap_isa_bool_tuple {b : Bool} {Q : P → Prop} : (fIsi [(.bl b), .ty "tuple"] Q) = (Q (.bl false)) := isa_eq rfl (by decide) (by decide)
theorem ap_isa_bool_dict {b : Bool} {Q : P → Prop} : (fIsi [(.bl b), .ty "dict"] Q) = (Q (.bl false)) := isa_eq rfl (by decide) (by decide)
theorem ap_isa_int_bool {n : Int} {Q : P → Prop} : (fIsi [(.int n), .ty "bool"] Q) = (Q (.bl false)) := isa_eq rfl (by decide) (by decide)
theorem ap_isa_int_int {n : Int} {Q : P → Prop} : (fIsi [(.int n), .ty "int"] Q) = (Q (.bl true)) := isa_eq rfl (by decide) (by decide)
theorem ap_isa_int_str {n : Int} {Q : P → Prop} : (fIsi [(.int n), .ty "str"] Q) = (Q (.bl false)) := isa_eq rfl (by decide) (by decide)
theorem ap_isa_int_list {n : Int} {Q : P → Prop} : (fIsi [(.int n), .ty "list"] Q) = (Q (.bl false)) := isa_eq rfl (by decide) (by decide)
theorem ap_isa_int_tuple {n : Int} {Q : P → Prop} : (fIsi [(.int n), .ty "tuple"] Q) = (Q (.bl false)) := isa_eq rfl (by decide) (by decide)
theorem ap_isa_int_dict {n : Int} {Q : P → Prop} : (fIsi [(.int n), .ty "dict"] Q) = (Q (.bl false)) := isa_eq rfl (by decide) (by decide)
theorem ap_isa_str_bool {z : Str} {Q : P → Prop} : (fIsi [(.str z), .ty "bool"] Q) = (Q (.bl false)) := isa_eq rfl (by decide) (by decide)
theorem ap_isa_str_int {z : Str} {Q : P → Prop} : (fIsi [(.str z), .ty "int"] Q) = (Q (.bl false)) := isa_eq rfl (by decide) (by decide)
theorem ap_isa_str_str {z : Str} {Q : P → Prop} : (fIsi [(.str z), .ty "str"] Q) = (Q (.bl true)) := isa_eq rfl (by decide) (by decide)
theorem ap_isa_str_list {z : Str} {Q : P → Prop} : (fIsi [(.str z), .ty "list"] Q) = (Q (.bl false)) := isa_eq rfl (by decide) (by decide)
theorem ap_isa_str_tuple {z : Str} {Q : P → Prop} : (fIsi [(.str z), .ty "tuple"] Q) = (Q (.bl false)) := isa_eq rfl (by decide) (by decide)
theorem ap_isa_str_dict {z : Str} {Q : P → Prop} : (fIsi [(.str z), .ty "dict"] Q) = (Q (.bl false)) := isa_eq rfl (by decide) (by decide)
theorem ap_isa_list_bool {xs : List P} {Q : P → Prop} : (fIsi [(.lst xs), .ty "bool"] Q) = (Q (.bl false)) := isa_eq rfl (by decide) (by decide)
theorem ap_isa_list_int {xs : List P} {Q : P → Prop} : (fIsi [(.lst xs), .ty "int"] Q) = (Q (.bl false)) := isa_eq rfl (by decide) (by decide)
theorem ap_isa_list_str {xs : List P} {Q : P → Prop} : (fIsi [(.lst xs), .ty "str"] Q) = (Q (.bl false)) := isa_eq rfl (by decide) (by decide)
theorem ap_isa_list_list {xs : List P} {Q : P → Prop} : (fIsi [(.lst xs), .ty "list"] Q) = (Q (.bl true)) := isa_eq rfl (by decide) (by decide)
theorem ap_isa_list_tuple {xs : List P} {Q : P → Prop} : (fIsi [(.lst xs), .ty "tuple"] Q) = (Q (.bl false)) := isa_eq rfl (by decide) (by decide)
theorem ap_isa_list_dict {xs : List P} {Q : P → Prop} : (fIsi [(.lst xs), .ty "dict"] Q) = (Q (.bl false)) := isa_eq rfl (by decide) (by decide)
theorem ap_isa_tuple_bool {xs : List P} {Q : P → Prop} : (fIsi [(.tup xs), .ty "bool"] Q) = (Q (.bl false)) := isa_eq rfl (by decide) (by decide)
theorem ap_isa_tuple_int {xs : List P} {Q : P → Prop} : (fIsi [(.tup xs), .ty "int"] Q) = (Q (.bl false)) := isa_eq rfl (by decide) (by decide)
theorem ap_isa_tuple_str {xs : List P} {Q : P → Prop} : (fIsi [(.tup xs), .ty "str"] Q) = (Q (.bl false)) := isa_eq rfl (by decide) (by decide)
theorem ap_isa_tuple_list {xs : List P} {Q : P → Prop} : (fIsi [(.tup xs), .ty "list"] Q) = (Q (.bl false)) := isa_eq rfl (by decide) (by decide)
theorem ap_isa_tuple_tuple {xs : List P} {Q : P → Prop} : (fIsi [(.tup xs), .ty "tuple"] Q) = (Q (.bl true)) := isa_eq rfl (by decide) (by decide)
theorem ap_isa_tuple_dict {xs : List P} {Q : P → Prop} : (fIsi [(.tup xs), .ty "dict"] Q) = (Q (.bl false)) := isa_eq rfl (by decide) (by decide)
theorem ap_isa_dict_bool {ks : List Key} {xs : List P} {Q : P → Prop} : (fIsi [(.dct ks xs), .ty "bool"] Q) = (Q (.bl false)) := isa_eq rfl (by decide) (by decide)
theorem ap_isa_dict_int {ks : List Key} {xs : List P} {Q : P → Prop} : (fIsi [(.dct ks xs), .ty "int"] Q) = (Q (.bl false)) := isa_eq rfl (by decide) (by decide)
theorem ap_isa_dict_str {ks : List Key} {xs : List P} {Q : P → Prop} : (fIsi [(.dct ks xs), .ty "str"] Q) = (Q (.bl false)) := isa_eq rfl (by decide) (by decide)
theorem ap_isa_dict_list {ks : List Key} {xs : List P} {Q : P → Prop} : (fIsi [(.dct ks xs), .ty "list"] Q) = (Q (.bl false)) := isa_eq rfl (by decide) (by decide)
theorem ap_isa_dict_tuple {ks : List Key} {xs : List P} {Q : P → Prop} : (fIsi [(.dct ks xs), .ty "tuple"] Q) = (Q (.bl false)) := isa_eq rfl (by decide) (by decide)
theorem ap_isa_dict_dict {ks : List Key} {xs : List P} {Q : P → Prop} : (fIsi [(.dct ks xs), .ty "dict"] Q) = (Q (.bl true)) := isa_eq rfl (by decide) (by decide)
def isIntP : P → Bool | .int _ => true | _ => false
theorem ap_isNon_NoneType : isNon .non = true := rfl
theorem ap_isInt_NoneType : isIntP .non = false := rfl
theorem ap_tyN_NoneType : (tyN .non).isSome = true := rfl
theorem ap_isNon_bool {b : Bool} : isNon (.bl b) = false := rfl
theorem ap_isInt_bool {b : Bool} : isIntP (.bl b) = false := rfl
theorem ap_tyN_bool {b : Bool} : (tyN (.bl b)).isSome = true := rfl
theorem ap_isNon_int {n : Int} : isNon (.int n) = false := rfl
theorem ap_isInt_int {n : Int} : isIntP (.int n) = true := rfl
theorem ap_tyN_int {n : Int} : (tyN (.int n)).isSome = true := rfl
theorem ap_isNon_str {z : Str} : isNon (.str z) = false := rfl
theorem ap_isInt_str {z : Str} : isIntP (.str z) = false := rfl
theorem ap_tyN_str {z : Str} : (tyN (.str z)).isSome = true := rfl
theorem ap_isNon_list {xs : List P} : isNon (.lst xs) = false := rfl
theorem ap_isInt_list {xs : List P} : isIntP (.lst xs) = false := rfl
theorem ap_tyN_list {xs : List P} : (tyN (.lst xs)).isSome = true := rfl
theorem ap_isNon_tuple {xs : List P} : isNon (.tup xs) = false := rfl
theorem ap_isInt_tuple {xs : List P} : isIntP (.tup xs) = false := rfl
theorem ap_tyN_tuple {xs : List P} : (tyN (.tup xs)).isSome = true := rfl
theorem ap_isNon_dict {ks : List Key} {xs : List P} : isNon (.dct ks xs) = false := rfl
theorem ap_isInt_dict {ks : List Key} {xs : List P} : isIntP (.dct ks xs) = false := rfl
theorem ap_tyN_dict {ks : List Key} {xs : List P} : (tyN (.dct ks xs)).isSome = true := rfl
def ForB (xs : List P) (g : P → PEnv → (PEnv → Prop) → Prop) (b : WS) (D : PEnds) (env : PEnv) : Prop := ∃ Inv : Nat → PEnv → Prop, Inv 0 env ∧
  (∀ i x e, xs[i]? = some x → Inv i e → g x e fun e2 => b { D with nx := Inv (i + 1), ct := Inv (i + 1), bk := D.nx } e2) ∧ ∀ e, Inv xs.length e → D.nx e
def LcB (xs : List P) (g : P → PEnv → (PEnv → Prop) → Prop) (tt : WT) (te : WE) (vs : List Nat) (env : PEnv) (Q : P → Prop) : Prop := ∃ Inv : Nat → List P → Prop, Inv 0 [] ∧
  (∀ i x acc, xs[i]? = some x → Inv i acc → g x (wipeP env vs) fun e => tt e (fun b => if b = true then te e (fun y => acc.length < sizeLine ∧ Inv (i + 1) (acc ++ [y])) noX' else Inv (i + 1) acc) noX') ∧
  ∀ acc, Inv xs.length acc → Q (.lst acc)
theorem ap_for {wi : WI} {g : P → PEnv → (PEnv → Prop) → Prop} {b : WS} {D : PEnds} {env : PEnv} : (wFor wi g b D env) = (wi env (fun xs => ForB xs g b D env) (D.ex env)) := rfl
theorem ap_lc {wi : WI} {g : P → PEnv → (PEnv → Prop) → Prop} {tt : WT} {te : WE} {vs : List Nat} {env : PEnv} {Q : P → Prop} {X : XP} : (wLc wi g tt te vs env Q X) = (wi env (fun xs => LcB xs g tt te vs env Q) X) := rfl
theorem ap_tystr {z : Str} : (tyPB "str" (.str z)) = (true) := rfl
theorem ap_tylist {xs : List P} : (tyPB "list" (.lst xs)) = (true) := rfl
end Pf

namespace Pf
open PySem PySem.Spec PyProof.Rows L2
/-! ### loops and comprehensions in pure readings -/
theorem for_l {g : P → PEnv → (PEnv → Prop) → Prop} {b : WS} {D : PEnds} {env : PEnv} {xs : List P} (Inv : Nat → PEnv → Prop) (h0 : Inv 0 env)
    (hs : ∀ (i : Nat) x e, xs[i]? = some x → Inv i e → g x e fun e2 => b { D with nx := Inv (i + 1), ct := Inv (i + 1), bk := D.nx } e2) (hd : ∀ e, Inv xs.length e → D.nx e) : ForB xs g b D env := ⟨Inv, h0, hs, hd⟩
theorem for_r {g : P → PEnv → (PEnv → Prop) → Prop} {b : WS} {D : PEnds} {env : PEnv} {lo : Int} {n : Nat} (Inv : Nat → PEnv → Prop) (h0 : Inv 0 env)
    (hs : ∀ i e, i < n → Inv i e → g (.int (lo + (i : Int))) e fun e2 => b { D with nx := Inv (i + 1), ct := Inv (i + 1), bk := D.nx } e2) (hd : ∀ e, Inv n e → D.nx e) : ForB (rng lo n) g b D env :=
  ⟨Inv, h0, fun i x e hx hI => by
    have hi : i < n := by have := (List.getElem?_eq_some_iff.mp hx).1; rwa [rng_len] at this
    rw [rng_at hi] at hx
    cases hx
    exact hs i e hi hI, fun e h => hd e (by rwa [rng_len] at h)⟩
/-- [f i for i in ..]: each item by its place -/
theorem lc_all {g : P → PEnv → (PEnv → Prop) → Prop} {te : WE} {vs : List Nat} {env : PEnv} {Q : P → Prop} {xs ys : List P} (hn : ys.length = xs.length) (hl : xs.length ≤ sizeLine)
    (hs : ∀ (i : Nat) x y (Q : P → Prop), xs[i]? = some x → ys[i]? = some y → Q y → g x (wipeP env vs) fun e => te e Q noX') (hd : Q (.lst ys)) : LcB xs g (fun _ Q _ => Q true) te vs env Q := by
  refine ⟨fun i acc => acc = ys.take i, by simp, fun i x acc hx ha => ?_, fun acc ha => ?_⟩
  · have hi : i < ys.length := by rw [hn]; exact (List.getElem?_eq_some_iff.mp hx).1
    have h := hs i x ys[i] (fun y => acc.length < sizeLine ∧ acc ++ [y] = ys.take (i + 1)) hx (List.getElem?_eq_getElem hi) ⟨by rw [ha, List.length_take]; omega, by rw [ha, List.take_add_one, List.getElem?_eq_getElem hi]; rfl⟩
    simpa using h
  · rw [ha, ← hn, List.take_length]
    exact hd
/-- the items are not told one by one: each has Pb -/
theorem lc_any {g : P → PEnv → (PEnv → Prop) → Prop} {te : WE} {vs : List Nat} {env : PEnv} {Q : P → Prop} {xs : List P} (Pb : Nat → P → Prop) (hl : xs.length ≤ sizeLine)
    (hs : ∀ (i : Nat) x (Q : P → Prop), xs[i]? = some x → (∀ y, Pb i y → Q y) → g x (wipeP env vs) fun e => te e Q noX') (hd : ∀ ys : List P, ys.length = xs.length → (∀ (i : Nat) y, ys[i]? = some y → Pb i y) → Q (.lst ys)) : LcB xs g (fun _ Q _ => Q true) te vs env Q := by
  refine ⟨fun i acc => acc.length = i ∧ ∀ (j : Nat) y, acc[j]? = some y → Pb j y, ⟨rfl, fun j y h => by simp at h⟩, fun i x acc hx ha => ?_, fun acc ha => hd acc ha.1 ha.2⟩
  have hi : i < xs.length := (List.getElem?_eq_some_iff.mp hx).1
  have h := hs i x (fun y => acc.length < sizeLine ∧ ((acc ++ [y]).length = i + 1 ∧ ∀ (j : Nat) z, (acc ++ [y])[j]? = some z → Pb j z)) hx fun y hy => ⟨by omega, by simp [ha.1], fun j z hz => by
    by_cases hj : j < acc.length
    · rw [List.getElem?_append_left hj] at hz; exact ha.2 j z hz
    · rw [List.getElem?_append_right (by omega)] at hz
      by_cases h0 : j - acc.length = 0
      · rw [h0] at hz
        have e : y = z := Option.some.inj hz
        have ej : j = i := by omega
        rw [← e, ej]; exact hy
      · have : j - acc.length = (j - acc.length - 1) + 1 := by omega
        rw [this] at hz; cases hz⟩
  simpa using h
/-- with a test: the list that is made -/
theorem lc_filter {g : P → PEnv → (PEnv → Prop) → Prop} {tt : WT} {te : WE} {vs : List Nat} {env : PEnv} {Q : P → Prop} {xs : List P} (c : Nat → P → Bool) (f : Nat → P → P) (hl : xs.length ≤ sizeLine)
    (hs : ∀ (i : Nat) x (Q : P → Prop) (Q0 : Prop), xs[i]? = some x → (c i x = true → Q (f i x)) → (c i x = false → Q0) → g x (wipeP env vs) fun e => tt e (fun b => if b = true then te e Q noX' else Q0) noX')
    (hd : Q (.lst ((xs.zipIdx.filter fun p => c p.2 p.1).map fun p => f p.2 p.1))) : LcB xs g tt te vs env Q := by
  refine ⟨fun i acc => acc = ((xs.zipIdx.take i).filter fun p => c p.2 p.1).map fun p => f p.2 p.1, by simp, fun i x acc hx ha => ?_, fun acc ha => ?_⟩
  · have hz : xs.zipIdx[i]? = some (x, i) := by rw [List.getElem?_zipIdx, hx]; simp
    have hlen : acc.length ≤ i := by
      rw [ha, List.length_map]
      refine Nat.le_trans (List.length_filter_le _ _) ?_
      rw [List.length_take]; omega
    have hi : i < xs.length := (List.getElem?_eq_some_iff.mp hx).1
    refine hs i x _ _ hx (fun hc => ⟨by omega, ?_⟩) fun hc => ?_
    · show _ = List.map _ (List.filter _ (List.take (i + 1) xs.zipIdx))
      rw [List.take_add_one, hz, List.filter_append, List.map_append, ha]
      simp [hc]
    · show _ = List.map _ (List.filter _ (List.take (i + 1) xs.zipIdx))
      rw [List.take_add_one, hz, List.filter_append, List.map_append, ha]
      simp [hc]
  · rw [ha]
    have : xs.length = xs.zipIdx.length := by simp
    rw [this, List.take_length]
    exact hd
/-! ### small things -/
theorem at_nn {α : Type} {xs : List α} {k : Int} {x : α} (h0 : 0 ≤ k) (h : xs[k.toNat]? = some x) : atI xs k = some x := by
  have hl := (List.getElem?_eq_some_iff.mp h).1
  unfold atI ixN
  rw [if_pos h0, if_pos (by omega)]
  exact h
theorem at_neg {α : Type} {xs : List α} {k : Int} {x : α} (h0 : k < 0) (h1 : -(xs.length : Int) ≤ k) (h : xs[(k + xs.length).toNat]? = some x) : atI xs k = some x := by
  unfold atI ixN
  rw [if_neg (by omega), if_pos h1]
  exact h
theorem at_ii {ns : List Int} {k : Int} (h0 : 0 ≤ k) (h1 : k < (ns.length : Int)) : ∃ n, ns[k.toNat]? = some n ∧ n ∈ ns ∧ atI (ns.map P.int) k = some (.int n) := by
  have hk : k.toNat < ns.length := by omega
  exact ⟨ns[k.toNat], List.getElem?_eq_getElem hk, List.getElem_mem hk, at_nn h0 (by rw [List.getElem?_map, List.getElem?_eq_getElem hk]; rfl)⟩
theorem ixN_nn {n : Nat} {k : Int} (h0 : 0 ≤ k) (h1 : k < (n : Int)) : ixN n k = some k.toNat := by
  unfold ixN
  rw [if_pos h0, if_pos h1]
theorem sz {n : Nat} (h : n ≤ 1000000) : n ≤ sizeLine := Nat.le_trans h (by decide)
theorem sle {n : Nat} (h : n ≤ 1000000) : (n ≤ sizeLine) = True := eq_true (sz h)
theorem at0 {α : Type} {a : α} {xs : List α} : atI (a :: xs) 0 = some a := at_nn (by decide) rfl
theorem at1 {α : Type} {a b : α} {xs : List α} : atI (a :: b :: xs) 1 = some b := at_nn (by decide) rfl
theorem at2 {α : Type} {a b c : α} {xs : List α} : atI (a :: b :: c :: xs) 2 = some c := at_nn (by decide) rfl
theorem at3 {α : Type} {a b c d : α} {xs : List α} : atI (a :: b :: c :: d :: xs) 3 = some d := at_nn (by decide) rfl
theorem at4 {α : Type} {a b c d e : α} {xs : List α} : atI (a :: b :: c :: d :: e :: xs) 4 = some e := at_nn (by decide) rfl
theorem at5 {α : Type} {a b c d e f : α} {xs : List α} : atI (a :: b :: c :: d :: e :: f :: xs) 5 = some f := at_nn (by decide) rfl
theorem atL {α : Type} {a : α} {xs : List α} : atI (xs ++ [a]) (-1) = some a := at_neg (by decide) (by rw [List.length_append, List.length_singleton]; omega) (by rw [List.length_append, List.length_singleton, List.getElem?_append_right (by omega), show (-1 + ((xs.length + 1 : Nat) : Int)).toNat - xs.length = 0 by omega]; rfl)
theorem ap_sgn {p : Nat → Str → Bool} {c : Nat} {z : Str} {Q : P → Prop} : (fSgn p (.str ⟨#[c]⟩) (.str z) Q) = (Q (.bl (p c z))) :=
  propext ⟨fun ⟨c2, z2, e1, e2, q⟩ => by
    have e3 : c = c2 := by have := P.str.inj e1; simpa using this
    have e4 : z = z2 := P.str.inj e2
    rw [e3, e4]; exact q, fun q => ⟨c, z, rfl, rfl, q⟩⟩
theorem szt {n : Nat} (h : n ≤ 1000000) : n < sizeLine := Nat.lt_of_le_of_lt h (by decide)
theorem mul_s {i j : Int} (h1 : -(2 ^ 63) < i ∧ i < 2 ^ 63) (h2 : -(2 ^ 63) < j ∧ j < 2 ^ 63) : CMulW i j := wide_mul (a := 64) (b := 64) (by omega) (by omega) (by omega) (by omega) (by omega)
theorem div_s {i j : Int} (h1 : 0 < j) (h2 : j < 2 ^ 63) : CDivW i j := wide_div (b := 64) h1 (by omega) (by omega) (by omega)
end Pf

namespace Pf
open PySem PySem.Spec PyProof.Rows L2
section
variable {K : PySem.W.Frag} {W : WX} {k : Rk} {ro : Bool}
/-! #### objects of own classes -/
def lookN : List Str → List P → Str → Option P
  | n :: ns, x :: xs, f => if f = n then some x else lookN ns xs f
  | _, _, _ => none
def putN : List Str → Str → List Str
  | [], f => [f]
  | n :: ns, f => if n = f then n :: ns else n :: putN ns f
def putX : List Str → List P → Str → P → List P
  | n :: ns, x :: xs, f, y => if n = f then y :: xs else x :: putX ns xs f y
  | _, _, _, y => [y]
theorem look_of {F : Hp} {f : Str} {x : P} : ∀ {fs : List (Str × V)} {ns : List Str} {xs : List P}, fs.map Prod.fst = ns → RL K F (fs.map Prod.snd) xs → lookN ns xs f = some x → ∃ v, fs.lookup f = some v ∧ R K F v x
  | [], _, _, rfl, r, h => by cases h
  | (n, v) :: fs, _, _, rfl, .cons (x := y) (xs := xs) q r, h => by
    have h : (if f = n then some y else lookN (fs.map Prod.fst) xs f) = some x := h
    by_cases e : f = n
    · rw [if_pos e] at h
      cases h
      exact ⟨v, by rw [List.lookup_cons, beq_iff_eq.mpr e], q⟩
    · rw [if_neg e] at h
      obtain ⟨w, ew, rw'⟩ := look_of (fs := fs) rfl r h
      exact ⟨w, by rw [List.lookup_cons, beq_eq_false_iff_ne.mpr e]; exact ew, rw'⟩
theorem put_fst {f : Str} {v : V} : ∀ {fs : List (Str × V)}, (putF f v fs).map Prod.fst = putN (fs.map Prod.fst) f
  | [] => rfl
  | (n, x) :: fs => by
    unfold putF putN
    by_cases e : n = f
    · simp [e]
    · simp [e, put_fst (fs := fs)]
theorem put_snd {F : Hp} {f : Str} {v : V} {y : P} (h : R K F v y) : ∀ {fs : List (Str × V)} {xs : List P}, RL K F (fs.map Prod.snd) xs → RL K F ((putF f v fs).map Prod.snd) (putX (fs.map Prod.fst) xs f y)
  | [], _, .nil => .cons h .nil
  | (n, x) :: fs, _, .cons q r => by
    unfold putF putX
    by_cases e : n = f
    · simp only [List.map_cons, if_pos e]; exact .cons h r
    · simp only [List.map_cons, if_neg e]; exact .cons q (put_snd h r)
theorem putF_len {f : Str} {v : V} (fs : List (Str × V)) : (putF f v fs).length ≤ fs.length + 1 := by
  induction fs with
  | nil => simp [putF]
  | cons p fs ih =>
    unfold putF
    split
    · simp
    · simp; omega
def onIns (C : Addr) (x : P) (Q : List Str → List P → Prop) : Prop := match x with
  | .ins C' ns xs => C' = C ∧ Q ns xs
  | .slf _ C' ns xs => C' = C ∧ Q ns xs
  | _ => False
theorem onIns_of {F H : Hp} {C : Addr} {v : V} {x : P} {Q : List Str → List P → Prop} (s : Same F H) (r : Tp K F H v x) (h : onIns C x Q) : ∃ a dx fs ns xs, v = .ref a ∧ H a = some (.ins C dx fs) ∧ fs.map Prod.fst = ns ∧ RL K F (fs.map Prod.snd) xs ∧ Q ns xs := by
  cases x with
  | ins C' ns xs =>
    obtain ⟨a, dx, fs, e, ha, l, r⟩ := Tp.ins s r
    obtain ⟨rfl, h⟩ := h
    exact ⟨a, dx, fs, ns, xs, e, ha, l, r, h⟩
  | slf a' C' ns xs =>
    obtain ⟨a, dx, fs, e, ha, l, r⟩ := Tp.slf s r
    obtain ⟨rfl, h⟩ := h
    exact ⟨a, dx, fs, ns, xs, e, ha, l, r, h⟩
  | _ => exact h.elim
def wFldR (C : Addr) (f : Str) (o : WE) : WE := fun env Q X => o env (fun x => onIns C x fun ns xs => ∃ y, lookN ns xs f = some y ∧ Q y) X
theorem se_fld {C : Addr} {f : Str} {t : TE} {o : WE} (c : Cls K C) (n : NoAttr K C f) (h : SE K W .C t o) : SE K W .V (tFld K t f) (wFldR C f o) := fun F0 H0 σ F H env Qp Xp Q g hw hx q =>
  h F0 H0 σ F H env _ Xp _ g hw hx fun F1 H1 v x m r h1 => by
    obtain ⟨a, dx, fs, ns, xs, rfl, ha, l, rl, y, hy, h1⟩ := onIns_of m.fh r h1
    obtain ⟨w, ew, rw'⟩ := look_of l rl hy
    exact ⟨a, C, dx, fs, w, rfl, ha, c, n, ew, q F1 H1 w y m rw' h1⟩
/-- self.f = e, self being made -/
def wFldS (C : Addr) (i : Nat) (f : Str) (w : WE) : WS := fun D env => w env (fun y => match env[i]? with
  | some (some (.o, .slf a C' ns xs)) => C' = C ∧ ns.length < 1000 ∧ D.nx (env.set i (some (.o, .slf a C (putN ns f) (putX ns xs f y))))
  | _ => False) (D.ex env)
theorem ss_fld {C : Addr} {i : Nat} {f : Str} {t : TE} {w : WE} (c : Cls K C) (n : NoAttr K C f) (h : SE K W .V t w) : SS K W ro (sFld K (tVar i) t f) (wFldS C i f w) := fun F0 H0 σ F H env Dp D g hw d x => by
  refine h F0 H0 σ F H env _ _ _ g hw (x.x g) fun F1 H1 v y m ry q => ?_
  have g1 := g.mv m
  split at q
  · rename_i a' C' ns xs e
    obtain ⟨rfl, q1, q2⟩ := q
    obtain ⟨w', hs, sl⟩ := g1.slot i _ _ e
    rcases sl with ⟨a, o, rfl, ha, rfl, dx, fs, rfl, l, r⟩ | sl
    · have cell : Cell K F1 a (.ins C' dx (putF f v fs)) (.slf a C' (putN ns f) (putX ns xs f y)) := by
        refine ⟨rfl, dx, _, rfl, ?_, ?_⟩
        · rw [put_fst, l]
        · rw [← l]; exact put_snd ry r
      exact ⟨.ref a, hs, a, _, dx, fs, rfl, ha, c, n, by rw [← l, List.length_map] at q1; exact q1, d.1 σ F1 _ _ (g1.put e hs cell) q2⟩
    · cases sl.1
  · exact q.elim
/-- e.f, a property; e.m(..), a method -/
def wProp (C : Addr) (p : PSp) (o : WE) : WE := fun env Q X => o env (fun x => onIns C x fun _ _ => p [x] Q noX) X
theorem se_prop {C : Addr} {p : PSp} {E : XK} {t : TE} {o : WE} (h : SE K W .C t o) : SE K W (rkOf ro) (tProp C (spOf K [.b] ro p) [] E t) (wProp C p o) := fun F0 H0 σ F H env Qp Xp Q g hw hx q =>
  h F0 H0 σ F H env _ Xp _ g hw hx fun F1 H1 v x m r h1 => by
    obtain ⟨a, dx, fs, ns, xs, rfl, ha, l, rl, h1⟩ := onIns_of m.fh r h1
    exact ⟨a, dx, fs, rfl, ha, F1, [_], Qp, noX, m.fh, ⟨r, trivial⟩, h1, fun F2 H2 v x m2 r2 h2 => q F2 H2 v x (m.trans m2) (rel_back m.s r2.rel) h2, fun _ _ _ _ _ _ _ _ z => z.elim⟩
def wMeth (C : Addr) (n : Str) (p : PSp) (o : WE) (a : WA) : WE := fun env Q X => o env (fun x => onIns C x fun ns _ => n ∉ ns ∧ a env (fun ys => p (x :: ys) Q noX) X) X
theorem look_none {f : Str} : ∀ {fs : List (Str × V)}, f ∉ fs.map Prod.fst → fs.lookup f = none
  | [], _ => rfl
  | (n, v) :: fs, h => by
    simp only [List.map_cons, List.mem_cons, not_or] at h
    rw [List.lookup_cons, beq_eq_false_iff_ne.mpr h.1]
    exact look_none h.2
theorem se_meth {C : Addr} {n : Str} {ms : List Mo} {p : PSp} {E : XK} {t : TE} {ta : TA} {o : WE} {a : WA} (h : SE K W .C t o) (ha : SimA K W ms ta a) : SE K W (rkOf ro) (tMeth C n (spOf K (.b :: ms) ro p) [] E t ta) (wMeth C n p o a) := fun F0 H0 σ F H env Qp Xp Q g hw hx q =>
  h F0 H0 σ F H env _ Xp _ g hw hx fun F1 H1 v x m r h1 => by
    obtain ⟨b, dx, fs, ns, xs, rfl, hb, l, rl, hn, h1⟩ := onIns_of m.fh r h1
    refine ⟨b, dx, fs, rfl, hb, look_none (by rw [l]; exact hn), ?_⟩
    refine ha F0 H0 σ F1 H1 env _ Xp _ (g.mv m) h1 (hx.mv m) fun F2 H2 vs ys m2 r2 h2 => ?_
    rw [List.append_nil]
    exact ⟨F2, _ :: ys, Qp, noX, m2.fh, ⟨Tp.mv m2 r, r2⟩, h2, fun F3 H3 v x m3 r3 h3 => q F3 H3 v x ((m.trans m2).trans m3) (rel_back (m.s.trans m2.s) r3.rel) h3, fun _ _ _ _ _ _ _ _ z => z.elim⟩
/-! #### an object made -/
def spMk (K : PySem.W.Frag) (C : Addr) (ms : List Mo) (p : PSp) : Sp := fun vs H Q E => ∃ x dx args H1, vs = .ref x :: args ∧ H1 x = none ∧ H1 dx = none ∧ dx ≠ x ∧ H = upd (upd H1 dx (.own x)) x (.ins C dx []) ∧ ∃ F xs Qp Xp, Same F H1 ∧ AL K F H1 ms args xs ∧ p xs Qp Xp ∧
  (∀ F' H' y, Mv F H1 F' H' → R K F' (.ref x) y → Qp y → Q .non H') ∧ (∀ F' H' C' d ns ys, Mv F H1 F' H' → XF K F' d ns ys → Xp C' ns ys → E (.ref C') d H')
theorem se_make0 {C : Addr} {ms : List Mo} {p : PSp} {E : XK} {t : TA} {a : WA} (h : SimA K W ms t a) : SE K W .V (tMake C (spMk K C ms p) [] E t) (wCall0 p a) := fun F0 H0 σ F H env Qp Xp Q g hw hx q =>
  h F0 H0 σ F H env _ Xp _ g hw hx fun F1 H1 vs xs m r h1 x dx nx nd ne => by
    rw [List.append_nil]
    exact ⟨x, dx, vs, H1, rfl, nx, nd, ne, rfl, F1, xs, Qp, noX, m.fh, r, h1, fun F2 H2 y m2 r2 h2 => ⟨rfl, q F2 H2 _ y (m.trans m2) r2 h2⟩, fun _ _ _ _ _ _ _ _ z => z.elim⟩
theorem se_makeS {C : Addr} {ms : List Mo} {p : PSp} {t : TA} {a : WA} (h : SimA K W ms t a) : SE K W .V (tMakeS C (spMk K C ms p) (fun σ => L2.WE W σ) t) (wCallX p a) := fun F0 H0 σ F H env Qp Xp Q g hw hx q =>
  h F0 H0 σ F H env _ Xp _ g hw hx fun F1 H1 vs xs m r h1 x dx nx nd ne =>
    ⟨x, dx, vs, H1, rfl, nx, nd, ne, rfl, F1, xs, Qp, Xp, m.fh, r, h1, fun F2 H2 y m2 r2 h2 => ⟨rfl, q F2 H2 _ y (m.trans m2) r2 h2⟩, fun F' H' C' d ns ys m2 f z => hx F' H' C' d ns ys (m.trans m2) f z⟩
/-- a def that calls a raising method, property lets it out in the same way -/
theorem se_make0X {C : Addr} {ms : List Mo} {p : PSp} {E : XK} {t : TA} {a : WA} (h : SimA K W ms t a) : SE K W .V (tMake C (spMk K C ms p) [] E t) (wCall0 p a) := se_make0 h
def initP (N : List Str) (x C : Addr) (ms : List Mo) (xs : List P) : PEnv := startP N (Mo.o :: ms) (P.slf x C [] [] :: xs)
theorem good_init {F H1 : Hp} {N : List Str} {C x dx : Addr} {ms : List Mo} {vs : List V} {xs : List P} (s : Same F H1) (h : AL K F H1 ms vs xs) (nx : H1 x = none) (nd : H1 dx = none) (ne : dx ≠ x) :
    Good K F H1 (L2.start N (.ref x :: vs)) F (upd (upd H1 dx (.own x)) x (.ins C dx [])) (initP N x C ms xs) := by
  have g := good_start (N := N) (ms := Mo.v :: ms) (vs := V.non :: vs) (xs := P.non :: xs) s ⟨R.non, h⟩
  have m : Mv F H1 F (upd (upd H1 dx (.own x)) x (.ins C dx [])) := by
    refine ⟨.refl, fun b u e => ?_, fun b u e => ?_⟩
    · rw [upd_ne (ne_of_none e nx), upd_ne (ne_of_none e nd)]; exact e
    · rw [upd_ne (ne_of_none (s _ _ e) nx), upd_ne (ne_of_none (s _ _ e) nd)]; exact s _ _ e
  exact g.setO (i := 0) m (.inl ⟨x, _, rfl, nx, same_free s nx, upd_same, rfl, dx, [], rfl, rfl, .nil⟩ : Ow K H1 F _ (.ref x) (.slf x C [] []))
/-- the object that slot 0 holds -/
def selfO (x : Addr) (env : PEnv) (Q : P → Prop) : Prop := match env[(0 : Nat)]? with
  | some (some (.o, .slf a C ns xs)) => a = x ∧ Q (.ins C ns xs)
  | _ => False
def endsI (x : Addr) (Q : P → Prop) (X : XP) : PEnds := ⟨fun env => selfO x env Q, fun _ => False, fun _ => False, fun _ => False, fun _ => X⟩
theorem fn_simI {Pg : Program} {w : World} {mg : Str → Option Value} {base : Heap} {x qual : Str} {st : Stmt} {f C : Addr} {fd : FuncData} {N ps : List Str} {kk : Nat} {ms : List Mo} {p : PSp} {b : WS} (F : Fun K x qual st f fd) (S : FnScope N ps (defScope st)) (hm : ms.length + 1 = ps.length)
    (hbody : ∀ (cdv : Value) (A : Around) (outer : List Env) (s : Shared) (H : Hp) (E : XK), Room kk (A.deeper (envOfC qual (defScope st) s.heap.objs.size f cdv)) → ∃ t, PSs (cxOf (L2.CX Pg w) Pg w K mg base N qual (defScope st) f cdv A outer s H E) (defBody st) t ∧ SS K (fun cls d _ H => E cls d H) false t b)
    (hp : ∀ a xs Q X, p xs Q X → b (endsI a Q X) (initP N a C ms xs)) : FnOk Pg w K mg base (L2.CX Pg w) (kk + 1) f fd ps (spMk K C ms p) := by
  refine F.okX S (fun vs H Q E ⟨y, dx, args, H1, e, _, _, _, _, F1, xs, Qp, Xp, s, al, _⟩ => ?_) fun cdv A outer s H vs Q E hr ⟨y, dx, args, H1, e, nx, nd, ne, eH, F1, xs, Qp, Xp, sm, al, hq, q, qx⟩ => ?_
  · obtain ⟨l1, l2⟩ := al.lens
    rw [e, List.length_cons, l2, ← l1, hm]
  · obtain ⟨t, ht, sim⟩ := hbody cdv A outer s H E hr
    subst e eH
    refine ⟨t, ht, sim F1 H1 _ F1 _ _ _ _ (good_init sm al nx nd ne) (hp y xs Qp Xp hq) ⟨fun σ F' H' env g h => ?_, fun _ _ _ _ _ _ z => z.elim, fun _ _ _ _ _ h => h.elim, fun _ _ _ _ _ h => h.elim⟩ fun σ F' H' env C d ns ys g f h => qx F' H' C d ns ys g.m f h⟩
    have hz : selfO y env Qp := h
    clear h
    unfold selfO at hz
    split at hz
    · rename_i a C' ns zs e0
      obtain ⟨rfl, hz⟩ := hz
      obtain ⟨F2, g2⟩ := g.frz e0
      have hl : 0 < env.length := (List.getElem?_eq_some_iff.mp e0).1
      obtain ⟨v, hs, sl⟩ := g.slot 0 _ _ e0
      rcases sl with ⟨b', o, rfl, hb, rfl, dx', fs, rfl, l, r⟩ | sl
      · obtain ⟨v2, hs2, s2⟩ := g2.slot 0 .v (.slf b' C' ns zs) (by rw [List.getElem?_set_self hl])
        have hr : R K F2 v2 (.slf b' C' ns zs) := s2
        cases hr with
        | slf hf e1 e2 rr => exact q F2 H' _ g2.m (.ins hf e1 e2 rr) hz
      · cases sl.1
    · exact hz.elim
end
end Pf

namespace Pf
open PySem PySem.Spec PyProof.Rows L2
/-! ### errors with one field -/
/-- the promise of an error's __init__ that stores its argument -/
def spExc (C : Addr) (f : Str) : Sp := fun vs H Q _ => ∃ (a : Addr) (v : V), vs = [.ref a, v] ∧ H a = some (exo a C none) ∧ ∀ dx, H dx = none → dx ≠ a → Q .non (upd (upd H dx (exd dx [(f, v)])) a (exo a C (some dx)))
theorem mko_end {H1 : Hp} {C : Addr} {f : Str} {v : V} {Q : XK} (k : ∀ d, H1 d = none → Q (.ref C) (some d) (upd H1 d (.xd [(f, v)]))) : ∀ a, H1 a = none → spExc C f [.ref a, v] (upd H1 a (exo a C none))
    (fun v H2 => v = .non ∧ ∃ (d : Addr) (fs : List (Str × V)), H2 a = some (exo a C (some d)) ∧ H2 d = some (exd d fs) ∧ H1 d = none ∧ Q (.ref C) (some d) (upd (del H2 a) d (.xd fs))) (fun _ _ _ => False) := by
  intro a na
  refine ⟨a, v, rfl, upd_same, fun dx nd ne => ⟨rfl, dx, [(f, v)], upd_same, by rw [upd_ne ne, upd_same], by rw [upd_ne ne] at nd; exact nd, ?_⟩⟩
  have nd1 : H1 dx = none := by rw [upd_ne ne] at nd; exact nd
  have e : upd (del (upd (upd (upd H1 a (exo a C none)) dx (exd dx [(f, v)])) a (exo a C (some dx))) a) dx (.xd [(f, v)]) = upd H1 dx (.xd [(f, v)]) := by
    funext b
    by_cases hb : b = dx
    · rw [hb, upd_same, upd_same]
    · rw [upd_ne hb, upd_ne hb]
      by_cases ha : b = a
      · rw [ha, del_same, na]
      · rw [del_ne ha, upd_ne ha, upd_ne hb, upd_ne ha]
  rw [e]
  exact k dx nd1
theorem exc_read {K : PySem.W.Frag} {C : Addr} {f y : Str} {vs : List V} {H : Hp} {Q : VK} {E : XK} (X : OexC K C) (n : PySem.W.findIn K (.ref C) f = some none) (h : spExc C f vs H Q E) :
    tOst K f (tVar 0) (tVar 1) { nx := fun _ H' => Q .non H', rt := Q } (L2.start ["self", y] vs) H := by
  obtain ⟨a, v, rfl, ha, q⟩ := h
  exact ⟨v, rfl, .ref a, rfl, a, C, rfl, X, n, .inl ⟨ha, fun dx nd ne => q dx nd ne⟩⟩
section
variable {K : PySem.W.Frag} {W : WX} {k : Rk} {ro : Bool}
def wRaise (C : Addr) (ns : List Str) (a : WA) : WS := fun D env => a env (fun xs => D.ex env C ns xs) (D.ex env)
theorem ss_raise1 {C : Addr} {f : Str} {ta : TA} {a : WA} (h : SimA K W [.v] ta a) : SS K W ro (fun _ σ H => tMkO C (spExc C f) [] ta σ H fun cls d H' => W cls d σ H') (wRaise C [f] a) := fun F0 H0 σ F H env Dp D g hw d x =>
  h F0 H0 σ F H env _ _ _ g hw (x.x g) fun F1 H1 vs xs m r q => by
    obtain ⟨v, vs', y, xs', rfl, rfl, ry, r'⟩ := AL.v1 r
    obtain ⟨rfl, rfl⟩ := AL.nil r'
    refine ⟨by simp, ?_⟩
    rw [List.append_nil]
    refine mko_end (Q := fun cls d H' => W cls d σ H') fun dx nd => ?_
    have m2 := mv_frz (o := .xd [(f, v)]) m.fh nd
    exact x σ _ _ env C (some dx) [f] [y] ((g.mv m).mv m2) (.inr ⟨dx, _, rfl, upd_same, rfl, .cons (R.mv m2 ry) .nil⟩) q
theorem ss_raise0 {C : Addr} : SS K W ro (fun _ σ H => W (.ref C) none σ H) (wRaise C [] wNil) := fun F0 H0 σ F H env Dp D g hw d x => x σ F H env C none [] [] g (.inl ⟨rfl, rfl, rfl⟩) hw
/-! try: body except C as n: suite -/
def wTry (C : Addr) (i : Nat) (b : WS) (s : Addr → Option Addr → WS) : WS := fun D env =>
  b { D with ex := fun e C' ns xs => C' = C ∧ ∀ (a : Addr) (d : Option Addr), (ns ≠ [] → d.isSome = true) → s a d ⟨fun e' => D.nx (e'.set i none), D.rt, fun e' => D.bk (e'.set i none), fun e' => D.ct (e'.set i none), fun _ => noX⟩ (e.set i (some (.v, .exc a d C' ns xs))) } env
theorem ss_try {C CC : Addr} {i : Nat} {Wout : WX} {tb : WX → List (Addr × Obj) → (Value → Shared → Prop) → TS} {ts : Addr → Obj → Value → Option Addr → List (Addr × Obj) → TS} {b : WS} {s : Addr → Option Addr → WS} (hx : PySem.W.exmOne K (.ref C) (.ref CC) = some true)
    (hb : ∀ W' pn xe, SS K W' ro (tb W' pn xe) b) (hs : ∀ a oe d pn, SS K noW ro (ts a oe (.ref C) d pn) (s a d)) :
    SS K Wout ro (fun D σ H => ∀ pn xe, tb (wAs K (.ref CC) i (fun a cls d D σ H => ∀ oe pn, ts a oe cls d pn D σ H) Wout D) pn xe D σ H) (wTry C i b s) := fun F0 H0 σ F H env Dp D g hw d x pn xe => by
  refine hb _ pn xe F0 H0 σ F H env _ D g hw d fun σ' F' H' env' C' dd ns xs g' f h => ?_
  obtain ⟨rfl, h⟩ := h
  refine ⟨true, hx, fun _ a na oe pn => ?_, fun z => Bool.noConfusion z⟩
  have hd : ns ≠ [] → dd.isSome = true := fun hn => by
    rcases f with ⟨_, e, _⟩ | ⟨a', fs, e, _⟩
    · exact absurd e hn
    · rw [e]; rfl
  exact hs a oe dd pn F0 H0 _ F' H' _ _ _ (g'.setV (i := i) (f.r a C')) (h a dd hd) ⟨fun σ2 F2 H2 e2 g2 h2 => d.1 _ F2 H2 _ (g2.drop i none) h2, d.2.1, fun σ2 F2 H2 e2 g2 h2 => d.2.2.1 _ F2 H2 _ (g2.drop i none) h2, fun σ2 F2 H2 e2 g2 h2 => d.2.2.2 _ F2 H2 _ (g2.drop i none) h2⟩ fun _ _ _ _ _ _ _ _ _ _ z => z
/-- try: body except C: suite -/
def wTryO (C : Addr) (b s : WS) : WS := fun D env => b { D with ex := fun e C' ns xs => C' = C ∧ s { D with ex := fun _ => noX } e } env
theorem ss_tryO {C CC : Addr} {Wout : WX} {tb : WX → TS} {ts : Addr → Value → Option Addr → TS} {b s : WS} (hx : PySem.W.exmOne K (.ref C) (.ref CC) = some true)
    (hb : ∀ W', SS K W' ro (tb W') b) (hs : ∀ a d, SS K noW ro (ts a (.ref C) d) s) : SS K Wout ro (fun D σ H => tb (wOnly K (.ref CC) ts Wout D) D σ H) (wTryO C b s) := fun F0 H0 σ F H env Dp D g hw d x => by
  refine hb _ F0 H0 σ F H env _ D g hw d fun σ' F' H' env' C' dd ns xs g' f h => ?_
  obtain ⟨rfl, h⟩ := h
  exact ⟨true, hx, fun _ a na => hs a dd F0 H0 _ F' H' _ _ _ g' h d fun _ _ _ _ _ _ _ _ _ _ z => z, fun z => Bool.noConfusion z⟩
/-- a field of the caught error -/
def wXf (a : Addr) (d : Option Addr) (C : Addr) (f : Str) (o : WE) : WE := fun env Q X => o env (fun x => ∃ ns xs y, x = .exc a d C ns xs ∧ lookN ns xs f = some y ∧ Q y) X
theorem se_xf {a C : Addr} {d : Option Addr} {f : Str} {t : TE} {o : WE} (h : SE K W .C t o) : SE K W .V (tXf a (.ref C) d C f t) (wXf a d C f o) := fun F0 H0 σ F H env Qp Xp Q g hw hx q =>
  h F0 H0 σ F H env _ Xp _ g hw hx fun F1 H1 v x m r ⟨ns, xs, y, e, hy, h1⟩ => by
    subst e
    rcases r with r | ⟨_, _, _, _, c⟩
    · cases r with
      | exc0 => cases hy
      | exc1 hf e1 e2 rl =>
        obtain ⟨w, ew, rw'⟩ := look_of e1 (e2 ▸ rl) hy
        exact ⟨rfl, rfl, _, _, w, rfl, m.fh _ _ hf, ew, q F1 H1 w y m rw' h1⟩
    · exact c.elim
def fIsD (a : Addr) (d : Option Addr) (C : Addr) (c : P) (b : Bool) : PFn := fun xs Q => ∃ ns ys, xs = [.exc a d C ns ys, c] ∧ ns ≠ [] ∧ Q (.bl b)
theorem cs_isD {a C C2 : Addr} {d : Option Addr} {b : Bool} {m m' : Mo} (E : ExcC K C) (hk : PySem.W.kitOne K (.ref C) (.ref C2) = some b) : CallS K .V [m, m'] (rIsD K a (.ref C) d) (fIsD a d C (.adr C2) b) := fun F H vs xs Qp Q s r ⟨ns, ys, e, hn, h⟩ q => by
  obtain ⟨v, vs', x, xs', rfl, rfl, t, r'⟩ := AL.cons r
  obtain ⟨v', x', rfl, rfl, t'⟩ := AL.one r'
  cases e
  have ev : v' = .ref C2 := by
    rcases t' with t' | ⟨_, _, _, _, c⟩
    · cases t'; rfl
    · exact c.elim
  subst ev
  rcases t with t | ⟨_, _, _, _, c⟩
  · cases t with
    | exc0 => exact absurd rfl hn
    | exc1 hf e1 e2 rl => exact ⟨C, _, _, _, _, b, rfl, rfl, rfl, s _ _ hf, E, .own _, hk, q F H _ _ (.refl s) (R.bl _) h⟩
  · exact c.elim
theorem cs_isDT {a C : Addr} {T : String} {d : Option Addr} {b : Bool} {m m' : Mo} (E : ExcC K C) (hk : PySem.W.kitOne K (.ref C) (.type T) = some b) : CallS K .V [m, m'] (rIsD K a (.ref C) d) (fIsD a d C (.ty T) b) := fun F H vs xs Qp Q s r ⟨ns, ys, e, hn, h⟩ q => by
  obtain ⟨v, vs', x, xs', rfl, rfl, t, r'⟩ := AL.cons r
  obtain ⟨v', x', rfl, rfl, t'⟩ := AL.one r'
  cases e
  obtain rfl := t'.tyc
  rcases t with t | ⟨_, _, _, _, c⟩
  · cases t with
    | exc0 => exact absurd rfl hn
    | exc1 hf e1 e2 rl => exact ⟨C, _, _, _, _, b, rfl, rfl, rfl, s _ _ hf, E, .ty _, hk, q F H _ _ (.refl s) (R.bl _) h⟩
  · exact c.elim
end
/-! ### a def that is called within an except suite -/
structure FnW (Pg : Program) (w : World) (K : PySem.W.Frag) (mg : Str → Option Value) (base : Heap) (kk : Nat) (f : Addr) (fd : FuncData) (ps : List Str) (sp : Sp) : Prop where
  len : ∀ vs H Q E, sp vs H Q E → vs.length = ps.length
  run : ∀ (A : Around) (out : List Env) (s : Shared) (H : Hp) (ar : Args) (us : List Value) (vs : List V) (Q : VK) (E : XK) (p : Addr × Obj), L2H.RoomH kk A → L2H.PinOk out H s p → Env0 Pg w K mg base A out s H →
    BindsTo s fd ar (ps.zip us) → Vals vs us → sp vs H Q E → codeAny (model Pg w) A (.call (.ref f) ar) (CR CX0 out Pg w H s Q E) s
section
variable {K : PySem.W.Frag} {Pg : Program} {w : World} {mg : Str → Option Value} {base : Heap} {x qual : Str} {st : Stmt} {f : Addr} {fd : FuncData} {N ps : List Str} {kk : Nat} {sp : Sp}
theorem fnW_of (F : Fun K x qual st f fd) (S : FnScope N ps (defScope st)) (ln : ∀ vs H Q E, sp vs H Q E → vs.length = ps.length)
    (hbody : ∀ (cdv : Value) (A : Around) (out : List Env) (s : Shared) (H : Hp) (vs : List V) (Q : VK) (E : XK) (p : Addr × Obj), L2H.RoomH kk (A.deeper (envOfC qual (defScope st) s.heap.objs.size f cdv)) → sp vs H Q E →
      ∃ t, PSs (L2H.cxH CX0 Pg w K mg base N qual (defScope st) f cdv A out s H E p) (defBody st) t ∧ t { nx := fun _ H' => Q .non H', rt := Q } (L2.start N vs) H) : FnW Pg w K mg base (kk + 1) f fd ps sp := by
  obtain ⟨oc, od, kV, doc, pm, an, cdv, ct, osl, rfl, lk, hcd⟩ := F.ex
  refine ⟨ln, fun A out s H ar us vs Q E p room pin e0 hb rl hsp => ?_⟩
  have hlen := ln _ _ _ _ hsp
  have KX := e0.mod.kin.keeps (h' := s.heap) fun b o e => (e0.bs b o e).1
  have kinds : ∀ y ∈ ps.zip us, (defScope st).names.lookup y.1 = some .local ∨ ((defScope st).names.lookup y.1 = some .cell ∧ ((cellsFrom (s.heap.objs.size + 1) (defScope st).names []).lookup y.1).isSome = true) := fun ⟨n, v⟩ hy =>
    (S.par n (List.of_mem_zip hy).1).elim (fun q => .inl q) fun q => .inr ⟨q, PySem.W.cellsFrom_some _ _ _ (.inl q)⟩
  refine codeAny_call_function room.depth (KX _ _ lk) rfl S.co S.gen rfl (PySem.W.codeRec_of KX hcd) (hb _ _ _ _ (wpAny_newFunctionEnv_cells S.kind kinds fun env he s1 y => ?_))
  subst he
  refine ⟨(e0.mod.nolimit.keeps (h' := s.heap) fun b o e => (e0.bs b o e).1).keeps y.toInCall.keep, codeAny_func ?_⟩
  obtain ⟨t, ht, hq⟩ := hbody cdv A out s H vs Q E p (room.deeper _) hsp
  have I := L2H.inv_startH (CX := CX0) (P := Pg) (w := w) (A := A) (E := E) (qual := qual) (f := f) (cd := cdv) S pin e0 hlen rl y
  refine wpAny_mono (ht.run [] s1 (L2.start N vs) H _ I hq) (fun fl s' hs => ?_) (fun _ _ z => z)
  cases fl with
  | ret u => obtain ⟨v, σ', H', J, rv, q⟩ := hs; exact ⟨v, H', J.os, J.bare, J.base, J.hok, rv, q⟩
  | next => obtain ⟨σ', H', J, q⟩ := hs; exact ⟨.non, H', J.os, J.bare, J.base, J.hok, rfl, q⟩
  | brk => exact hs.elim fun _ z => z.elim fun _ z => z.2.elim
  | cont => exact hs.elim fun _ z => z.elim fun _ z => z.2.elim
theorem fn_simW {ms : List Mo} {ro : Bool} {p : PSp} {b : WS} (F : Fun K x qual st f fd) (S : FnScope N ps (defScope st)) (hm : ms.length = ps.length)
    (hbody : ∀ (cdv : Value) (A : Around) (outer : List Env) (s : Shared) (H : Hp) (E : XK) (pp : Addr × Obj), L2H.RoomH kk (A.deeper (envOfC qual (defScope st) s.heap.objs.size f cdv)) → ∃ t, PSs (L2H.cxH CX0 Pg w K mg base N qual (defScope st) f cdv A outer s H E pp) (defBody st) t ∧ SS K noW ro t b)
    (hX : ∀ xs Q X, p xs Q X → p xs Q noX) (hp : ∀ xs Q, p xs Q noX → b (endsP ro Q noX) (startP N ms xs)) : FnW Pg w K mg base (kk + 1) f fd ps (spOf K ms ro p) := by
  refine fnW_of F S (fun vs H Q E ⟨F1, xs, Qp, Xp, s, al, _⟩ => ?_) fun cdv A outer s H vs Q E pp hr ⟨F1, xs, Qp, Xp, sm, al, hq, q, _⟩ => ?_
  · obtain ⟨l1, l2⟩ := al.lens
    rw [l2, ← l1, hm]
  · obtain ⟨t, ht, sim⟩ := hbody cdv A outer s H E pp hr
    exact ⟨t, ht, sim F1 H _ F1 H _ _ _ (good_start sm al) (hp xs Qp (hX _ _ _ hq)) (ends_ok q) fun _ _ _ _ _ _ _ _ _ _ z => z⟩
end
section
variable {X : Cx} {kk : Nat} {f : Addr} {fd : FuncData} {ps : List Str} {sp : Sp} {y : Str} {p pos : Pos} {e : Expr} {es : List Expr} {t : TA} {a : Addr} {oe : Obj} {pn : List (Addr × Obj)}
/-- such a call, in the suite -/
theorem pe_callW {E : XK} (F : FnW X.prog X.w X.K X.mg X.base kk f fd ps sp) (hr : Room kk X.A) (hg : Gl X y) (hm : X.mg y = some (.ref f)) (hk : PySem.W.keepIn X.K (.ref f) = true) (hb : Binds X.K fd ps [])
    (ha : PA (X.suite a ((a, oe) :: pn)) (e :: es) t) (hdb : (y == ("__debug__" : Str)) = false := by decide) (he : starEach (e :: es) X.env = (false, eval e X.env) :: starEach es X.env := by rfl) (hpl : (backTo pos (starEach es X.env)).any (·.1) = false := by rfl) :
    PE (X.suite a ((a, oe) :: pn)) (.Call (.Name y p) (e :: es) [] pos) (tCall sp [] E t) := by
  refine ⟨fun pins s0 σ H Q I0 h => ?_⟩
  refine wpAny_Call_Name_kw (ld_glob I0 hg hm (PySem.W.callWith_K (h₀ := X.base) I0.ok.mod.kin hk (thn (ha.run pos pins s0 σ H _ I0 h) fun us s ⟨vs, H1, I, r, q⟩ => ⟨I.kIn, ?_⟩) he hpl) hdb)
  have q : sp (vs ++ []) H1 Q E := q
  rw [List.append_nil] at q
  show wpAny _ _ (call (.ref f) us) _ _ _
  have hl : us.length = ps.length := by rw [← r.length]; exact F.len _ _ _ _ q
  have hbb := hb s us I.kIn (by rw [List.append_nil]; exact hl)
  rw [List.append_nil] at hbb
  have P1 := I.pin (a, oe) (List.mem_append_left _ List.mem_cons_self)
  have pin : L2H.PinOk X.stack H1 s (a, oe) := ⟨P1.1, P1.2.1, fun hm => (List.mem_cons.mp (I.stkSub a hm)).elim P1.2.2.1 P1.2.2.2.1, P1.2.2.2.2⟩
  refine wpAny_call (codeAny_mono (F.run (X.suite a ((a, oe) :: pn)).A X.stack s H1 ⟨us, []⟩ us vs Q E (a, oe) ⟨hr.dp, hr.un⟩ pin I.env0 hbb r q) fun z s' hz => ?_)
  cases z with
  | error er => exact False.elim hz
  | ok fl =>
    cases fl with
    | ret u => exact I.after hz
    | next => exact hz.elim
    | brk => exact hz.elim
    | cont => exact hz.elim
end
end Pf

namespace Pf
open PySem PySem.Spec PyProof.Rows L2
section
variable {K : PySem.W.Frag} {W : WX} {k : Rk} {ro : Bool}
/-! #### len, ==, +, isinstance, for of an own class -/
theorem AL.b1 {F H : Hp} {v : V} {x : P} (h : Tp K F H v x) : AL K F H [.b] [v] [x] := ⟨h, trivial⟩
def fLenO (C : Addr) (p : PSp) : PFn := fun xs Q => ∃ x, xs = [x] ∧ onIns C x fun _ _ => p [x] (fun y => onInt y fun k => 0 ≤ k ∧ k < 2 ^ 63 ∧ Q (.int k)) noX
theorem cs_lenO {C : Addr} {p : PSp} {E : XK} {m : Mo} : CallS K .V [m] (rOwnLen C (spOf K [.b] false p) E) (fLenO C p) := fun F H vs xs Qp Q s r ⟨x, e, h⟩ q => by
  obtain ⟨v, x', rfl, rfl, t⟩ := AL.one r
  cases e
  obtain ⟨a, dx, fs, ns, ys, rfl, ha, l, rl, h⟩ := onIns_of s t h
  refine ⟨a, dx, fs, rfl, ha, F, [_], _, noX, s, AL.b1 t, h, fun F' H' v y m r h => ?_, fun _ _ _ _ _ _ _ _ z => z.elim⟩
  have r : R K F' v y := r
  obtain ⟨b, rfl, rfl, h0, h1, h⟩ := onInt_of (.inl r : Tp K F' H' v y) h
  exact ⟨b, rfl, ⟨h0, h1⟩, q F' H' _ _ m r h⟩
def fEqO (C : Addr) (p : PSp) : PF2 := fun x y Q => onIns C x fun _ _ => onIns C y fun _ _ => p [x, y] (fun z => onB z fun b => Q (.bl b)) noX
theorem os_eqO {C : Addr} {p : PSp} {E : XK} : OpS K .V (rOwnEq C (spOf K [.b, .b] false p) E) (fEqO C p) := fun F H v w x y Qp Q s r r' h q => by
  obtain ⟨a, dx, fs, ns, ys, rfl, ha, l, rl, h⟩ := onIns_of s r h
  obtain ⟨b, dy, gs, ms, zs, rfl, hb, l', rl', h⟩ := onIns_of s r' h
  refine ⟨a, b, dx, dy, fs, gs, rfl, rfl, ha, hb, F, [_, _], _, noX, s, ⟨r, r', trivial⟩, h, fun F' H' v z m r h => ?_, fun _ _ _ _ _ _ _ _ z => z.elim⟩
  have r : R K F' v z := r
  obtain ⟨c, rfl, rfl, h⟩ := onB_of (.inl r : Tp K F' H' v z) h
  exact ⟨c, rfl, q F' H' _ _ m r h⟩
def fAddO (C : Addr) (p : PSp) : PF2 := fun x y Q => onIns C x fun _ _ => onIns C y fun _ _ => p [x, y] (fun z => onIns C z fun _ _ => Q z) noX
theorem os_addO {C : Addr} {p : PSp} {E : XK} : OpS K .V (rOwnAdd C (spOf K [.b, .b] false p) E) (fAddO C p) := fun F H v w x y Qp Q s r r' h q => by
  obtain ⟨a, dx, fs, ns, ys, rfl, ha, l, rl, h⟩ := onIns_of s r h
  obtain ⟨b, dy, gs, ms, zs, rfl, hb, l', rl', h⟩ := onIns_of s r' h
  refine ⟨a, b, dx, dy, fs, gs, rfl, rfl, ha, hb, F, [_, _], _, noX, s, ⟨r, r', trivial⟩, h, fun F' H' v z m r h => ?_, fun _ _ _ _ _ _ _ _ z => z.elim⟩
  have r : R K F' v z := r
  obtain ⟨c, _, _, _, _, rfl, _, _, _, h⟩ := onIns_of m.fh (.inl r : Tp K F' H' v z) h
  exact ⟨c, rfl, q F' H' _ _ m r h⟩
/-- what isinstance(x, C) wants of the class -/
structure InsC (K : PySem.W.Frag) (C : Addr) : Prop where
  cl : Cls K C
  ha : PySem.W.findIn K (.ref C) "__class__" = some (some (.builtin "object.__class__"))
  hn : PySem.W.specialIn K (.builtin "object.__class__") "__get__" = some (some (.builtin "getset_descriptor.__get__"))
  ht : PySem.W.takesIn K (.builtin "object.__class__") = some true
  hm : PySem.W.mroIn K C (.type "object") = some true
  kit : PySem.W.kitOne K (.ref C) (.ref C) = some true
def fIsO (C : Addr) : PFn := fun xs Q => ∃ x, xs = [x, .adr C] ∧ onIns C x fun _ _ => Q (.bl true)
theorem Tp.adr {F H : Hp} {v : V} {C : Addr} (h : Tp K F H v (.adr C)) : v = .ref C := by
  rcases h with r | ⟨_, _, _, _, c⟩
  · cases r; rfl
  · exact c.elim
theorem cs_isO {C : Addr} {m m' : Mo} (I : InsC K C) : CallS K .V [m, m'] (rIsi K) (fIsO C) := fun F H vs xs Qp Q s r ⟨x, e, h⟩ q => by
  obtain ⟨v, vs', x1, xs', rfl, rfl, t, r'⟩ := AL.cons r
  obtain ⟨v', x', rfl, rfl, t'⟩ := AL.one r'
  cases e
  obtain rfl := t'.adr
  obtain ⟨a, dx, fs, ns, ys, rfl, ha, l, rl, h⟩ := onIns_of s t h
  exact ⟨_, _, _, _, _, rfl, .own _, .base (.ins ha I.cl I.ha I.hn I.ht I.hm), I.kit, q F H _ _ (.refl s) (R.bl _) h⟩
/-- isinstance(x, T), x an object, T a built-in class -/
def fIsOT (C : Addr) (T : String) : PFn := fun xs Q => ∃ x, xs = [x, .ty T] ∧ onIns C x fun _ _ => Q (.bl false)
theorem cs_isOT {C : Addr} {T : String} {m m' : Mo} (I : InsC K C) (hk : PySem.W.kitOne K (.ref C) (.type T) = some false) : CallS K .V [m, m'] (rIsi K) (fIsOT C T) := fun F H vs xs Qp Q s r ⟨x, e, h⟩ q => by
  obtain ⟨v, vs', x1, xs', rfl, rfl, t, r'⟩ := AL.cons r
  obtain ⟨v', x', rfl, rfl, t'⟩ := AL.one r'
  cases e
  obtain rfl := t'.tyc
  obtain ⟨a, dx, fs, ns, ys, rfl, ha, l, rl, h⟩ := onIns_of s t h
  exact ⟨_, _, _, _, _, rfl, .ty _, .base (.ins ha I.cl I.ha I.hn I.ht I.hm), hk, q F H _ _ (.refl s) (R.bl _) h⟩
/-- what an own __iter__ promises: iter(self.f) -/
def spIter (K : PySem.W.Frag) (C : Addr) (f : Str) : Nat → Sp := fun n vs H Q _ => ∃ a dx fs l zs, vs = [.ref a] ∧ H a = some (.ins C dx fs) ∧ fs.lookup f = some (.ref l) ∧ SqL K H l zs ∧ ∀ it, H it = none → n ≤ it → Q (.ref it) (upd H it (ItO l it 0))
theorem iter_read {C : Addr} {f : Str} {n : Nat} {vs : List V} {H : Hp} {Q : VK} {E : XK} (c : Cls K C) (na : NoAttr K C f) (h : spIter K C f n vs H Q E) :
    (tRet (tCB (ItX.rIterN K n) (tCons (tFld K (tVar 0) f) tNil))) { nx := fun _ H' => Q .non H', rt := Q } (L2.start ["self"] vs) H := by
  obtain ⟨a, dx, fs, l, zs, rfl, ha, hl, hs, q⟩ := h
  exact ⟨.ref a, rfl, a, C, dx, fs, .ref l, rfl, ha, c, na, hl, l, zs, rfl, hs, fun it ni hn => q it ni hn⟩
def wIOwn (C : Addr) (f : Str) (o : WE) : WI := fun env Q X => o env (fun x => onIns C x fun ns xs => ∃ rs, lookN ns xs f = some (.lst rs) ∧ Q rs) X
theorem si_own {C : Addr} {f : Str} {E : XK} {te : TE} {o : WE} (h : SE K W .C te o) : SimI K W (iOwn K C (spIter K C f) E te) (wIOwn C f o) := fun F0 H0 σ F H env Qp Xp Rr g hw hx q =>
  h F0 H0 σ F H env _ Xp _ g hw hx fun F1 H1 v x m r h1 => by
    obtain ⟨a, dx, fs, ns, ys, rfl, ha, l, rl, rs, hy, h1⟩ := onIns_of m.fh r h1
    obtain ⟨w, ew, rw'⟩ := look_of l rl hy
    cases rw' with
    | lst hf rr =>
      refine ⟨a, dx, fs, rfl, ha, fun n => ⟨a, dx, fs, _, _, rfl, ha, ew, SqL.of (m.fh _ _ hf), fun it ni hn => ⟨it, _, rfl, hn, upd_same, ?_⟩⟩⟩
      rw [ItX.dropH_upd ni]
      exact q F1 H1 _ _ m (wkd_at walk_list (fun F2 H2 o => ⟨SqL.of (o.2.1 _ _ (o.1 _ _ hf)), rr.mono o.1, o.2.1⟩) rr.len) h1
/-! #### dicts -/
def wDGet2 (d y x : WE) : WE := fun env Q X => d env (fun a => onDct a fun ks xs => y env (fun z => x env (fun u => onKey z fun k => Q ((valP ks xs k).getD u)) X) X) X
theorem se_dget2 {td ty tx : TE} {d y x : WE} (hd : SE K W .C td d) (hy : SE K W .C ty y) (hx' : SE K W .V tx x) : SE K W .V (tDGet2 td ty tx) (wDGet2 d y x) := fun F0 H0 σ F H env Qp Xp Q g hw hx q =>
  hd F0 H0 σ F H env _ Xp _ g hw hx fun F1 H1 v a m1 r1 h1 => by
    obtain ⟨ks, xs, p, vs, rfl, rfl, hp, l, r, h1⟩ := onDct_of m1.fh r1 h1
    refine ⟨p, rfl, .inl ⟨_, hp⟩, ?_⟩
    refine hy F0 H0 σ F1 H1 env _ Xp _ (g.mv m1) h1 (hx.mv m1) fun F2 H2 w z m2 r2 h2 => ?_
    refine hx' F0 H0 σ F2 H2 env _ Xp _ ((g.mv m1).mv m2) h2 ((hx.mv m1).mv m2) fun F3 H3 u b m3 r3 h3 => ?_
    obtain ⟨k, rfl, h3⟩ := onKey_of (Tp.mv m3 r2) h3
    have m23 := m2.trans m3
    have rr := r.mono m23.e.1
    refine ⟨valV (ks.zip vs) k, .inl ⟨_, k, Rd.same m23.s hp, rfl, rfl⟩, ?_⟩
    cases e : valP ks xs k with
    | none =>
      rw [(valP_zip l rr).1 e]
      rw [e] at h3
      exact q F3 H3 u b (m1.trans m23) r3 h3
    | some c =>
      obtain ⟨cv, ec, rc⟩ := (valP_zip l rr).2 c e
      rw [ec]
      rw [e] at h3
      exact q F3 H3 cv c (m1.trans m23) rc h3
theorem zip_fst {ks : List Key} {vs : List V} (l : ks.length = vs.length) : (ks.zip vs).map (·.1) = ks := by
  rw [List.map_fst_zip]; omega
/-- the keys of a dict are texts that are data -/
def fSortD : PFn := fun xs Q => ∃ (ks : List Str) (ys : List P), xs = [.dct (ks.map Sum.inr) ys] ∧ ks.length < 64 ∧ (∀ k ∈ ks, SOk k) ∧ ∀ ms : List Str, ms.Perm ks → sortedS ms = true → Q (.lst (ms.map .str))
theorem cs_sortD {m : Mo} : CallS K .O [m] (fun xs H Q => ∃ (a : Addr) (kvs : List (Key × V)) (ks : List Str), xs = [.ref a] ∧ Rd H a (.dK kvs) ∧ kvs.map (·.1) = ks.map Sum.inr ∧ ks.length < 64 ∧
    ∀ ys p, ys.Perm ks → sortedS ys = true → H p = none → Q (.ref p) (upd H p (.lst (ys.map V.str)))) fSortD := fun F H vs xs Qp Q s r ⟨ks, ys, e, hn, hk, h⟩ q => by
  obtain ⟨v, x, rfl, rfl, t⟩ := AL.one r
  cases e
  obtain ⟨a, ws, rfl, ha, l, rl⟩ := Tp.dct s t
  exact ⟨a, _, ks, rfl, ha, zip_fst l, hn, fun ms p h1 h2 np => q F _ _ (.lst (ms.map .str)) (mv_new s np) (.inl ⟨p, _, rfl, np, same_free s np, upd_same, .l (.of_strs fun z hz => hk z (h1.mem_iff.mp hz))⟩) (h ms h1 h2)⟩
/-- strip(signs) -/
theorem sok_sub {z : Str} {lo hi : Nat} (h : SOk z) : SOk (Builtin.Str.strSub z lo hi) := by
  have e : (Builtin.Str.strSub z lo hi).cps.toList = (z.cps.toList.drop lo).take (hi - lo) := by
    unfold Builtin.Str.strSub
    simp [List.extract]
  have hl : z.cps.toList.length ≤ sizeLine := by rw [Array.length_toList]; exact h.1
  refine ⟨?_, fun c hc => ?_⟩
  · show (Builtin.Str.strSub z lo hi).cps.size ≤ sizeLine
    rw [← Array.length_toList, e, List.length_take, List.length_drop]
    omega
  · rw [e] at hc
    exact h.2 c (List.mem_of_mem_drop (List.mem_of_mem_take hc))
theorem sok_strip {a b : Str} (h : SOk a) : SOk (Txt.stripChars a b) := by
  unfold Txt.stripChars Txt.stripBy
  split
  · exact h
  · unfold stripped
    exact sok_sub h
theorem ms_strip {m : Mo} : MtS K .V [m] (fun x xs H Q => ∃ a b, x = .str a ∧ xs = [.str b] ∧ a.length ≤ sizeLine ∧ Q (.str (Txt.stripChars a b)) H) fStrip := fun F H v vs x xs Qp Q s r r' h q => by
  obtain ⟨w, y, rfl, rfl, t⟩ := AL.one r'
  unfold fStrip at h
  split at h
  · rename_i a b e
    cases e
    obtain ⟨rfl, sa⟩ := r.str
    obtain ⟨rfl, sb⟩ := t.str
    exact ⟨a, b, rfl, rfl, sa.1, q F H _ _ (.refl s) (R.str (sok_strip sa)) h⟩
  · exact h.elim
end
end Pf

namespace Pf
open PySem PySem.Spec PyProof.Rows L2
section
variable {K : PySem.W.Frag} {W : WX} {k : Rk} {ro : Bool}
/-! #### truth of a value -/
theorem RL.emp {F : Hp} {vs : List V} {xs : List P} (r : RL K F vs xs) : vs.isEmpty = xs.isEmpty := by cases r <;> rfl
theorem st_truth {ta : TE} {wa : WE} (ha : SE K W .C ta wa) : ST K W (fun σ H Q => ta σ H fun x H' => ∃ k, TruV K x H' k ∧ Q k H') (wTr wa) := fun F0 H0 σ F H env Qp Xp Q g hw hx q =>
  ha F0 H0 σ F H env _ Xp _ g hw hx fun F1 H1 v x m r h1 => by
    cases x with
    | bl b =>
      obtain ⟨b', rfl, e, h1⟩ := onB_of r (show onB (.bl b) Qp from h1)
      cases e
      exact ⟨b, rfl, q F1 H1 b m h1⟩
    | non =>
      have e : v = .non := by
        rcases r with r | ⟨_, _, _, _, c⟩
        · cases r; rfl
        · exact c.elim
      subst e
      exact ⟨false, rfl, q F1 H1 _ m h1⟩
    | int i =>
      have e : v = .int i := by
        rcases r with r | ⟨_, _, _, _, c⟩
        · cases r; rfl
        · exact c.elim
      subst e
      exact ⟨_, rfl, q F1 H1 _ m h1⟩
    | str z =>
      obtain ⟨rfl, sz⟩ := r.str
      exact ⟨_, ⟨sz.1, rfl⟩, q F1 H1 _ m h1⟩
    | lst xs =>
      obtain ⟨a, vs, rfl, ha, rl⟩ := Tp.lst m.fh r
      exact ⟨_, .inl ⟨vs, SqL.of ha, by rw [rl.emp]⟩, q F1 H1 _ m h1⟩
    | tup xs =>
      obtain ⟨ys, a, vs, e, rfl, ha, rl, h1⟩ := onTup_of m.fh r (show onTup (.tup xs) (fun ys => Qp (!ys.isEmpty)) from h1)
      exact ⟨_, .inr (.inl ⟨vs, SqT.of (m.fh _ _ ha), by rw [rl.emp]⟩), q F1 H1 _ m h1⟩
    | _ => exact (show False from h1).elim
end
/-! ### what isinstance, except ask of the classes -/
theorem kit_self {K : PySem.W.Frag} {C : Addr} : PySem.W.kitOne K (.ref C) (.ref C) = some true := by
  unfold PySem.W.kitOne
  rw [if_pos (beq_iff_eq.mpr rfl)]
theorem kit_ref {K : PySem.W.Frag} {C D : Addr} {b : Bool} (hs : PySem.W.subIn K (.ref C) (.ref C) = some true) (h : PySem.W.subIn K (.ref C) (.ref D) = some b) (hd : PySem.W.hasDictIn K D = true) (ht : PySem.W.typeIn K (.ref D) = some (.type "type")) :
    PySem.W.kitOne K (.ref C) (.ref D) = some b := by
  obtain ⟨cd, hc, _⟩ := PySem.W.any_some hd
  have e2 : ((PySem.W.clsIn K D).isSome && PySem.W.typeIn K (.ref D) == some (.type "type")) = true := by rw [hc, ht] <;> rfl
  unfold PySem.W.kitOne
  by_cases e : (Value.ref C == Value.ref D) = true
  · obtain rfl : C = D := Value.ref.inj (beq_iff_eq.mp e)
    rw [hs] at h
    rw [if_pos e, h]
  · rw [if_neg e]
    show (if ((PySem.W.clsIn K D).isSome && PySem.W.typeIn K (.ref D) == some (.type "type")) = true then PySem.W.subIn K (.ref C) (.ref D) else none) = some b
    rw [if_pos e2]
    exact h
theorem kit_type {K : PySem.W.Frag} {C : Addr} {T : String} {b : Bool} (hk : PySem.W.kitMeta T = true) (h : PySem.W.subIn K (.ref C) (.type T) = some b) : PySem.W.kitOne K (.ref C) (.type T) = some b := by
  unfold PySem.W.kitOne
  rw [if_neg (by intro e; cases beq_iff_eq.mp e)]
  show (if PySem.W.kitMeta T = true then PySem.W.subIn K (.ref C) (.type T) else none) = some b
  rw [if_pos hk]
  exact h
/-! ### own classes, errors: step by step -/
theorem ap_fldR {C : Addr} {f : Str} {o : WE} {env : PEnv} {Q : P → Prop} {X : XP} : (wFldR C f o env Q X) = (o env (fun x => onIns C x fun ns xs => ∃ y, lookN ns xs f = some y ∧ Q y) X) := rfl
theorem ap_fldS {C : Addr} {i : Nat} {f : Str} {w : WE} {D : PEnds} {env : PEnv} : (wFldS C i f w D env) = (w env (fun y => match env[i]? with
  | some (some (.o, .slf a C' ns xs)) => C' = C ∧ ns.length < 1000 ∧ D.nx (env.set i (some (.o, .slf a C (putN ns f) (putX ns xs f y))))
  | _ => False) (D.ex env)) := rfl
theorem ap_prop {C : Addr} {p : PSp} {o : WE} {env : PEnv} {Q : P → Prop} {X : XP} : (wProp C p o env Q X) = (o env (fun x => onIns C x fun _ _ => p [x] Q noX) X) := rfl
theorem ap_meth {C : Addr} {n : Str} {p : PSp} {o : WE} {a : WA} {env : PEnv} {Q : P → Prop} {X : XP} : (wMeth C n p o a env Q X) = (o env (fun x => onIns C x fun ns _ => n ∉ ns ∧ a env (fun ys => p (x :: ys) Q noX) X) X) := rfl
theorem ap_insI {C : Addr} {ns : List Str} {xs : List P} {Q : List Str → List P → Prop} : (onIns C (.ins C ns xs) Q) = (Q ns xs) := propext ⟨fun h => h.2, fun h => ⟨rfl, h⟩⟩
theorem ap_insS {a C : Addr} {ns : List Str} {xs : List P} {Q : List Str → List P → Prop} : (onIns C (.slf a C ns xs) Q) = (Q ns xs) := propext ⟨fun h => h.2, fun h => ⟨rfl, h⟩⟩
theorem ap_selfO {a C : Addr} {ns : List Str} {xs : List P} {e : PEnv} {Q : P → Prop} : (selfO a (some (.o, .slf a C ns xs) :: e) Q) = (Q (.ins C ns xs)) := propext ⟨fun h => h.2, fun h => ⟨rfl, h⟩⟩
theorem ap_raise {C : Addr} {ns : List Str} {a : WA} {D : PEnds} {env : PEnv} : (wRaise C ns a D env) = (a env (fun xs => D.ex env C ns xs) (D.ex env)) := rfl
theorem ap_try {C : Addr} {i : Nat} {b : WS} {s : Addr → Option Addr → WS} {D : PEnds} {env : PEnv} : (wTry C i b s D env) =
  (b { D with ex := fun e C' ns xs => C' = C ∧ ∀ (a : Addr) (d : Option Addr), (ns ≠ [] → d.isSome = true) → s a d ⟨fun e' => D.nx (e'.set i none), D.rt, fun e' => D.bk (e'.set i none), fun e' => D.ct (e'.set i none), fun _ => noX⟩ (e.set i (some (.v, .exc a d C' ns xs))) } env) := rfl
theorem ap_tryO {C : Addr} {b s : WS} {D : PEnds} {env : PEnv} : (wTryO C b s D env) = (b { D with ex := fun e C' ns xs => C' = C ∧ s { D with ex := fun _ => noX } e } env) := rfl
theorem ap_xf {a C : Addr} {d : Option Addr} {f : Str} {o : WE} {env : PEnv} {Q : P → Prop} {X : XP} : (wXf a d C f o env Q X) = (o env (fun x => ∃ ns xs y, x = .exc a d C ns xs ∧ lookN ns xs f = some y ∧ Q y) X) := rfl
theorem ap_isD {a C : Addr} {d : Option Addr} {c : P} {b : Bool} {n : Str} {ns : List Str} {ys : List P} {Q : P → Prop} : (fIsD a d C c b [.exc a d C (n :: ns) ys, c] Q) = (Q (.bl b)) :=
  propext ⟨fun ⟨_, _, _, _, q⟩ => q, fun q => ⟨_, _, rfl, by simp, q⟩⟩
theorem ap_lenO {C : Addr} {p : PSp} {x : P} {Q : P → Prop} : (fLenO C p [x] Q) = (onIns C x fun _ _ => p [x] (fun y => onInt y fun k => 0 ≤ k ∧ k < 2 ^ 63 ∧ Q (.int k)) noX) :=
  propext ⟨fun ⟨y, e, h⟩ => by cases e; exact h, fun h => ⟨_, rfl, h⟩⟩
theorem ap_eqO {C : Addr} {p : PSp} {x y : P} {Q : P → Prop} : (fEqO C p x y Q) = (onIns C x fun _ _ => onIns C y fun _ _ => p [x, y] (fun z => onB z fun b => Q (.bl b)) noX) := rfl
theorem ap_addO {C : Addr} {p : PSp} {x y : P} {Q : P → Prop} : (fAddO C p x y Q) = (onIns C x fun _ _ => onIns C y fun _ _ => p [x, y] (fun z => onIns C z fun _ _ => Q z) noX) := rfl
theorem ap_isO {C : Addr} {x : P} {Q : P → Prop} : (fIsO C [x, .adr C] Q) = (onIns C x fun _ _ => Q (.bl true)) := propext ⟨fun ⟨y, e, h⟩ => by cases e; exact h, fun h => ⟨_, rfl, h⟩⟩
theorem ap_isOT {C : Addr} {T : String} {x : P} {Q : P → Prop} : (fIsOT C T [x, .ty T] Q) = (onIns C x fun _ _ => Q (.bl false)) := propext ⟨fun ⟨y, e, h⟩ => by cases e; exact h, fun h => ⟨_, rfl, h⟩⟩
theorem ap_iown {C : Addr} {f : Str} {o : WE} {env : PEnv} {Q : List P → Prop} {X : XP} : (wIOwn C f o env Q X) = (o env (fun x => onIns C x fun ns xs => ∃ rs, lookN ns xs f = some (.lst rs) ∧ Q rs) X) := rfl
theorem ap_dget2 {d y x : WE} {env : PEnv} {Q : P → Prop} {X : XP} : (wDGet2 d y x env Q X) = (d env (fun a => onDct a fun ks xs => y env (fun z => x env (fun u => onKey z fun k => Q ((valP ks xs k).getD u)) X) X) X) := rfl
theorem ap_some {α : Type} {a : α} {Q : α → Prop} : (∃ y, some a = some y ∧ Q y) = Q a := propext ⟨fun ⟨_, e, q⟩ => by cases e; exact q, fun q => ⟨a, rfl, q⟩⟩
theorem ap_xfE {a C : Addr} {d : Option Addr} {ns0 : List Str} {xs0 : List P} {f : Str} {Q : P → Prop} : (∃ ns xs y, P.exc a d C ns0 xs0 = P.exc a d C ns xs ∧ lookN ns xs f = some y ∧ Q y) = (∃ y, lookN ns0 xs0 f = some y ∧ Q y) :=
  propext ⟨fun ⟨_, _, y, e, h⟩ => by cases e; exact ⟨y, h⟩, fun ⟨y, h⟩ => ⟨_, _, y, rfl, h⟩⟩
theorem ap_lkh {n : Str} {ns : List Str} {x : P} {xs : List P} : lookN (n :: ns) (x :: xs) n = some x := by simp [lookN]
theorem ap_onT_b {b : Bool} {Q : Bool → Prop} : (onT (.bl b) Q) = (Q b) := rfl
theorem ap_onT_n {Q : Bool → Prop} : (onT .non Q) = (Q false) := rfl
theorem ap_onT_i {i : Int} {Q : Bool → Prop} : (onT (.int i) Q) = (Q (i != 0)) := rfl
theorem ap_onT_s {z : Str} {Q : Bool → Prop} : (onT (.str z) Q) = (Q ((z.length : Int) != 0)) := rfl
theorem ap_onT_l {xs : List P} {Q : Bool → Prop} : (onT (.lst xs) Q) = (Q (!xs.isEmpty)) := rfl
theorem ap_onT_t {xs : List P} {Q : Bool → Prop} : (onT (.tup xs) Q) = (Q (!xs.isEmpty)) := rfl
end Pf

namespace Pf
open PySem PySem.Spec PyProof.Rows L2
/-! ### defs with one keyword-only parameter -/
theorem Fun.kbn {K : PySem.W.Frag} {x qual : Str} {st : Stmt} {f : Addr} {fd : FuncData} {ps : List Str} (F : Fun K x qual st f fd) (n : Nat) (k : Str)
    (h : ∀ (kV doc pm : Value) (an : Option Addr) (cdv ct : Value) (us : List Value) (w : Value), us.length = n → bindArgs (PySem.W.fnOf x qual (defArgs st) (defBody st) (defScope st) .none kV doc pm an cdv ct) ⟨us, [(k, w)]⟩ = pure (ps.zip (us ++ [w]))) :
    KBn K fd ps n [k] (fun us ws => us ++ ws) (fun vs zs => vs ++ zs) := by
  obtain ⟨oc, od, kV, doc, pm, an, cdv, ct, osl, rfl, lk, hcd⟩ := F.ex
  refine ⟨fun s us ws X l1 l2 => ?_, fun r1 r2 => r1.append r2⟩
  match ws, l2 with
  | [w], _ => exact .of_eq (h kV doc pm an cdv ct us w l1)
theorem kdef_mk {K : PySem.W.Frag} {x qual k : Str} {st : Stmt} {D : Addr} {doc pm cdv ct u : Value} {an : Option Addr} {ps : List Str} {v : V} (hn : PySem.W.nsIn K D k = some (some u)) (hr : RelV v u) (n : Nat) (hl : ps.length = n + 1)
    (h : ∀ (us ks : List Value), us.length = n → ks.length = 1 → KwChain D (List.zip [k] ks) (bindArgs (PySem.W.fnOf x qual (defArgs st) (defBody st) (defScope st) .none (.ref D) doc pm an cdv ct) ⟨us, []⟩) (ps.zip (us ++ ks))) :
    ∃ ds, Vals [v] ds ∧ Binds K (PySem.W.fnOf x qual (defArgs st) (defBody st) (defScope st) .none (.ref D) doc pm an cdv ct) ps ds := by
  refine ⟨[u], .cons hr .nil, fun s us X hlen => ?_⟩
  have l2 : us.length = n := by
    rw [List.length_append, hl] at hlen
    simpa using hlen
  refine BindsTo.of_looks fun M => KwChain.looks X (fun q hq => ?_) (h us [u] l2 rfl)
  have hq : q ∈ [(k, u)] := hq
  rw [List.mem_singleton.mp hq]
  exact hn
section
variable {X : Cx} {CX : CXT} {kk n : Nat} {f : Addr} {fd : FuncData} {ps ks : List Str} {sp : Sp} {x : Str} {p pos : Pos} {e : Expr} {es : List Expr} {kws : List Keyword} {t tk : TA} {g : List Value → List Value → List Value} {gV : List V → List V → List V}
/-- what is raised: wished for at the caller's slots -/
def tCallNS (n m : Nat) (sp : Sp) (gV : List V → List V → List V) (E : L2.St → XK) (t tk : TA) : TE := fun σ H Q => t σ H fun vs H1 => tk σ H1 fun zs H2 => vs.length = n ∧ zs.length = m ∧ sp (gV vs zs) H2 Q (E σ)
theorem run_fnNS {E : L2.St → XK} {pins : List (Addr × Obj)} {σ : L2.St} {H : Hp} {s : Shared} {Q : VK} {us ws : List Value} {vs zs : List V} (F : FnOk X.prog X.w X.K X.mg X.base CX kk f fd ps sp) (hr : Room kk X.A) (hb : KBn X.K fd ps n ks g gV) (hx : PassesAt CX X σ (E σ))
    (I : Inv X pins σ H s) (r : Vals vs us) (rz : Vals zs ws) (l1 : vs.length = n) (l2 : zs.length = ks.length) (h : sp (gV vs zs) H Q (E σ)) : wpAny (model X.prog X.w) X.A (call (.ref f) us (ks.zip ws)) (EP X pins σ Q) X.xe s := by
  have r2 := hb.rel r rz
  refine wpAny_call (codeAny_mono (F.run X.A X.stack s H ⟨us, ks.zip ws⟩ (g us ws) (gV vs zs) Q (E σ) hr I.env0 (hb.to s us ws I.kIn (r.length.symm.trans l1) (rz.length.symm.trans l2)) r2 h) fun r s' hq => ?_)
  cases r with
  | error e => exact hx pins H s e s' I hq
  | ok fl =>
    cases fl with
    | ret u => exact I.after hq
    | next => exact False.elim hq
    | brk => exact False.elim hq
    | cont => exact False.elim hq
theorem pe_callNS {E : L2.St → XK} (F : FnOk X.prog X.w X.K X.mg X.base CX kk f fd ps sp) (hr : Room kk X.A) (hg : Gl X x) (hm : X.mg x = some (.ref f)) (hk : PySem.W.keepIn X.K (.ref f) = true) (hb : KBn X.K fd ps n ks g gV) (hx : ∀ σ, PassesAt CX X σ (E σ))
    (ha : PA X (e :: es) t) (hkw : PK X kws tk) (hall : (backToKw pos (keywordEach kws X.env)).all (·.1.isSome) = true := by rfl) (hks : (backToKw pos (keywordEach kws X.env)).filterMap (·.1) = ks := by rfl)
    (hdb : (x == ("__debug__" : Str)) = false := by decide) (he : starEach (e :: es) X.env = (false, eval e X.env) :: starEach es X.env := by rfl)
    (hpl : ((backTo pos (starEach (e :: es) X.env)).any (·.1) || (backToKw pos (keywordEach kws X.env)).any (·.1.isNone)) = false := by rfl) :
    PE X (.Call (.Name x p) (e :: es) kws pos) (tCallNS n ks.length sp gV E t tk) := by
  refine ⟨fun pins s σ H Q I h => ?_⟩
  refine wpAny_Call_Name_kw (ld_glob I hg hm ?_ hdb)
  refine PySem.W.callWith_KW (h₀ := X.base) I.ok.mod.kin hk hall (thn (ha.run pos pins s σ H _ I h) fun us s1 ⟨vs, H1, I1, r, q⟩ => ?_) hpl he
  refine thn (hkw.run pos pins s1 σ H1 _ I1 q) fun ws s2 ⟨zs, H2, I2, rz, l1, l2, q2⟩ => ⟨I2.kIn, ?_⟩
  rw [hks]
  exact run_fnNS F hr hb (hx σ) I2 r rz l1 l2 q2
/-- the keyword lacks: its default -/
theorem pe_callD {E : XK} {dvs : List V} (F : FnOk X.prog X.w X.K X.mg X.base CX kk f fd ps sp) (hr : Room kk X.A) (hg : Gl X x) (hm : X.mg x = some (.ref f)) (hk : PySem.W.keepIn X.K (.ref f) = true) (hb : ∃ ds, Vals dvs ds ∧ Binds X.K fd ps ds) (hx : Passes CX X E)
    (ha : PA X (e :: es) t) (hdb : (x == ("__debug__" : Str)) = false := by decide) (he : starEach (e :: es) X.env = (false, eval e X.env) :: starEach es X.env := by rfl) (hpl : (backTo pos (starEach es X.env)).any (·.1) = false := by rfl) :
    PE X (.Call (.Name x p) (e :: es) [] pos) (tCall sp dvs E t) := by
  obtain ⟨ds, h1, h2⟩ := hb
  exact pe_call F hr hg hm hk h2 h1 hx ha hdb he hpl
theorem pe_callDS {E : L2.St → XK} {dvs : List V} (F : FnOk X.prog X.w X.K X.mg X.base CX kk f fd ps sp) (hr : Room kk X.A) (hg : Gl X x) (hm : X.mg x = some (.ref f)) (hk : PySem.W.keepIn X.K (.ref f) = true) (hb : ∃ ds, Vals dvs ds ∧ Binds X.K fd ps ds) (hx : ∀ σ, PassesAt CX X σ (E σ))
    (ha : PA X (e :: es) t) (hdb : (x == ("__debug__" : Str)) = false := by decide) (he : starEach (e :: es) X.env = (false, eval e X.env) :: starEach es X.env := by rfl) (hpl : (backTo pos (starEach es X.env)).any (·.1) = false := by rfl) :
    PE X (.Call (.Name x p) (e :: es) [] pos) (tCallSD sp dvs E t) := by
  obtain ⟨ds, h1, h2⟩ := hb
  exact pe_callSD F hr hg hm hk h2 h1 hx ha hdb he hpl
end
section
variable {K : PySem.W.Frag} {W : WX} {k : Rk} {ro : Bool}
theorem AL.app {F H : Hp} : ∀ {ms ms' : List Mo} {vs vs' : List V} {xs xs' : List P}, AL K F H ms vs xs → AL K F H ms' vs' xs' → AL K F H (ms ++ ms') (vs ++ vs') (xs ++ xs')
  | [], _, [], _, [], _, _, h => h
  | .v :: _, _, _ :: _, _, _ :: _, _, ⟨h1, h2⟩, h => ⟨h1, AL.app h2 h⟩
  | .b :: _, _, _ :: _, _, _ :: _, _, ⟨h1, h2⟩, h => ⟨h1, AL.app h2 h⟩
def wCallN0 (p : PSp) (a b : WA) : WE := fun env Q X => a env (fun xs => b env (fun ys => p (xs ++ ys) Q noX) X) X
def wCallNX (p : PSp) (a b : WA) : WE := fun env Q X => a env (fun xs => b env (fun ys => p (xs ++ ys) Q X) X) X
theorem se_callN0 {ms mk : List Mo} {p : PSp} {E : XK} {n m : Nat} {t tk : TA} {w wk : WA} (h : SimA K W ms t w) (hk : SimA K W mk tk wk) (hn : ms.length = n) (hm : mk.length = m) : SE K W (rkOf ro) (tCallN n m (spOf K (ms ++ mk) ro p) (fun vs zs => vs ++ zs) E t tk) (wCallN0 p w wk) :=
  fun F0 H0 σ F H env Qp Xp Q g hw hx q => h F0 H0 σ F H env _ Xp _ g hw hx fun F1 H1 vs xs m1 r1 h1 =>
    hk F0 H0 σ F1 H1 env _ Xp _ (g.mv m1) h1 (hx.mv m1) fun F2 H2 zs ys m2 r2 h2 =>
      ⟨by have := r1.lens; omega, by have := r2.lens; omega, F2, xs ++ ys, Qp, noX, m2.fh, (r1.mv m2).app r2, h2, fun F3 H3 v x m3 r3 h3 => q F3 H3 v x ((m1.trans m2).trans m3) (rel_back (m1.s.trans m2.s) r3.rel) h3, fun _ _ _ _ _ _ _ _ z => z.elim⟩
theorem se_callNS {ms mk : List Mo} {p : PSp} {n m : Nat} {t tk : TA} {w wk : WA} (h : SimA K W ms t w) (hk : SimA K W mk tk wk) (hn : ms.length = n) (hm : mk.length = m) : SE K W (rkOf ro) (tCallNS n m (spOf K (ms ++ mk) ro p) (fun vs zs => vs ++ zs) (fun σ => L2.WE W σ) t tk) (wCallNX p w wk) :=
  fun F0 H0 σ F H env Qp Xp Q g hw hx q => h F0 H0 σ F H env _ Xp _ g hw hx fun F1 H1 vs xs m1 r1 h1 =>
    hk F0 H0 σ F1 H1 env _ Xp _ (g.mv m1) h1 (hx.mv m1) fun F2 H2 zs ys m2 r2 h2 =>
      ⟨by have := r1.lens; omega, by have := r2.lens; omega, F2, xs ++ ys, Qp, Xp, m2.fh, (r1.mv m2).app r2, h2, fun F3 H3 v x m3 r3 h3 => q F3 H3 v x ((m1.trans m2).trans m3) (rel_back (m1.s.trans m2.s) r3.rel) h3, fun F' H' C d ns ys m f z => hx F' H' C d ns ys ((m1.trans m2).trans m) f z⟩
def wCallD0 (p : PSp) (d : P) (a : WA) : WE := fun env Q X => a env (fun xs => p (xs ++ [d]) Q noX) X
def wCallDX (p : PSp) (d : P) (a : WA) : WE := fun env Q X => a env (fun xs => p (xs ++ [d]) Q X) X
theorem se_callD0 {ms : List Mo} {p : PSp} {E : XK} {i : Int} {t : TA} {w : WA} (h : SimA K W ms t w) : SE K W (rkOf ro) (tCall (spOf K (ms ++ [.v]) ro p) [.int i] E t) (wCallD0 p (.int i) w) :=
  fun F0 H0 σ F H env Qp Xp Q g hw hx q => h F0 H0 σ F H env _ Xp _ g hw hx fun F1 H1 vs xs m1 r1 h1 =>
    ⟨F1, xs ++ [.int i], Qp, noX, m1.fh, r1.app ⟨R.int i, trivial⟩, h1, fun F2 H2 v x m2 r2 h2 => q F2 H2 v x (m1.trans m2) (rel_back m1.s r2.rel) h2, fun _ _ _ _ _ _ _ _ z => z.elim⟩
theorem se_callDS {ms : List Mo} {p : PSp} {i : Int} {t : TA} {w : WA} (h : SimA K W ms t w) : SE K W (rkOf ro) (tCallSD (spOf K (ms ++ [.v]) ro p) [.int i] (fun σ => L2.WE W σ) t) (wCallDX p (.int i) w) :=
  fun F0 H0 σ F H env Qp Xp Q g hw hx q => h F0 H0 σ F H env _ Xp _ g hw hx fun F1 H1 vs xs m1 r1 h1 =>
    ⟨F1, xs ++ [.int i], Qp, Xp, m1.fh, r1.app ⟨R.int i, trivial⟩, h1, fun F2 H2 v x m2 r2 h2 => q F2 H2 v x (m1.trans m2) (rel_back m1.s r2.rel) h2, fun F' H' C d ns ys m f z => hx F' H' C d ns ys (m1.trans m) f z⟩
theorem ap_aug {i : Nat} {f : Int → Int → Int} {w : WE} {D : PEnds} {env : PEnv} : (wAug i f w D env) = (match env[i]? with
  | some (some (.v, .int a)) => w env (fun y => onInt y fun b => D.nx (env.set i (some (.v, .int (f a b))))) (D.ex env)
  | _ => False) := rfl
theorem ap_callN0 {p : PSp} {a b : WA} {env : PEnv} {Q : P → Prop} {X : XP} : (wCallN0 p a b env Q X) = (a env (fun xs => b env (fun ys => p (xs ++ ys) Q noX) X) X) := rfl
theorem ap_callNX {p : PSp} {a b : WA} {env : PEnv} {Q : P → Prop} {X : XP} : (wCallNX p a b env Q X) = (a env (fun xs => b env (fun ys => p (xs ++ ys) Q X) X) X) := rfl
theorem ap_callD0 {p : PSp} {d : P} {a : WA} {env : PEnv} {Q : P → Prop} {X : XP} : (wCallD0 p d a env Q X) = (a env (fun xs => p (xs ++ [d]) Q noX) X) := rfl
theorem ap_callDX {p : PSp} {d : P} {a : WA} {env : PEnv} {Q : P → Prop} {X : XP} : (wCallDX p d a env Q X) = (a env (fun xs => p (xs ++ [d]) Q X) X) := rfl
end
end Pf

namespace Pf
open PySem PySem.Spec PyProof.Rows L2
/-! ### reading lists of pure values back -/
abbrev il (ns : List Int) : P := .lst (ns.map P.int)
abbrev tl (ns : List Int) : P := .tup (ns.map P.int)
abbrev sl (zs : List Str) : P := .lst (zs.map P.str)
abbrev rowP (r : Int × Str) : P := .tup [.int r.1, .str r.2]
abbrev rl (rs : List (Int × Str)) : P := .lst (rs.map rowP)
/-- a deed -/
abbrev ddP (d : Int × List Int) : P := .tup [.int d.1, tl d.2]
abbrev iiP (d : Int × Int) : P := .tup [.int d.1, .int d.2]
/-- one value read back -/
class VE {α : Type} (enc : α → P) (x : P) (a : outParam α) : Prop where
  eq : x = enc a
class ML (xs : List P) (α : outParam Type) (enc : outParam (α → P)) (l : outParam (List α)) : Prop where
  eq : xs = l.map enc
class EL {α : Type} (enc : α → P) (xs : List P) (l : outParam (List α)) : Prop where
  eq : xs = l.map enc
instance (priority := low) ve_self {α : Type} {enc : α → P} {a : α} : VE enc (enc a) a := ⟨rfl⟩
instance ve_i {n : Int} : VE P.int (.int n) n := ⟨rfl⟩
instance ve_s {n : Str} : VE P.str (.str n) n := ⟨rfl⟩
instance ve_b {n : Bool} : VE P.bl (.bl n) n := ⟨rfl⟩
instance ve_r {n : Int} {z : Str} : VE rowP (.tup [.int n, .str z]) (n, z) := ⟨rfl⟩
instance ve_ii {n m : Int} : VE iiP (.tup [.int n, .int m]) (n, m) := ⟨rfl⟩
instance ve_il {xs : List P} {l : List Int} [h : EL P.int xs l] : VE il (.lst xs) l := ⟨by rw [h.eq]⟩
instance ve_tl {xs : List P} {l : List Int} [h : EL P.int xs l] : VE tl (.tup xs) l := ⟨by rw [h.eq]⟩
instance ve_sl {xs : List P} {l : List Str} [h : EL P.str xs l] : VE sl (.lst xs) l := ⟨by rw [h.eq]⟩
instance ve_rl {xs : List P} {l : List (Int × Str)} [h : EL rowP xs l] : VE rl (.lst xs) l := ⟨by rw [h.eq]⟩
instance ve_d {n : Int} {xs : List P} {l : List Int} [h : EL P.int xs l] : VE ddP (.tup [.int n, .tup xs]) (n, l) := ⟨by rw [h.eq]⟩
instance (priority := low) ml_map {α : Type} {enc : α → P} {l : List α} : ML (List.map enc l) α enc l := ⟨rfl⟩
instance ml_i {l : List Int} : ML (List.map P.int l) Int P.int l := ⟨rfl⟩
instance ml_s {l : List Str} : ML (List.map P.str l) Str P.str l := ⟨rfl⟩
instance ml_b {l : List Bool} : ML (List.map P.bl l) Bool P.bl l := ⟨rfl⟩
instance ml_r {l : List (Int × Str)} : ML (List.map rowP l) (Int × Str) rowP l := ⟨rfl⟩
instance (priority := mid) ml_if {α : Type} {l : List α} {h : α → Int} : ML (List.map (fun a => P.int (h a)) l) Int P.int (l.map h) := ⟨by rw [List.map_map]; rfl⟩
instance (priority := mid) ml_sf {α : Type} {l : List α} {h : α → Str} : ML (List.map (fun a => P.str (h a)) l) Str P.str (l.map h) := ⟨by rw [List.map_map]; rfl⟩
instance (priority := mid) ml_bf {α : Type} {l : List α} {h : α → Bool} : ML (List.map (fun a => P.bl (h a)) l) Bool P.bl (l.map h) := ⟨by rw [List.map_map]; rfl⟩
instance (priority := mid) ml_rf {α : Type} {l : List α} {h : α → Int} {k : α → Str} : ML (List.map (fun a => P.tup [.int (h a), .str (k a)]) l) (Int × Str) rowP (l.map fun a => (h a, k a)) := ⟨by rw [List.map_map]; rfl⟩
instance (priority := mid) ml_iif {α : Type} {l : List α} {h k : α → Int} : ML (List.map (fun a => P.tup [.int (h a), .int (k a)]) l) (Int × Int) iiP (l.map fun a => (h a, k a)) := ⟨by rw [List.map_map]; rfl⟩
instance ml_i1 {n : Int} : ML [P.int n] Int P.int [n] := ⟨rfl⟩
instance ml_s1 {n : Str} : ML [P.str n] Str P.str [n] := ⟨rfl⟩
instance ml_b1 {n : Bool} : ML [P.bl n] Bool P.bl [n] := ⟨rfl⟩
instance ml_r1 {n : Int} {z : Str} : ML [P.tup [.int n, .str z]] (Int × Str) rowP [(n, z)] := ⟨rfl⟩
instance ml_r1' {r : Int × Str} : ML [rowP r] (Int × Str) rowP [r] := ⟨rfl⟩
instance ml_ii1 {n m : Int} : ML [P.tup [.int n, .int m]] (Int × Int) iiP [(n, m)] := ⟨rfl⟩
instance ml_d1 {n : Int} {xs : List P} {l : List Int} [h : EL P.int xs l] : ML [P.tup [.int n, .tup xs]] (Int × List Int) ddP [(n, l)] := ⟨by rw [h.eq]; rfl⟩
instance ml_il1 {xs : List P} {l : List Int} [h : ML xs Int P.int l] : ML [P.lst xs] (List Int) il [l] := ⟨by rw [h.eq]; rfl⟩
instance ml_ic {n : Int} {xs : List P} {l : List Int} [h : ML xs Int P.int l] : ML (P.int n :: xs) Int P.int (n :: l) := ⟨by rw [h.eq]; rfl⟩
instance ml_sc {n : Str} {xs : List P} {l : List Str} [h : ML xs Str P.str l] : ML (P.str n :: xs) Str P.str (n :: l) := ⟨by rw [h.eq]; rfl⟩
instance ml_bc {n : Bool} {xs : List P} {l : List Bool} [h : ML xs Bool P.bl l] : ML (P.bl n :: xs) Bool P.bl (n :: l) := ⟨by rw [h.eq]; rfl⟩
instance (priority := mid) ml_cons {x : P} {xs : List P} {α : Type} {enc : α → P} {a : α} {l : List α} [h : ML xs α enc l] [v : VE enc x a] : ML (x :: xs) α enc (a :: l) := ⟨by rw [h.eq, v.eq]; rfl⟩
instance (priority := mid) ml_snoc {xs : List P} {x : P} {α : Type} {enc : α → P} {l : List α} {a : α} [h : ML xs α enc l] [v : VE enc x a] : ML (xs ++ [x]) α enc (l ++ [a]) := ⟨by rw [h.eq, v.eq, List.map_append]; rfl⟩
instance (priority := low) ml_app {xs ys : List P} {α : Type} {enc : α → P} {l m : List α} [h : ML xs α enc l] [h' : EL enc ys m] : ML (xs ++ ys) α enc (l ++ m) := ⟨by rw [h.eq, h'.eq, List.map_append]⟩
instance el_nil {α : Type} {enc : α → P} : EL enc [] [] := ⟨rfl⟩
instance (priority := low) el_ml {xs : List P} {α : Type} {enc : α → P} {l : List α} [h : ML xs α enc l] : EL enc xs l := ⟨h.eq⟩
instance ml_set {xs : List P} {x : P} {j : Nat} {α : Type} {enc : α → P} {l : List α} {a : α} [h : ML xs α enc l] [v : VE enc x a] : ML (xs.set j x) α enc (l.set j a) := ⟨by rw [h.eq, v.eq, List.map_set]⟩
instance ml_rep {xs : List P} {n : Nat} {α : Type} {enc : α → P} {l : List α} [h : ML xs α enc l] : ML (List.replicate n xs).flatten α enc (List.replicate n l).flatten := ⟨by rw [h.eq, List.map_flatten, List.map_replicate]⟩
/-- lo, lo + 1, .. as ints -/
def rgI (lo : Int) (n : Nat) : List Int := (List.range n).map fun (i : Nat) => lo + (i : Int)
theorem rng_eq {lo : Int} {n : Nat} : rng lo n = (rgI lo n).map P.int := by unfold rng rgI; rw [List.map_map]; rfl
instance ml_rng {lo : Int} {n : Nat} : ML (rng lo n) Int P.int (rgI lo n) := ⟨rng_eq⟩
instance ml_enum {xs : List P} {α : Type} {enc : α → P} {l : List α} [h : ML xs α enc l] : ML (enumP xs) (α × Nat) (fun p => .tup [.int (p.2 : Int), enc p.1]) l.zipIdx := ⟨by
  rw [h.eq]
  refine List.ext_getElem? fun i => ?_
  rw [List.getElem?_map, List.getElem?_zipIdx]
  cases e : l[i]? with
  | none =>
    rw [List.getElem?_eq_none]; rfl
    rw [enumP_len, List.length_map]; exact List.getElem?_eq_none_iff.mp e
  | some a => rw [enumP_at (x := enc a) (by rw [List.getElem?_map, e]; rfl)]; simp⟩
instance ml_zip {xs ys : List P} {α β : Type} {enc : α → P} {enc2 : β → P} {l : List α} {m : List β} [h : ML xs α enc l] [h' : ML ys β enc2 m] : ML (zipP xs ys) (α × β) (fun p => .tup [enc p.1, enc2 p.2]) (l.zip m) := ⟨by
  rw [h.eq, h'.eq]
  unfold zipP List.zip
  rw [List.map_zipWith, List.zipWith_map]⟩
/-- a slice -/
def cutL {α : Type} (xs : List α) (lo hi : Option Int) : List α := (xs.drop (HT.sIx xs.length 0 lo)).take (HT.sIx xs.length xs.length hi - HT.sIx xs.length 0 lo)
instance ml_cut {xs : List P} {lo hi : Option Int} {α : Type} {enc : α → P} {l : List α} [h : ML xs α enc l] : ML (cutP xs lo hi) α enc (cutL l lo hi) := ⟨by
  rw [h.eq]; unfold cutP cutL; rw [List.length_map, List.map_take, List.map_drop]⟩
theorem cut_len {xs : List P} {lo hi : Option Int} : (cutP xs lo hi).length = (cutL xs lo hi).length := rfl
theorem cutL_hi {α : Type} {xs : List α} {j : Int} (h : 0 ≤ j) : cutL xs none (some j) = xs.take j.toNat := by
  have e : j = ((j.toNat : Nat) : Int) := by omega
  unfold cutL
  rw [e, HT.sIx_nat, HT.sIx_none, Int.toNat_natCast, List.drop_zero, Nat.sub_zero]
  rcases Nat.le_total j.toNat xs.length with h1 | h1
  · rw [Nat.min_eq_left h1]
  · rw [Nat.min_eq_right h1, List.take_of_length_le (Nat.le_refl _), List.take_of_length_le h1]
theorem cutL_lo {α : Type} {xs : List α} {j : Int} (h : 0 ≤ j) : cutL xs (some j) none = xs.drop j.toNat := by
  have e : j = ((j.toNat : Nat) : Int) := by omega
  unfold cutL
  rw [e, HT.sIx_nat, HT.sIx_none, Int.toNat_natCast]
  rcases Nat.le_total j.toNat xs.length with h1 | h1
  · rw [Nat.min_eq_left h1, List.take_of_length_le (by rw [List.length_drop]; omega)]
  · rw [Nat.min_eq_right h1, List.drop_of_length_le (Nat.le_refl _), List.drop_of_length_le h1, List.take_nil]
/-- places -/
def ixOk (n : Nat) (i : Int) : Prop := -(n : Int) ≤ i ∧ i < n
def ixj (n : Nat) (i : Int) : Nat := if 0 ≤ i then i.toNat else (i + n).toNat
def gx {α : Type} [Inhabited α] (l : List α) (i : Int) : α := (l[ixj l.length i]?).getD default
theorem ixN_eq {n : Nat} {i : Int} : (∃ j, ixN n i = some j ∧ True) = ixOk n i := by
  unfold ixN ixOk
  refine propext ⟨fun ⟨j, h, _⟩ => ?_, fun h => ?_⟩
  · split at h <;> split at h <;> first | (cases h; done) | (constructor <;> omega)
  · split
    · exact ⟨_, if_pos h.2, trivial⟩
    · exact ⟨_, if_pos h.1, trivial⟩
theorem ixN_some {n j : Nat} {i : Int} : ixN n i = some j ↔ ixOk n i ∧ j = ixj n i := by
  unfold ixN ixOk ixj
  constructor
  · intro h
    split at h <;> split at h <;> first | (cases h; done) | (rename_i h1 h2; cases h; refine ⟨⟨by omega, by omega⟩, ?_⟩; first | rw [if_pos h1] | rw [if_neg h1])
  · rintro ⟨h, rfl⟩
    split
    · exact if_pos h.2
    · exact if_pos h.1
theorem ap_ixN {n : Nat} {i : Int} {Q : Nat → Prop} : (∃ j, ixN n i = some j ∧ Q j) = (ixOk n i ∧ Q (ixj n i)) := by
  refine propext ⟨fun ⟨j, h, q⟩ => ?_, fun ⟨h, q⟩ => ⟨_, ixN_some.mpr ⟨h, rfl⟩, q⟩⟩
  obtain ⟨h1, rfl⟩ := ixN_some.mp h
  exact ⟨h1, q⟩
theorem ixj_lt {n : Nat} {i : Int} (h : ixOk n i) : ixj n i < n := by
  unfold ixOk at h; unfold ixj; split <;> omega
theorem gx_mem {α : Type} [Inhabited α] {l : List α} {i : Int} (h : ixOk l.length i) : gx l i ∈ l := by
  unfold gx
  rw [List.getElem?_eq_getElem (ixj_lt h)]
  exact List.getElem_mem _
theorem ap_at {α : Type} [Inhabited α] {enc : α → P} {l : List α} {i : Int} {Q : P → Prop} : (∃ z, atI (l.map enc) i = some z ∧ Q z) = (ixOk l.length i ∧ Q (enc (gx l i))) := by
  unfold atI
  rw [List.length_map]
  refine propext ⟨fun ⟨z, h, q⟩ => ?_, fun ⟨h, q⟩ => ⟨_, ?_, q⟩⟩
  · cases e : ixN l.length i with
    | none => rw [e] at h; cases h
    | some j =>
      rw [e] at h
      obtain ⟨h1, rfl⟩ := ixN_some.mp e
      have h2 := ixj_lt h1
      have h : (l.map enc)[ixj l.length i]? = some z := h
      rw [List.getElem?_map, List.getElem?_eq_getElem h2] at h
      refine ⟨h1, ?_⟩
      unfold gx
      rw [List.getElem?_eq_getElem h2]
      cases h
      exact q
  · rw [ixN_some.mpr ⟨h, rfl⟩]
    show (l.map enc)[ixj l.length i]? = _
    unfold gx
    rw [List.getElem?_map, List.getElem?_eq_getElem (ixj_lt h)]
    rfl
theorem gx_nn {α : Type} [Inhabited α] {l : List α} {i : Int} (h : 0 ≤ i) : gx l i = (l[i.toNat]?).getD default := by unfold gx ixj; rw [if_pos h]
theorem gx_get {α : Type} [Inhabited α] {l : List α} {i : Nat} (h : i < l.length) : gx l (i : Int) = l[i] := by
  rw [gx_nn (by omega), Int.toNat_natCast, List.getElem?_eq_getElem h]; rfl
theorem gx_last {α : Type} [Inhabited α] {l : List α} {a : α} : gx (l ++ [a]) (-1) = a := by
  unfold gx ixj
  rw [if_neg (by decide), List.length_append, List.length_singleton, show ((-1 : Int) + ((l.length + 1 : Nat) : Int)).toNat = l.length by omega, List.getElem?_append_right (Nat.le_refl _), Nat.sub_self]
  rfl
theorem gx_map {α β : Type} [Inhabited α] [Inhabited β] {f : α → β} {l : List α} {i : Int} (h : ixOk l.length i) : gx (l.map f) i = f (gx l i) := by
  unfold gx
  rw [List.length_map, List.getElem?_map, List.getElem?_eq_getElem (ixj_lt h)]
  rfl
theorem gx_rg {lo i : Int} {n : Nat} (h0 : 0 ≤ i) (h1 : i < n) : gx (rgI lo n) i = lo + i := by
  rw [gx_nn h0]
  unfold rgI
  rw [List.getElem?_map, List.getElem?_eq_getElem (by rw [List.length_range]; omega)]
  simp
  omega
/-! ### promises, by what they are asked -/
def callP (p : PSp) (xs : List P) (Q : P → Prop) (X : XP) : Prop := p xs Q X
class PAp (p : PSp) (xs : List P) (R : outParam ((P → Prop) → XP → Prop)) : Prop where
  eq : ∀ Q X, p xs Q X = R Q X
theorem ap_p {p : PSp} {xs : List P} {R : (P → Prop) → XP → Prop} [h : PAp p xs R] {Q : P → Prop} {X : XP} : callP p xs Q X = R Q X := h.eq Q X
theorem aq_call0 {p : PSp} {a : WA} {env : PEnv} {Q : P → Prop} {X : XP} : (wCall0 p a env Q X) = (a env (fun xs => callP p xs Q noX) X) := rfl
theorem aq_callX {p : PSp} {a : WA} {env : PEnv} {Q : P → Prop} {X : XP} : (wCallX p a env Q X) = (a env (fun xs => callP p xs Q X) X) := rfl
theorem aq_callN0 {p : PSp} {a b : WA} {env : PEnv} {Q : P → Prop} {X : XP} : (wCallN0 p a b env Q X) = (a env (fun xs => b env (fun ys => callP p (xs ++ ys) Q noX) X) X) := rfl
theorem aq_callNX {p : PSp} {a b : WA} {env : PEnv} {Q : P → Prop} {X : XP} : (wCallNX p a b env Q X) = (a env (fun xs => b env (fun ys => callP p (xs ++ ys) Q X) X) X) := rfl
theorem aq_callD0 {p : PSp} {d : P} {a : WA} {env : PEnv} {Q : P → Prop} {X : XP} : (wCallD0 p d a env Q X) = (a env (fun xs => callP p (xs ++ [d]) Q noX) X) := rfl
theorem aq_callDX {p : PSp} {d : P} {a : WA} {env : PEnv} {Q : P → Prop} {X : XP} : (wCallDX p d a env Q X) = (a env (fun xs => callP p (xs ++ [d]) Q X) X) := rfl
theorem aq_prop {C : Addr} {p : PSp} {o : WE} {env : PEnv} {Q : P → Prop} {X : XP} : (wProp C p o env Q X) = (o env (fun x => onIns C x fun _ _ => callP p [x] Q noX) X) := rfl
theorem aq_meth {C : Addr} {n : Str} {p : PSp} {o : WE} {a : WA} {env : PEnv} {Q : P → Prop} {X : XP} : (wMeth C n p o a env Q X) = (o env (fun x => onIns C x fun ns _ => n ∉ ns ∧ a env (fun ys => callP p (x :: ys) Q noX) X) X) := rfl
theorem aq_lenO {C : Addr} {p : PSp} {x : P} {Q : P → Prop} : (fLenO C p [x] Q) = (onIns C x fun _ _ => callP p [x] (fun y => onInt y fun k => 0 ≤ k ∧ k < 2 ^ 63 ∧ Q (.int k)) noX) := ap_lenO
theorem aq_eqO {C : Addr} {p : PSp} {x y : P} {Q : P → Prop} : (fEqO C p x y Q) = (onIns C x fun _ _ => onIns C y fun _ _ => callP p [x, y] (fun z => onB z fun b => Q (.bl b)) noX) := rfl
theorem aq_addO {C : Addr} {p : PSp} {x y : P} {Q : P → Prop} : (fAddO C p x y Q) = (onIns C x fun _ _ => onIns C y fun _ _ => callP p [x, y] (fun z => onIns C z fun _ _ => Q z) noX) := rfl
/-! ### operators on lists that are read back -/
section
variable {xs ys : List P} {α β : Type} {enc : α → P} {enc2 : β → P} {l : List α} {Q : P → Prop}
theorem aq_fIxL [h : ML xs α enc l] [Inhabited α] {i : Int} : (fIxL (.lst xs) (.int i) Q) = (ixOk l.length i ∧ Q (enc (gx l i))) := by
  rw [ap_fIxL, h.eq]; exact ap_at
theorem aq_fIxT [h : ML xs α enc l] [Inhabited α] {i : Int} : (fIxT (.tup xs) (.int i) Q) = (ixOk l.length i ∧ Q (enc (gx l i))) := by
  rw [ap_fIxT, h.eq]; exact ap_at
theorem aq_fIxScr {l : List Int} {i : Int} : (fIxScr (.scr l) (.int i) Q) = (ixOk l.length i ∧ Q (.int (gx l i))) := by
  rw [ap_fIxScr]
  have h := ap_at (enc := P.int) (l := l) (i := i) (Q := Q)
  rw [← h]
  refine propext ⟨fun ⟨n, e, q⟩ => ⟨_, atI_map e, q⟩, fun ⟨z, e, q⟩ => ?_⟩
  obtain ⟨h1, h2⟩ : ixOk l.length i ∧ Q (.int (gx l i)) := by rw [← h]; exact ⟨z, e, q⟩
  refine ⟨gx l i, ?_, h2⟩
  unfold atI gx
  rw [ixN_some.mpr ⟨h1, rfl⟩]
  show l[ixj l.length i]? = _
  rw [List.getElem?_eq_getElem (ixj_lt h1)]
  rfl
/-- the greatest, the least -/
def maxI : List Int → Int
  | [] => 0
  | a :: l => l.foldl max a
def minI : List Int → Int
  | [] => 0
  | a :: l => l.foldl min a
theorem foldl_max : ∀ (l : List Int) (a : Int), (l.foldl max a = a ∨ l.foldl max a ∈ l) ∧ a ≤ l.foldl max a ∧ ∀ x ∈ l, x ≤ l.foldl max a
  | [], a => ⟨.inl rfl, Int.le_refl _, by simp⟩
  | b :: l, a => by
    obtain ⟨h1, h2, h3⟩ := foldl_max l (max a b)
    rw [List.foldl_cons]
    refine ⟨?_, by omega, fun x hx => ?_⟩
    · rcases h1 with h1 | h1
      · rw [h1]
        rcases Int.le_total a b with h | h
        · right; rw [Int.max_eq_right h]; exact List.mem_cons_self
        · left; exact Int.max_eq_left h
      · right; exact List.mem_cons_of_mem _ h1
    · rcases List.mem_cons.mp hx with rfl | hx
      · omega
      · exact h3 x hx
theorem foldl_min : ∀ (l : List Int) (a : Int), (l.foldl min a = a ∨ l.foldl min a ∈ l) ∧ l.foldl min a ≤ a ∧ ∀ x ∈ l, l.foldl min a ≤ x
  | [], a => ⟨.inl rfl, Int.le_refl _, by simp⟩
  | b :: l, a => by
    obtain ⟨h1, h2, h3⟩ := foldl_min l (min a b)
    rw [List.foldl_cons]
    refine ⟨?_, by omega, fun x hx => ?_⟩
    · rcases h1 with h1 | h1
      · rw [h1]
        rcases Int.le_total a b with h | h
        · left; exact Int.min_eq_left h
        · right; rw [Int.min_eq_right h]; exact List.mem_cons_self
      · right; exact List.mem_cons_of_mem _ h1
    · rcases List.mem_cons.mp hx with rfl | hx
      · omega
      · exact h3 x hx
theorem maxI_mem {l : List Int} (h : 0 < l.length) : maxI l ∈ l := by
  cases l with
  | nil => exact absurd h (Nat.lt_irrefl _)
  | cons a l =>
    rcases (foldl_max l a).1 with h | h
    · exact List.mem_cons.mpr (.inl h)
    · exact List.mem_cons_of_mem _ h
theorem le_maxI {l : List Int} {x : Int} (h : x ∈ l) : x ≤ maxI l := by
  cases l with
  | nil => cases h
  | cons a l =>
    rcases List.mem_cons.mp h with rfl | h
    · exact (foldl_max l _).2.1
    · exact (foldl_max l a).2.2 x h
theorem minI_mem {l : List Int} (h : 0 < l.length) : minI l ∈ l := by
  cases l with
  | nil => exact absurd h (Nat.lt_irrefl _)
  | cons a l =>
    rcases (foldl_min l a).1 with h | h
    · exact List.mem_cons.mpr (.inl h)
    · exact List.mem_cons_of_mem _ h
theorem minI_le {l : List Int} {x : Int} (h : x ∈ l) : minI l ≤ x := by
  cases l with
  | nil => cases h
  | cons a l =>
    rcases List.mem_cons.mp h with rfl | h
    · exact (foldl_min l _).2.1
    · exact (foldl_min l a).2.2 x h
theorem maxI_eq {l : List Int} {m : Int} (h1 : m ∈ l) (h2 : ∀ x ∈ l, x ≤ m) : maxI l = m :=
  Int.le_antisymm (h2 _ (maxI_mem (List.length_pos_of_mem h1))) (le_maxI h1)
theorem minI_eq {l : List Int} {m : Int} (h1 : m ∈ l) (h2 : ∀ x ∈ l, m ≤ x) : minI l = m :=
  Int.le_antisymm (minI_le h1) (h2 _ (minI_mem (List.length_pos_of_mem h1)))
theorem maxI_perm {l m : List Int} (h : l.Perm m) : maxI l = maxI m := by
  cases l with
  | nil => rw [h.nil_eq]
  | cons a l => exact (maxI_eq (h.mem_iff.mpr (maxI_mem (by rw [← h.length_eq]; simp))) fun x hx => le_maxI (h.mem_iff.mp hx))
theorem minI_perm {l m : List Int} (h : l.Perm m) : minI l = minI m := by
  cases l with
  | nil => rw [h.nil_eq]
  | cons a l => exact (minI_eq (h.mem_iff.mpr (minI_mem (by rw [← h.length_eq]; simp))) fun x hx => minI_le (h.mem_iff.mp hx))
theorem int_inj {a b : List Int} : (List.map P.int a = List.map P.int b) = (a = b) :=
  propext (List.map_inj_right fun x y e => P.int.inj e)
theorem str_inj {a b : List Str} : (List.map P.str a = List.map P.str b) = (a = b) :=
  propext (List.map_inj_right fun x y e => P.str.inj e)
theorem bl_inj {a b : List Bool} : (List.map P.bl a = List.map P.bl b) = (a = b) :=
  propext (List.map_inj_right fun x y e => P.bl.inj e)
theorem row_inj1 {x y : Int × Str} (e : rowP x = rowP y) : x = y := by
  obtain ⟨a, b⟩ := x
  obtain ⟨c, d⟩ := y
  simpa [rowP] using e
theorem row_inj {a b : List (Int × Str)} : (List.map rowP a = List.map rowP b) = (a = b) :=
  propext (List.map_inj_right fun x y e => row_inj1 e)
theorem ii_inj1 {x y : Int × Int} (e : iiP x = iiP y) : x = y := by
  obtain ⟨a, b⟩ := x
  obtain ⟨c, d⟩ := y
  simpa [iiP] using e
theorem ii_inj {a b : List (Int × Int)} : (List.map iiP a = List.map iiP b) = (a = b) :=
  propext (List.map_inj_right fun x y e => ii_inj1 e)
theorem dd_inj1 {x y : Int × List Int} (e : ddP x = ddP y) : x = y := by
  obtain ⟨a, b⟩ := x
  obtain ⟨c, d⟩ := y
  simp only [ddP, P.tup.injEq, List.cons.injEq, P.int.injEq, int_inj, and_true] at e
  rw [e.1, e.2]
theorem dd_inj {a b : List (Int × List Int)} : (List.map ddP a = List.map ddP b) = (a = b) :=
  propext (List.map_inj_right fun x y e => dd_inj1 e)
theorem il_inj {a b : List (List Int)} : (List.map il a = List.map il b) = (a = b) :=
  propext (List.map_inj_right fun x y e => by simpa [int_inj] using e)
theorem tl_inj {a b : List (List Int)} : (List.map tl a = List.map tl b) = (a = b) :=
  propext (List.map_inj_right fun x y e => by simpa [int_inj] using e)
theorem aq_fMax {l : List Int} [h : ML xs Int P.int l] : (fMax [.lst xs] Q) = (0 < l.length ∧ Q (.int (maxI l))) := by
  unfold fMax
  rw [h.eq]
  simp only [List.cons.injEq, P.lst.injEq, int_inj, and_true, exists_eq_left']
  exact propext ⟨fun h => ⟨h.1, h.2 _ (maxI_mem h.1) fun y hy => le_maxI hy⟩, fun h => ⟨h.1, fun m h1 h2 => by rw [← maxI_eq h1 h2]; exact h.2⟩⟩
theorem aq_fMin {l : List Int} [h : ML xs Int P.int l] : (fMin [.lst xs] Q) = (0 < l.length ∧ Q (.int (minI l))) := by
  unfold fMin
  rw [h.eq]
  simp only [List.cons.injEq, P.lst.injEq, int_inj, and_true, exists_eq_left']
  exact propext ⟨fun h => ⟨h.1, h.2 _ (minI_mem h.1) fun y hy => minI_le hy⟩, fun h => ⟨h.1, fun m h1 h2 => by rw [← minI_eq h1 h2]; exact h.2⟩⟩
theorem aq_fSum {l : List Int} [h : EL P.int xs l] : (fSum [.lst xs] Q) = Q (.int l.sum) := by
  unfold fSum
  rw [h.eq]
  simp only [List.cons.injEq, P.lst.injEq, int_inj, and_true, exists_eq_left']
theorem aq_fAll {l : List Bool} [h : EL P.bl xs l] : (fAll [.lst xs] Q) = Q (.bl (l.all id)) := by
  unfold fAll
  rw [h.eq]
  simp only [List.cons.injEq, P.lst.injEq, bl_inj, and_true, exists_eq_left']
theorem aq_fAny {l : List Bool} [h : EL P.bl xs l] : (fAny [.lst xs] Q) = Q (.bl (l.any id)) := by
  unfold fAny
  rw [h.eq]
  simp only [List.cons.injEq, P.lst.injEq, bl_inj, and_true, exists_eq_left']
/-- sorted ints -/
def sortI (l : List Int) : List Int := l.mergeSort fun a b => decide (a ≤ b)
theorem sortI_perm (l : List Int) : (sortI l).Perm l := List.mergeSort_perm _ _
theorem sortI_pw (l : List Int) : (sortI l).Pairwise (· ≤ ·) := by
  have h := List.pairwise_mergeSort (le := fun (a b : Int) => decide (a ≤ b)) (fun a b c => by simp; omega) (fun a b => by simp; omega) l
  exact h.imp fun h => of_decide_eq_true h
theorem sorted_one : ∀ {a b : List Int}, a.Perm b → a.Pairwise (· ≤ ·) → b.Pairwise (· ≤ ·) → a = b := fun {a b} p ha hb => p.eq_of_pairwise (fun x y _ _ h1 h2 => Int.le_antisymm h1 h2) ha hb
theorem aq_fSortI {l : List Int} [h : EL P.int xs l] : (fSortI [.lst xs] Q) = Q (il (sortI l)) := by
  unfold fSortI
  rw [h.eq]
  simp only [List.cons.injEq, P.lst.injEq, int_inj, and_true, exists_eq_left']
  refine propext ⟨fun h => h _ (sortI_perm l) (sortI_pw l), fun h ms p hs => ?_⟩
  rw [sorted_one (p.trans (sortI_perm l).symm) hs (sortI_pw l)]
  exact h
/-- truth, length -/
theorem map_emp {f : α → β} {l : List α} : (l.map f).isEmpty = l.isEmpty := by cases l <;> rfl
/-! == of data -/
class EQ (x y : P) (b : outParam Bool) (d : outParam Nat) : Prop where
  d1 : datB x = true
  d2 : datB y = true
  p1 : (toD x).depth ≤ d
  p2 : (toD y).depth ≤ d
  e : eqP x y = b
class EQs (x y : List P) (b : outParam Bool) (d : outParam Nat) : Prop where
  d1 : datBs x = true
  d2 : datBs y = true
  p1 : PyData.depthAll (toDs x) ≤ d
  p2 : PyData.depthAll (toDs y) ≤ d
  e : PyData.eqvAll (toDs x) (toDs y) = b
theorem aq_fEqD {x y : P} {b : Bool} {d : Nat} [h : EQ x y b d] (hd : d ≤ 63) : (fEqD x y Q) = Q (.bl b) := by
  unfold fEqD shP
  rw [h.d1, h.d2, decide_eq_true (Nat.le_trans h.p1 (Nat.le_trans hd (by decide))), decide_eq_true (Nat.le_trans h.p2 (Nat.le_trans hd (by decide))), h.e]
  simp
theorem aq_fNeD {x y : P} {b : Bool} {d : Nat} [h : EQ x y b d] (hd : d ≤ 63) : (fNeD x y Q) = Q (.bl !b) := by
  unfold fNeD shP
  rw [h.d1, h.d2, decide_eq_true (Nat.le_trans h.p1 (Nat.le_trans hd (by decide))), decide_eq_true (Nat.le_trans h.p2 (Nat.le_trans hd (by decide))), h.e]
  simp
instance eq_i {a b : Int} : EQ (.int a) (.int b) (decide (a = b)) 0 := ⟨rfl, rfl, Nat.le_refl _, Nat.le_refl _, by unfold eqP; rw [toD, toD, PyData.eqv, Bool.eq_iff_iff]; simp⟩
instance eq_s {a b : Str} : EQ (.str a) (.str b) (decide (a = b)) 0 := ⟨rfl, rfl, Nat.le_refl _, Nat.le_refl _, by unfold eqP; rw [toD, toD, PyData.eqv, Bool.eq_iff_iff]; simp⟩
instance eq_si {a : Str} {b : Int} : EQ (.str a) (.int b) false 0 := ⟨rfl, rfl, Nat.le_refl _, Nat.le_refl _, rfl⟩
instance eq_is {a : Int} {b : Str} : EQ (.int a) (.str b) false 0 := ⟨rfl, rfl, Nat.le_refl _, Nat.le_refl _, rfl⟩
instance eqs_n : EQs [] [] true 0 := ⟨rfl, rfl, Nat.le_refl _, Nat.le_refl _, rfl⟩
instance eqs_nc {x : P} {xs : List P} {a b : Bool} {d e : Nat} [h : EQ x x a d] [hs : EQs xs xs b e] : EQs [] (x :: xs) false (max d e) := ⟨rfl, by rw [datBs, h.d1, hs.d1]; rfl, Nat.zero_le _, by rw [toDs, PyData.depthAll]; have := h.p1; have := hs.p1; omega, rfl⟩
instance eqs_cn {x : P} {xs : List P} {a b : Bool} {d e : Nat} [h : EQ x x a d] [hs : EQs xs xs b e] : EQs (x :: xs) [] false (max d e) := ⟨by rw [datBs, h.d1, hs.d1]; rfl, rfl, by rw [toDs, PyData.depthAll]; have := h.p1; have := hs.p1; omega, Nat.zero_le _, rfl⟩
instance eqs_c {x y : P} {xs ys : List P} {a b : Bool} {d e : Nat} [h : EQ x y a d] [hs : EQs xs ys b e] : EQs (x :: xs) (y :: ys) (a && b) (max d e) := ⟨by rw [datBs, h.d1, hs.d1]; rfl, by rw [datBs, h.d2, hs.d2]; rfl,
  by rw [toDs, PyData.depthAll]; have := h.p1; have := hs.p1; omega, by rw [toDs, PyData.depthAll]; have := h.p2; have := hs.p2; omega, by
    have h1 := h.e
    unfold eqP at h1
    rw [toDs, toDs, PyData.eqvAll, h1, hs.e]⟩
instance eq_t {xs ys : List P} {b : Bool} {d : Nat} [h : EQs xs ys b d] : EQ (.tup xs) (.tup ys) b (d + 1) := ⟨by rw [datB]; exact h.d1, by rw [datB]; exact h.d2, by rw [toD, PyData.depth]; exact Nat.succ_le_succ h.p1, by rw [toD, PyData.depth]; exact Nat.succ_le_succ h.p2, by unfold eqP; rw [toD, toD, PyData.eqv]; exact h.e⟩
instance eq_l {xs ys : List P} {b : Bool} {d : Nat} [h : EQs xs ys b d] : EQ (.lst xs) (.lst ys) b (d + 1) := ⟨by rw [datB]; exact h.d1, by rw [datB]; exact h.d2, by rw [toD, PyData.depth]; exact Nat.succ_le_succ h.p1, by rw [toD, PyData.depth]; exact Nat.succ_le_succ h.p2, by unfold eqP; rw [toD, toD, PyData.eqv]; exact h.e⟩
/-- what is compared by its parts alone -/
class DE {α : Type} [DecidableEq α] (enc : α → P) (d : outParam Nat) : Prop where
  eq : ∀ a b, EQ (enc a) (enc b) (decide (a = b)) d
instance de_i : DE P.int 0 := ⟨fun a b => eq_i⟩
instance de_s : DE P.str 0 := ⟨fun a b => eq_s⟩
theorem EQ.to {x y : P} {a b : Bool} {d : Nat} (h : EQ x y a d) (e : a = b) : EQ x y b d := e ▸ h
instance de_r : DE rowP 1 := ⟨fun a b => (eq_t (xs := [.int a.1, .str a.2]) (ys := [.int b.1, .str b.2])).to (by
  rw [Bool.eq_iff_iff]; simp [Prod.ext_iff])⟩
instance de_ii : DE iiP 1 := ⟨fun a b => (eq_t (xs := [.int a.1, .int a.2]) (ys := [.int b.1, .int b.2])).to (by
  rw [Bool.eq_iff_iff]; simp [Prod.ext_iff])⟩
theorem eqs_map {α : Type} [DecidableEq α] {enc : α → P} {d : Nat} (h : DE enc d) : ∀ (a b : List α), EQs (a.map enc) (b.map enc) (decide (a = b)) d
  | [], [] => ⟨rfl, rfl, Nat.zero_le _, Nat.zero_le _, rfl⟩
  | x :: a, [] => by
    have h1 := h.eq x x
    have h2 := eqs_map h a []
    exact ⟨by rw [List.map_cons, datBs, h1.d1, h2.d1]; rfl, rfl, by rw [List.map_cons, toDs, PyData.depthAll]; have := h1.p1; have := h2.p1; omega, Nat.zero_le _, rfl⟩
  | [], x :: a => by
    have h1 := h.eq x x
    have h2 := eqs_map h a []
    exact ⟨rfl, by rw [List.map_cons, datBs, h1.d1, h2.d1]; rfl, Nat.zero_le _, by rw [List.map_cons, toDs, PyData.depthAll]; have := h1.p1; have := h2.p1; omega, rfl⟩
  | x :: a, y :: b => by
    have h1 := h.eq x y
    have h2 := eqs_map h a b
    have h3 := h1.e
    unfold eqP at h3
    refine ⟨by rw [List.map_cons, datBs, h1.d1, h2.d1]; rfl, by rw [List.map_cons, datBs, h1.d2, h2.d2]; rfl, by rw [List.map_cons, toDs, PyData.depthAll]; have := h1.p1; have := h2.p1; omega, by rw [List.map_cons, toDs, PyData.depthAll]; have := h1.p2; have := h2.p2; omega, ?_⟩
    rw [List.map_cons, List.map_cons, toDs, toDs, PyData.eqvAll, h3, h2.e, Bool.eq_iff_iff]
    simp
termination_by a b => a.length + b.length
instance (priority := high) eq_ml {α : Type} [DecidableEq α] {enc : α → P} {l m : List α} {d : Nat} [h : ML xs α enc l] [h' : EL enc ys m] [k : DE enc d] : EQ (.lst xs) (.lst ys) (decide (l = m)) (d + 1) := by
  have e := eqs_map k l m
  rw [h.eq, h'.eq]
  exact eq_l
instance (priority := high) eq_mt {α : Type} [DecidableEq α] {enc : α → P} {l m : List α} {d : Nat} [h : ML xs α enc l] [h' : EL enc ys m] [k : DE enc d] : EQ (.tup xs) (.tup ys) (decide (l = m)) (d + 1) := by
  have e := eqs_map k l m
  rw [h.eq, h'.eq]
  exact eq_t
instance de_il : DE il 1 := ⟨fun a b => eq_ml⟩
instance de_tl : DE tl 1 := ⟨fun a b => eq_mt⟩
instance de_dd : DE ddP 2 := ⟨fun a b => by
  have h := eqs_map de_i a.2 b.2
  have h2 : EQ (.tup (a.2.map P.int)) (.tup (b.2.map P.int)) (decide (a.2 = b.2)) 1 := eq_t
  exact (eq_t (xs := [.int a.1, .tup (a.2.map P.int)]) (ys := [.int b.1, .tup (b.2.map P.int)])).to (by
  rw [Bool.eq_iff_iff]; simp [Prod.ext_iff])⟩
/-! x in list -/
class FE {α : Type} [DecidableEq α] (enc : α → P) : Prop where
  f : ∀ a, flatP (enc a) = true
  e : ∀ a b, eqF (enc a) (enc b) = decide (a = b)
instance fe_i : FE P.int := ⟨fun _ => rfl, fun a b => by rw [Bool.eq_iff_iff]; simp [eqF]⟩
instance fe_s : FE P.str := ⟨fun _ => rfl, fun a b => by rw [Bool.eq_iff_iff]; simp [eqF]⟩
theorem in_fe {α : Type} [DecidableEq α] {enc : α → P} (h : FE enc) (a : α) (l : List α) : (l.map enc).all flatP = true ∧ inP (enc a) (l.map enc) = decide (a ∈ l) := by
  refine ⟨?_, ?_⟩
  · rw [List.all_eq_true]
    intro x hx
    obtain ⟨b, _, rfl⟩ := List.mem_map.mp hx
    exact h.f b
  · unfold inP
    rw [List.any_map, Bool.eq_iff_iff, List.any_eq_true, decide_eq_true_eq]
    constructor
    · rintro ⟨b, hb, e⟩
      have : b = a := by simpa [h.e] using e
      exact this ▸ hb
    · intro hb
      exact ⟨a, hb, by simp [h.e]⟩
theorem aq_fInL {x : P} {n : Bool} {α : Type} [DecidableEq α] {enc : α → P} {l : List α} {a : α} [h : ML xs α enc l] [v : VE enc x a] [k : FE enc] : (fIn n x (.lst xs) Q) = Q (.bl (if n then !decide (a ∈ l) else decide (a ∈ l))) := by
  obtain ⟨h1, h2⟩ := in_fe k a l
  rw [ap_fInL, v.eq, h.eq, k.f, h1, h2]
  simp
theorem aq_fInT {x : P} {n : Bool} {α : Type} [DecidableEq α] {enc : α → P} {l : List α} {a : α} [h : ML xs α enc l] [v : VE enc x a] [k : FE enc] : (fIn n x (.tup xs) Q) = Q (.bl (if n then !decide (a ∈ l) else decide (a ∈ l))) := by
  obtain ⟨h1, h2⟩ := in_fe k a l
  rw [ap_fInT, v.eq, h.eq, k.f, h1, h2]
  simp
theorem aq_fInL0 {x : P} {n : Bool} (h : flatP x = true) : (fIn n x (.lst []) Q) = Q (.bl (if n then true else false)) := by
  rw [ap_fInL, h]
  cases n <;> simp [inP]
end
/-! ### loops, comprehensions -/
section
variable {g : P → PEnv → (PEnv → Prop) → Prop} {te : WE} {tt : WT} {vs : List Nat} {env : PEnv} {Q : P → Prop} {xs : List P} {α : Type} {enc : α → P} {l : List α}
/-- [f a for a in l] -/
theorem lcM [h : ML xs α enc l] (f : α → P) (hl : l.length ≤ 1000000) (hs : ∀ a, a ∈ l → ∀ Q : P → Prop, Q (f a) → g (enc a) (wipeP env vs) fun e => te e Q noX') (hd : Q (.lst (l.map f))) : LcB xs g (fun _ Q _ => Q true) te vs env Q := by
  rw [h.eq]
  refine lc_all (ys := l.map f) (by simp) (sz (by simpa using hl)) (fun i x y Q hx hy hQ => ?_) hd
  rw [List.getElem?_map] at hx hy
  cases e : l[i]? with
  | none => rw [e] at hx; cases hx
  | some r =>
    rw [e] at hx hy
    cases hx
    cases hy
    exact hs r (List.mem_of_getElem? e) Q hQ
theorem lcI [h : ML xs α enc l] (f : α → Int) (hl : l.length ≤ 1000000) (hs : ∀ a, a ∈ l → ∀ Q : P → Prop, Q (.int (f a)) → g (enc a) (wipeP env vs) fun e => te e Q noX') (hd : Q (il (l.map f))) : LcB xs g (fun _ Q _ => Q true) te vs env Q :=
  lcM (fun a => .int (f a)) hl hs (by rw [show l.map (fun a => P.int (f a)) = (l.map f).map P.int by rw [List.map_map]; rfl]; exact hd)
theorem lcS [h : ML xs α enc l] (f : α → Str) (hl : l.length ≤ 1000000) (hs : ∀ a, a ∈ l → ∀ Q : P → Prop, Q (.str (f a)) → g (enc a) (wipeP env vs) fun e => te e Q noX') (hd : Q (sl (l.map f))) : LcB xs g (fun _ Q _ => Q true) te vs env Q :=
  lcM (fun a => .str (f a)) hl hs (by rw [show l.map (fun a => P.str (f a)) = (l.map f).map P.str by rw [List.map_map]; rfl]; exact hd)
theorem lcBo [h : ML xs α enc l] (f : α → Bool) (hl : l.length ≤ 1000000) (hs : ∀ a, a ∈ l → ∀ Q : P → Prop, Q (.bl (f a)) → g (enc a) (wipeP env vs) fun e => te e Q noX') (hd : Q (.lst ((l.map f).map P.bl))) : LcB xs g (fun _ Q _ => Q true) te vs env Q :=
  lcM (fun a => .bl (f a)) hl hs (by rw [show l.map (fun a => P.bl (f a)) = (l.map f).map P.bl by rw [List.map_map]; rfl]; exact hd)
theorem lcR [h : ML xs α enc l] (f : α → Int) (k : α → Str) (hl : l.length ≤ 1000000) (hs : ∀ a, a ∈ l → ∀ Q : P → Prop, Q (.tup [.int (f a), .str (k a)]) → g (enc a) (wipeP env vs) fun e => te e Q noX') (hd : Q (rl (l.map fun a => (f a, k a)))) : LcB xs g (fun _ Q _ => Q true) te vs env Q :=
  lcM (fun a => .tup [.int (f a), .str (k a)]) hl hs (by rw [show l.map (fun a => P.tup [.int (f a), .str (k a)]) = (l.map fun a => (f a, k a)).map rowP by rw [List.map_map]; rfl]; exact hd)
/-- [f a for a in l if c a] -/
theorem lcMf [h : ML xs α enc l] (c : α → Prop) (ci : DecidablePred c) (f : α → P) (hl : l.length ≤ 1000000)
    (hs : ∀ a, a ∈ l → ∀ (Q : P → Prop) (Q0 : Prop), (if c a then Q (f a) else Q0) → g (enc a) (wipeP env vs) fun e => tt e (fun b => if b = true then te e Q noX' else Q0) noX')
    (hd : Q (.lst ((l.filter fun a => decide (c a)).map f))) : LcB xs g tt te vs env Q := by
  rw [h.eq]
  refine ⟨fun i acc => acc = ((l.take i).filter fun a => decide (c a)).map f, by simp, fun i x acc hx ha => ?_, fun acc ha => ?_⟩
  · rw [List.getElem?_map] at hx
    cases e : l[i]? with
    | none => rw [e] at hx; cases hx
    | some a =>
      rw [e] at hx
      cases hx
      have hlen : acc.length ≤ i := by
        rw [ha, List.length_map]
        refine Nat.le_trans (List.length_filter_le _ _) ?_
        rw [List.length_take]; omega
      have hi : i < l.length := (List.getElem?_eq_some_iff.mp e).1
      have hz : i < sizeLine := szt (by omega)
      refine hs a (List.mem_of_getElem? e) (fun y => acc.length < sizeLine ∧ acc ++ [y] = ((l.take (i + 1)).filter fun a => decide (c a)).map f) (acc = ((l.take (i + 1)).filter fun a => decide (c a)).map f) ?_
      rw [List.take_add_one, e, List.filter_append, List.map_append, ← ha]
      split
      · rename_i hc
        exact ⟨by omega, by simp [hc]⟩
      · rename_i hc
        simp [hc]
  · rw [ha, List.length_map, List.take_length]
    exact hd
theorem lcIf [h : ML xs α enc l] (c : α → Prop) (ci : DecidablePred c) (f : α → Int) (hl : l.length ≤ 1000000)
    (hs : ∀ a, a ∈ l → ∀ (Q : P → Prop) (Q0 : Prop), (if c a then Q (.int (f a)) else Q0) → g (enc a) (wipeP env vs) fun e => tt e (fun b => if b = true then te e Q noX' else Q0) noX')
    (hd : Q (il ((l.filter fun a => decide (c a)).map f))) : LcB xs g tt te vs env Q :=
  lcMf c ci (fun a => .int (f a)) hl hs (by rw [show ((l.filter fun a => decide (c a)).map fun a => P.int (f a)) = ((l.filter fun a => decide (c a)).map f).map P.int by rw [List.map_map]; rfl]; exact hd)
theorem lcSf [h : ML xs α enc l] (c : α → Prop) (ci : DecidablePred c) (f : α → Str) (hl : l.length ≤ 1000000)
    (hs : ∀ a, a ∈ l → ∀ (Q : P → Prop) (Q0 : Prop), (if c a then Q (.str (f a)) else Q0) → g (enc a) (wipeP env vs) fun e => tt e (fun b => if b = true then te e Q noX' else Q0) noX')
    (hd : Q (sl ((l.filter fun a => decide (c a)).map f))) : LcB xs g tt te vs env Q :=
  lcMf c ci (fun a => .str (f a)) hl hs (by rw [show ((l.filter fun a => decide (c a)).map fun a => P.str (f a)) = ((l.filter fun a => decide (c a)).map f).map P.str by rw [List.map_map]; rfl]; exact hd)
/-- [a for a in l if c a] -/
theorem lcId [h : ML xs α enc l] (c : α → Prop) (ci : DecidablePred c) (hl : l.length ≤ 1000000)
    (hs : ∀ a, a ∈ l → ∀ (Q : P → Prop) (Q0 : Prop), (if c a then Q (enc a) else Q0) → g (enc a) (wipeP env vs) fun e => tt e (fun b => if b = true then te e Q noX' else Q0) noX')
    (hd : Q (.lst ((l.filter fun a => decide (c a)).map enc))) : LcB xs g tt te vs env Q := lcMf c ci enc hl hs hd
/-- the items are not told one by one -/
theorem lcAny {β : Type} [h : ML xs α enc l] (f : β → P) (Pb : α → β → Prop) (hl : l.length ≤ 1000000)
    (hs : ∀ a, a ∈ l → ∀ Q : P → Prop, (∀ b, Pb a b → Q (f b)) → g (enc a) (wipeP env vs) fun e => te e Q noX') (hd : ∀ ys : List β, ys.length = l.length → (∀ (i : Nat) a b, l[i]? = some a → ys[i]? = some b → Pb a b) → Q (.lst (ys.map f))) : LcB xs g (fun _ Q _ => Q true) te vs env Q := by
  rw [h.eq]
  refine lc_any (fun i y => ∃ b, y = f b ∧ ∀ a, l[i]? = some a → Pb a b) (sz (by simpa using hl)) (fun i x Q hx hQ => ?_) fun ys hn hy => ?_
  · rw [List.getElem?_map] at hx
    cases e : l[i]? with
    | none => rw [e] at hx; cases hx
    | some a =>
      rw [e] at hx
      cases hx
      exact hs a (List.mem_of_getElem? e) Q fun b hb => hQ _ ⟨b, rfl, fun a2 e2 => by rw [e] at e2; cases e2; exact hb⟩
  · have key : ∀ (k : Nat) (m : List P), (∀ (i : Nat) y, m[i]? = some y → ∃ b, y = f b ∧ ∀ a, l[k + i]? = some a → Pb a b) → ∃ bs : List β, m = bs.map f ∧ ∀ (i : Nat) a b, l[k + i]? = some a → bs[i]? = some b → Pb a b := by
      intro k m
      induction m generalizing k with
      | nil => intro _; exact ⟨[], rfl, fun i a b _ h => by simp at h⟩
      | cons y m ih =>
        intro h
        obtain ⟨a, rfl, ha⟩ := h 0 _ rfl
        obtain ⟨bs, rfl, hb⟩ := ih (k + 1) fun i z hz => by
          have := h (i + 1) z hz
          rwa [show k + (i + 1) = k + 1 + i by omega] at this
        refine ⟨a :: bs, rfl, fun i a2 b e1 e2 => ?_⟩
        cases i with
        | zero => cases e2; exact ha _ e1
        | succ i => exact hb i a2 b (by rwa [show k + 1 + i = k + (i + 1) by omega]) e2
    obtain ⟨bs, rfl, hb⟩ := key 0 ys fun i y h => by simpa using hy i y h
    exact hd bs (by rw [List.length_map, List.length_map] at hn; exact hn) fun i a b e1 e2 => hb i a b (by simpa using e1) e2
end
/-- slots that may hold anything -/
def Any : List Nat → PEnv → PEnv → Prop
  | [], env, e => e = env
  | t :: ts, env, e => ∃ v, Any ts (env.set t v) e
theorem any_nil {env e : PEnv} : (Any [] env e) = (e = env) := rfl
theorem any_cons {t : Nat} {ts : List Nat} {env e : PEnv} : (Any (t :: ts) env e) = (∃ v, Any ts (env.set t v) e) := rfl
section
variable {g : P → PEnv → (PEnv → Prop) → Prop} {b : WS} {D : PEnds} {env : PEnv} {xs : List P} {α : Type} {enc : α → P} {l : List α}
/-- a loop over a list that is read back -/
theorem forM [h : ML xs α enc l] (Inv : Nat → PEnv → Prop) (h0 : Inv 0 env)
    (hs : ∀ (i : Nat) a e, l[i]? = some a → i < l.length → Inv i e → g (enc a) e fun e2 => b { D with nx := Inv (i + 1), ct := Inv (i + 1), bk := D.nx } e2) (hd : ∀ e, Inv l.length e → D.nx e) : ForB xs g b D env := by
  rw [h.eq]
  refine ⟨Inv, h0, fun i x e hx hI => ?_, fun e h => hd e (by rwa [List.length_map] at h)⟩
  rw [List.getElem?_map] at hx
  cases ea : l[i]? with
  | none => rw [ea] at hx; cases hx
  | some a =>
    rw [ea] at hx
    cases hx
    exact hs i a e ea (List.getElem?_eq_some_iff.mp ea).1 hI
/-- .. that changes nothing but its own names -/
theorem forK [h : ML xs α enc l] (ts : List Nat) (hs : ∀ (i : Nat) a e, l[i]? = some a → i < l.length → Any ts env e → g (enc a) e fun e2 => b { D with nx := Any ts env, ct := Any ts env, bk := D.nx } e2) (h0 : Any ts env env) (hd : ∀ e, Any ts env e → D.nx e) : ForB xs g b D env :=
  forM (fun _ => Any ts env) h0 hs hd
/-- .. with one value that is gathered -/
theorem forA [h : ML xs α enc l] (ts : List Nat) (k : Nat) (m : Mo) {β : Type} (f : β → P) (I : Nat → β → Prop) (a0 : β) (h0 : I 0 a0) (he : Any ts (env.set k (some (m, f a0))) env)
    (hs : ∀ (i : Nat) a c e, l[i]? = some a → i < l.length → I i c → Any ts (env.set k (some (m, f c))) e → g (enc a) e fun e2 => b { D with nx := fun e3 => ∃ c, I (i + 1) c ∧ Any ts (env.set k (some (m, f c))) e3, ct := fun e3 => ∃ c, I (i + 1) c ∧ Any ts (env.set k (some (m, f c))) e3, bk := D.nx } e2)
    (hd : ∀ c e, I l.length c → Any ts (env.set k (some (m, f c))) e → D.nx e) : ForB xs g b D env :=
  forM (fun i e => ∃ c, I i c ∧ Any ts (env.set k (some (m, f c))) e) ⟨a0, h0, he⟩ (fun i a e h1 h2 ⟨c, h3, h4⟩ => hs i a c e h1 h2 h3 h4) fun e ⟨c, h1, h2⟩ => hd c e h1 h2
end
/-! ### an if that falls through -/
section
variable {a b : WS} {D : PEnds} {env : PEnv}
/-- one slot gets x -/
theorem cutE (i : Nat) (m : Mo) (x : P) (h : a { D with nx := fun e => e = env.set i (some (m, x)) } env) (hd : b D (env.set i (some (m, x)))) : wCut a b D env := ⟨_, h, fun _ e => e ▸ hd⟩
/-- one slot gets what has I -/
theorem cutA {β : Type} (i : Nat) (m : Mo) (f : β → P) (I : β → Prop) (h : a { D with nx := fun e => ∃ c, e = env.set i (some (m, f c)) ∧ I c } env) (hd : ∀ c, I c → b D (env.set i (some (m, f c)))) : wCut a b D env := ⟨_, h, fun _ ⟨c, e, hc⟩ => e ▸ hd c hc⟩
theorem cutI (i : Nat) (I : Int → Prop) (h : a { D with nx := fun e => ∃ c, e = env.set i (some (.v, .int c)) ∧ I c } env) (hd : ∀ c, I c → b D (env.set i (some (.v, .int c)))) : wCut a b D env := cutA i .v P.int I h hd
theorem cutA2 {β γ : Type} (i j : Nat) (m m2 : Mo) (f : β → P) (f2 : γ → P) (I : β → γ → Prop) (h : a { D with nx := fun e => ∃ c d, e = (env.set i (some (m, f c))).set j (some (m2, f2 d)) ∧ I c d } env) (hd : ∀ c d, I c d → b D ((env.set i (some (m, f c))).set j (some (m2, f2 d)))) : wCut a b D env := ⟨_, h, fun _ ⟨c, d, e, hc⟩ => e ▸ hd c d hc⟩
/-- nothing is changed -/
theorem cutN (ts : List Nat) (h : a { D with nx := Any ts env } env) (hd : ∀ e, Any ts env e → b D e) : wCut a b D env := ⟨_, h, hd⟩
end
end Pf

namespace Pf
open PySem PySem.Spec PyProof.Rows L2
/-! ### written lists -/
theorem gx_0 {α : Type} [Inhabited α] {a0 : α} {l : List α} : gx (a0 :: l) 0 = a0 := by rw [gx_nn (by decide)]; rfl
theorem gx_1 {α : Type} [Inhabited α] {a0 a1 : α} {l : List α} : gx (a0 :: a1 :: l) 1 = a1 := by rw [gx_nn (by decide)]; rfl
theorem gx_2 {α : Type} [Inhabited α] {a0 a1 a2 : α} {l : List α} : gx (a0 :: a1 :: a2 :: l) 2 = a2 := by rw [gx_nn (by decide)]; rfl
theorem gx_3 {α : Type} [Inhabited α] {a0 a1 a2 a3 : α} {l : List α} : gx (a0 :: a1 :: a2 :: a3 :: l) 3 = a3 := by rw [gx_nn (by decide)]; rfl
theorem gx_4 {α : Type} [Inhabited α] {a0 a1 a2 a3 a4 : α} {l : List α} : gx (a0 :: a1 :: a2 :: a3 :: a4 :: l) 4 = a4 := by rw [gx_nn (by decide)]; rfl
theorem gx_5 {α : Type} [Inhabited α] {a0 a1 a2 a3 a4 a5 : α} {l : List α} : gx (a0 :: a1 :: a2 :: a3 :: a4 :: a5 :: l) 5 = a5 := by rw [gx_nn (by decide)]; rfl
theorem gx_6 {α : Type} [Inhabited α] {a0 a1 a2 a3 a4 a5 a6 : α} {l : List α} : gx (a0 :: a1 :: a2 :: a3 :: a4 :: a5 :: a6 :: l) 6 = a6 := by rw [gx_nn (by decide)]; rfl
theorem gx_7 {α : Type} [Inhabited α] {a0 a1 a2 a3 a4 a5 a6 a7 : α} {l : List α} : gx (a0 :: a1 :: a2 :: a3 :: a4 :: a5 :: a6 :: a7 :: l) 7 = a7 := by rw [gx_nn (by decide)]; rfl
theorem gx_8 {α : Type} [Inhabited α] {a0 a1 a2 a3 a4 a5 a6 a7 a8 : α} {l : List α} : gx (a0 :: a1 :: a2 :: a3 :: a4 :: a5 :: a6 :: a7 :: a8 :: l) 8 = a8 := by rw [gx_nn (by decide)]; rfl
theorem gx_9 {α : Type} [Inhabited α] {a0 a1 a2 a3 a4 a5 a6 a7 a8 a9 : α} {l : List α} : gx (a0 :: a1 :: a2 :: a3 :: a4 :: a5 :: a6 :: a7 :: a8 :: a9 :: l) 9 = a9 := by rw [gx_nn (by decide)]; rfl
theorem gx_10 {α : Type} [Inhabited α] {a0 a1 a2 a3 a4 a5 a6 a7 a8 a9 a10 : α} {l : List α} : gx (a0 :: a1 :: a2 :: a3 :: a4 :: a5 :: a6 :: a7 :: a8 :: a9 :: a10 :: l) 10 = a10 := by rw [gx_nn (by decide)]; rfl
theorem gx_11 {α : Type} [Inhabited α] {a0 a1 a2 a3 a4 a5 a6 a7 a8 a9 a10 a11 : α} {l : List α} : gx (a0 :: a1 :: a2 :: a3 :: a4 :: a5 :: a6 :: a7 :: a8 :: a9 :: a10 :: a11 :: l) 11 = a11 := by rw [gx_nn (by decide)]; rfl
theorem gx_12 {α : Type} [Inhabited α] {a0 a1 a2 a3 a4 a5 a6 a7 a8 a9 a10 a11 a12 : α} {l : List α} : gx (a0 :: a1 :: a2 :: a3 :: a4 :: a5 :: a6 :: a7 :: a8 :: a9 :: a10 :: a11 :: a12 :: l) 12 = a12 := by rw [gx_nn (by decide)]; rfl
theorem gx_13 {α : Type} [Inhabited α] {a0 a1 a2 a3 a4 a5 a6 a7 a8 a9 a10 a11 a12 a13 : α} {l : List α} : gx (a0 :: a1 :: a2 :: a3 :: a4 :: a5 :: a6 :: a7 :: a8 :: a9 :: a10 :: a11 :: a12 :: a13 :: l) 13 = a13 := by rw [gx_nn (by decide)]; rfl
theorem gx_14 {α : Type} [Inhabited α] {a0 a1 a2 a3 a4 a5 a6 a7 a8 a9 a10 a11 a12 a13 a14 : α} {l : List α} : gx (a0 :: a1 :: a2 :: a3 :: a4 :: a5 :: a6 :: a7 :: a8 :: a9 :: a10 :: a11 :: a12 :: a13 :: a14 :: l) 14 = a14 := by rw [gx_nn (by decide)]; rfl
theorem gx_15 {α : Type} [Inhabited α] {a0 a1 a2 a3 a4 a5 a6 a7 a8 a9 a10 a11 a12 a13 a14 a15 : α} {l : List α} : gx (a0 :: a1 :: a2 :: a3 :: a4 :: a5 :: a6 :: a7 :: a8 :: a9 :: a10 :: a11 :: a12 :: a13 :: a14 :: a15 :: l) 15 = a15 := by rw [gx_nn (by decide)]; rfl
theorem gx_16 {α : Type} [Inhabited α] {a0 a1 a2 a3 a4 a5 a6 a7 a8 a9 a10 a11 a12 a13 a14 a15 a16 : α} {l : List α} : gx (a0 :: a1 :: a2 :: a3 :: a4 :: a5 :: a6 :: a7 :: a8 :: a9 :: a10 :: a11 :: a12 :: a13 :: a14 :: a15 :: a16 :: l) 16 = a16 := by rw [gx_nn (by decide)]; rfl
theorem gx_17 {α : Type} [Inhabited α] {a0 a1 a2 a3 a4 a5 a6 a7 a8 a9 a10 a11 a12 a13 a14 a15 a16 a17 : α} {l : List α} : gx (a0 :: a1 :: a2 :: a3 :: a4 :: a5 :: a6 :: a7 :: a8 :: a9 :: a10 :: a11 :: a12 :: a13 :: a14 :: a15 :: a16 :: a17 :: l) 17 = a17 := by rw [gx_nn (by decide)]; rfl
theorem gx_18 {α : Type} [Inhabited α] {a0 a1 a2 a3 a4 a5 a6 a7 a8 a9 a10 a11 a12 a13 a14 a15 a16 a17 a18 : α} {l : List α} : gx (a0 :: a1 :: a2 :: a3 :: a4 :: a5 :: a6 :: a7 :: a8 :: a9 :: a10 :: a11 :: a12 :: a13 :: a14 :: a15 :: a16 :: a17 :: a18 :: l) 18 = a18 := by rw [gx_nn (by decide)]; rfl
theorem gx_19 {α : Type} [Inhabited α] {a0 a1 a2 a3 a4 a5 a6 a7 a8 a9 a10 a11 a12 a13 a14 a15 a16 a17 a18 a19 : α} {l : List α} : gx (a0 :: a1 :: a2 :: a3 :: a4 :: a5 :: a6 :: a7 :: a8 :: a9 :: a10 :: a11 :: a12 :: a13 :: a14 :: a15 :: a16 :: a17 :: a18 :: a19 :: l) 19 = a19 := by rw [gx_nn (by decide)]; rfl
theorem gx_20 {α : Type} [Inhabited α] {a0 a1 a2 a3 a4 a5 a6 a7 a8 a9 a10 a11 a12 a13 a14 a15 a16 a17 a18 a19 a20 : α} {l : List α} : gx (a0 :: a1 :: a2 :: a3 :: a4 :: a5 :: a6 :: a7 :: a8 :: a9 :: a10 :: a11 :: a12 :: a13 :: a14 :: a15 :: a16 :: a17 :: a18 :: a19 :: a20 :: l) 20 = a20 := by rw [gx_nn (by decide)]; rfl
theorem gx_21 {α : Type} [Inhabited α] {a0 a1 a2 a3 a4 a5 a6 a7 a8 a9 a10 a11 a12 a13 a14 a15 a16 a17 a18 a19 a20 a21 : α} {l : List α} : gx (a0 :: a1 :: a2 :: a3 :: a4 :: a5 :: a6 :: a7 :: a8 :: a9 :: a10 :: a11 :: a12 :: a13 :: a14 :: a15 :: a16 :: a17 :: a18 :: a19 :: a20 :: a21 :: l) 21 = a21 := by rw [gx_nn (by decide)]; rfl
theorem gx_22 {α : Type} [Inhabited α] {a0 a1 a2 a3 a4 a5 a6 a7 a8 a9 a10 a11 a12 a13 a14 a15 a16 a17 a18 a19 a20 a21 a22 : α} {l : List α} : gx (a0 :: a1 :: a2 :: a3 :: a4 :: a5 :: a6 :: a7 :: a8 :: a9 :: a10 :: a11 :: a12 :: a13 :: a14 :: a15 :: a16 :: a17 :: a18 :: a19 :: a20 :: a21 :: a22 :: l) 22 = a22 := by rw [gx_nn (by decide)]; rfl
theorem gx_23 {α : Type} [Inhabited α] {a0 a1 a2 a3 a4 a5 a6 a7 a8 a9 a10 a11 a12 a13 a14 a15 a16 a17 a18 a19 a20 a21 a22 a23 : α} {l : List α} : gx (a0 :: a1 :: a2 :: a3 :: a4 :: a5 :: a6 :: a7 :: a8 :: a9 :: a10 :: a11 :: a12 :: a13 :: a14 :: a15 :: a16 :: a17 :: a18 :: a19 :: a20 :: a21 :: a22 :: a23 :: l) 23 = a23 := by rw [gx_nn (by decide)]; rfl
theorem gx_24 {α : Type} [Inhabited α] {a0 a1 a2 a3 a4 a5 a6 a7 a8 a9 a10 a11 a12 a13 a14 a15 a16 a17 a18 a19 a20 a21 a22 a23 a24 : α} {l : List α} : gx (a0 :: a1 :: a2 :: a3 :: a4 :: a5 :: a6 :: a7 :: a8 :: a9 :: a10 :: a11 :: a12 :: a13 :: a14 :: a15 :: a16 :: a17 :: a18 :: a19 :: a20 :: a21 :: a22 :: a23 :: a24 :: l) 24 = a24 := by rw [gx_nn (by decide)]; rfl
theorem gx_25 {α : Type} [Inhabited α] {a0 a1 a2 a3 a4 a5 a6 a7 a8 a9 a10 a11 a12 a13 a14 a15 a16 a17 a18 a19 a20 a21 a22 a23 a24 a25 : α} {l : List α} : gx (a0 :: a1 :: a2 :: a3 :: a4 :: a5 :: a6 :: a7 :: a8 :: a9 :: a10 :: a11 :: a12 :: a13 :: a14 :: a15 :: a16 :: a17 :: a18 :: a19 :: a20 :: a21 :: a22 :: a23 :: a24 :: a25 :: l) 25 = a25 := by rw [gx_nn (by decide)]; rfl
theorem gx_26 {α : Type} [Inhabited α] {a0 a1 a2 a3 a4 a5 a6 a7 a8 a9 a10 a11 a12 a13 a14 a15 a16 a17 a18 a19 a20 a21 a22 a23 a24 a25 a26 : α} {l : List α} : gx (a0 :: a1 :: a2 :: a3 :: a4 :: a5 :: a6 :: a7 :: a8 :: a9 :: a10 :: a11 :: a12 :: a13 :: a14 :: a15 :: a16 :: a17 :: a18 :: a19 :: a20 :: a21 :: a22 :: a23 :: a24 :: a25 :: a26 :: l) 26 = a26 := by rw [gx_nn (by decide)]; rfl
theorem gx_27 {α : Type} [Inhabited α] {a0 a1 a2 a3 a4 a5 a6 a7 a8 a9 a10 a11 a12 a13 a14 a15 a16 a17 a18 a19 a20 a21 a22 a23 a24 a25 a26 a27 : α} {l : List α} : gx (a0 :: a1 :: a2 :: a3 :: a4 :: a5 :: a6 :: a7 :: a8 :: a9 :: a10 :: a11 :: a12 :: a13 :: a14 :: a15 :: a16 :: a17 :: a18 :: a19 :: a20 :: a21 :: a22 :: a23 :: a24 :: a25 :: a26 :: a27 :: l) 27 = a27 := by rw [gx_nn (by decide)]; rfl
theorem gx_28 {α : Type} [Inhabited α] {a0 a1 a2 a3 a4 a5 a6 a7 a8 a9 a10 a11 a12 a13 a14 a15 a16 a17 a18 a19 a20 a21 a22 a23 a24 a25 a26 a27 a28 : α} {l : List α} : gx (a0 :: a1 :: a2 :: a3 :: a4 :: a5 :: a6 :: a7 :: a8 :: a9 :: a10 :: a11 :: a12 :: a13 :: a14 :: a15 :: a16 :: a17 :: a18 :: a19 :: a20 :: a21 :: a22 :: a23 :: a24 :: a25 :: a26 :: a27 :: a28 :: l) 28 = a28 := by rw [gx_nn (by decide)]; rfl
theorem gx_29 {α : Type} [Inhabited α] {a0 a1 a2 a3 a4 a5 a6 a7 a8 a9 a10 a11 a12 a13 a14 a15 a16 a17 a18 a19 a20 a21 a22 a23 a24 a25 a26 a27 a28 a29 : α} {l : List α} : gx (a0 :: a1 :: a2 :: a3 :: a4 :: a5 :: a6 :: a7 :: a8 :: a9 :: a10 :: a11 :: a12 :: a13 :: a14 :: a15 :: a16 :: a17 :: a18 :: a19 :: a20 :: a21 :: a22 :: a23 :: a24 :: a25 :: a26 :: a27 :: a28 :: a29 :: l) 29 = a29 := by rw [gx_nn (by decide)]; rfl
theorem gx_30 {α : Type} [Inhabited α] {a0 a1 a2 a3 a4 a5 a6 a7 a8 a9 a10 a11 a12 a13 a14 a15 a16 a17 a18 a19 a20 a21 a22 a23 a24 a25 a26 a27 a28 a29 a30 : α} {l : List α} : gx (a0 :: a1 :: a2 :: a3 :: a4 :: a5 :: a6 :: a7 :: a8 :: a9 :: a10 :: a11 :: a12 :: a13 :: a14 :: a15 :: a16 :: a17 :: a18 :: a19 :: a20 :: a21 :: a22 :: a23 :: a24 :: a25 :: a26 :: a27 :: a28 :: a29 :: a30 :: l) 30 = a30 := by rw [gx_nn (by decide)]; rfl
theorem gx_31 {α : Type} [Inhabited α] {a0 a1 a2 a3 a4 a5 a6 a7 a8 a9 a10 a11 a12 a13 a14 a15 a16 a17 a18 a19 a20 a21 a22 a23 a24 a25 a26 a27 a28 a29 a30 a31 : α} {l : List α} : gx (a0 :: a1 :: a2 :: a3 :: a4 :: a5 :: a6 :: a7 :: a8 :: a9 :: a10 :: a11 :: a12 :: a13 :: a14 :: a15 :: a16 :: a17 :: a18 :: a19 :: a20 :: a21 :: a22 :: a23 :: a24 :: a25 :: a26 :: a27 :: a28 :: a29 :: a30 :: a31 :: l) 31 = a31 := by rw [gx_nn (by decide)]; rfl
theorem gx_32 {α : Type} [Inhabited α] {a0 a1 a2 a3 a4 a5 a6 a7 a8 a9 a10 a11 a12 a13 a14 a15 a16 a17 a18 a19 a20 a21 a22 a23 a24 a25 a26 a27 a28 a29 a30 a31 a32 : α} {l : List α} : gx (a0 :: a1 :: a2 :: a3 :: a4 :: a5 :: a6 :: a7 :: a8 :: a9 :: a10 :: a11 :: a12 :: a13 :: a14 :: a15 :: a16 :: a17 :: a18 :: a19 :: a20 :: a21 :: a22 :: a23 :: a24 :: a25 :: a26 :: a27 :: a28 :: a29 :: a30 :: a31 :: a32 :: l) 32 = a32 := by rw [gx_nn (by decide)]; rfl
theorem gx_33 {α : Type} [Inhabited α] {a0 a1 a2 a3 a4 a5 a6 a7 a8 a9 a10 a11 a12 a13 a14 a15 a16 a17 a18 a19 a20 a21 a22 a23 a24 a25 a26 a27 a28 a29 a30 a31 a32 a33 : α} {l : List α} : gx (a0 :: a1 :: a2 :: a3 :: a4 :: a5 :: a6 :: a7 :: a8 :: a9 :: a10 :: a11 :: a12 :: a13 :: a14 :: a15 :: a16 :: a17 :: a18 :: a19 :: a20 :: a21 :: a22 :: a23 :: a24 :: a25 :: a26 :: a27 :: a28 :: a29 :: a30 :: a31 :: a32 :: a33 :: l) 33 = a33 := by rw [gx_nn (by decide)]; rfl
theorem gxm_0 {α : Type} [Inhabited α] {a0 : α} : gx [a0] (-1) = a0 := by unfold gx ixj; rfl
theorem gxm_1 {α : Type} [Inhabited α] {a0 a1 : α} : gx [a0, a1] (-1) = a1 := by unfold gx ixj; rfl
theorem gxm_2 {α : Type} [Inhabited α] {a0 a1 a2 : α} : gx [a0, a1, a2] (-1) = a2 := by unfold gx ixj; rfl
theorem gxm_3 {α : Type} [Inhabited α] {a0 a1 a2 a3 : α} : gx [a0, a1, a2, a3] (-1) = a3 := by unfold gx ixj; rfl
theorem sizeL : sizeLine = 16777216 := rfl
theorem ap_wIR3 {a : WA} {env : PEnv} {Q : List P → Prop} {X : XP} : (wIR3 a env Q X) = (a env (fun xs => match xs with | [.int i, .int j, .int c] => ∃ n, RgC i j c n ∧ Q (rngC i c n) | _ => False) X) := rfl
end Pf

namespace Pf
open PySem PySem.Spec PyProof.Rows L2
/-! ### numbers -/
/-- drawn numbers: as many as sizes, each from 0 to below its size -/
def InB : List Int → List Int → Prop
  | [], [] => True
  | d :: ds, s :: ss => (0 ≤ d ∧ d < s) ∧ InB ds ss
  | _, _ => False
theorem InB.snoc : ∀ {ds ss : List Int} {d s : Int}, InB ds ss → 0 ≤ d → d < s → InB (ds ++ [d]) (ss ++ [s])
  | [], [], _, _, _, h0, h1 => ⟨⟨h0, h1⟩, trivial⟩
  | _ :: _, _ :: _, _, _, h, h0, h1 => ⟨h.1, InB.snoc h.2 h0 h1⟩
  | [], _ :: _, _, _, h, _, _ => h.elim
  | _ :: _, [], _, _, h, _, _ => h.elim
theorem InB.len : ∀ {ds ss : List Int}, InB ds ss → ds.length = ss.length
  | [], [], _ => rfl
  | _ :: _, _ :: _, h => by simp [InB.len h.2]
  | [], _ :: _, h => h.elim
  | _ :: _, [], h => h.elim
theorem InB.rep {n : Nat} {s : Int} : ∀ {ds : List Int}, InB ds (List.replicate n s) → ds.length = n ∧ ∀ d ∈ ds, 0 ≤ d ∧ d < s := by
  induction n with
  | zero => intro ds h; cases ds with
    | nil => exact ⟨rfl, by simp⟩
    | cons d r => exact h.elim
  | succ n ih => intro ds h; cases ds with
    | nil => exact h.elim
    | cons d r =>
      have h2 : (0 ≤ d ∧ d < s) ∧ InB r (List.replicate n s) := h
      obtain ⟨h3, h4⟩ := ih h2.2
      refine ⟨by simp [h3], ?_⟩
      intro x hx
      rcases List.mem_cons.mp hx with rfl | hx
      · exact h2.1
      · exact h4 x hx
theorem take_snoc {ss : List Int} {i : Nat} {s : Int} (h : ss[i]? = some s) : ss.take (i + 1) = ss.take i ++ [s] := by
  rw [List.take_add_one, h]
  rfl
theorem InB.cons {ds ss : List Int} {s : Int} (h : InB ds (s :: ss)) : ∃ d r, ds = d :: r ∧ 0 ≤ d ∧ d < s ∧ InB r ss := by
  cases ds with
  | nil => exact h.elim
  | cons d r => exact ⟨d, r, rfl, h.1.1, h.1.2, h.2⟩
theorem InB.nil {ds : List Int} (h : InB ds []) : ds = [] := by
  cases ds with
  | nil => rfl
  | cons d r => exact h.elim
theorem InB.at : ∀ {ds ss : List Int} {i : Nat} {s : Int}, InB ds ss → ss[i]? = some s → ∃ d, ds[i]? = some d ∧ 0 ≤ d ∧ d < s
  | [], [], _, _, _, e => by simp at e
  | d :: ds, s :: ss, 0, _, h, e => by cases e; exact ⟨d, rfl, h.1.1, h.1.2⟩
  | d :: ds, s :: ss, i + 1, _, h, e => InB.at (ds := ds) (ss := ss) (i := i) h.2 e
  | [], _ :: _, _, _, h, _ => h.elim
  | _ :: _, [], _, _, h, _ => h.elim
/-- the drawn number at a written place -/
theorem InB.get {ds ss : List Int} {k : Int} {s : Int} (h : InB ds ss) (h0 : 0 ≤ k) (e : ss[k.toNat]? = some s) : ∃ d, ds[k.toNat]? = some d ∧ atI (ds.map P.int) k = some (.int d) ∧ 0 ≤ d ∧ d < s := by
  obtain ⟨d, e1, e2, e3⟩ := h.at e
  exact ⟨d, e1, at_nn h0 (by rw [List.getElem?_map, e1]; rfl), e2, e3⟩
/-- lo, lo + 1, .. as ints -/
theorem rng_il {lo : Int} {n : Nat} : P.lst (rng lo n) = il (rgI lo n) := by
  unfold rng rgI il
  rw [List.map_map]
  rfl
theorem rgI_len {lo : Int} {n : Nat} : (rgI lo n).length = n := by simp [rgI]
theorem rgI_at {lo : Int} {n i : Nat} (h : i < n) : (rgI lo n)[i]? = some (lo + (i : Int)) := by simp [rgI, h]
theorem rgI_mem {lo d : Int} {n : Nat} : d ∈ rgI lo n ↔ lo ≤ d ∧ d < lo + n := by
  unfold rgI
  rw [List.mem_map]
  constructor
  · rintro ⟨i, hi, rfl⟩
    have := List.mem_range.mp hi
    omega
  · intro h
    exact ⟨(d - lo).toNat, List.mem_range.mpr (by omega), by omega⟩
theorem il_len {ns : List Int} : (ns.map P.int).length = ns.length := List.length_map ..
theorem flat_il {ns : List Int} : (ns.map P.int).all flatP = true := by
  rw [List.all_eq_true]
  intro x hx
  obtain ⟨n, _, rfl⟩ := List.mem_map.mp hx
  rfl
theorem in_il {d : Int} {ns : List Int} : inP (.int d) (ns.map P.int) = decide (d ∈ ns) := by
  unfold inP
  rw [List.any_map, Bool.eq_iff_iff, List.any_eq_true, decide_eq_true_eq]
  constructor
  · rintro ⟨x, hx, h⟩
    have : x = d := by simpa [eqF] using h
    exact this ▸ hx
  · intro h
    exact ⟨d, h, by simp [eqF]⟩
theorem il_depth (ns : List Int) : PyData.depthAll (toDs (ns.map P.int)) = 0 := by
  induction ns with
  | nil => rfl
  | cons n ns ih => rw [List.map_cons, toDs, PyData.depthAll, ih]; rfl
theorem datBs_il (ns : List Int) : datBs (ns.map P.int) = true := by
  induction ns with
  | nil => rfl
  | cons n ns ih => rw [List.map_cons, datBs, ih]; rfl
theorem sh_il {ns : List Int} : shP (il ns) = true := by
  unfold shP il
  rw [datB, datBs_il, toD, PyData.depth, il_depth]
  rfl
theorem eqv_il : ∀ (a b : List Int), PyData.eqvAll (toDs (a.map P.int)) (toDs (b.map P.int)) = decide (a = b)
  | [], [] => rfl
  | [], _ :: _ => rfl
  | _ :: _, [] => rfl
  | x :: a, y :: b => by
    rw [List.map_cons, List.map_cons, toDs, toDs, PyData.eqvAll, eqv_il a b, toD, toD, PyData.eqv, Bool.eq_iff_iff]
    simp
theorem eq_il {a b : List Int} : eqP (il a) (il b) = decide (a = b) := by
  unfold eqP il
  rw [toD, toD, PyData.eqv, eqv_il]
theorem il_app {a b : List Int} : P.lst (a.map P.int ++ b.map P.int) = il (a ++ b) := by unfold il; rw [List.map_append]
theorem il_snoc {a : List Int} {n : Int} : P.lst (a.map P.int ++ [P.int n]) = il (a ++ [n]) := by unfold il; rw [List.map_append]; rfl
theorem il_one {a : List Int} {n : Int} : a.map P.int ++ [P.int n] = (a ++ [n]).map P.int := by rw [List.map_append]; rfl
theorem rep_il {s : Int} {n : Nat} : (List.replicate n [P.int s]).flatten = (List.replicate n s).map P.int := by
  induction n with
  | zero => rfl
  | succ n ih => rw [List.replicate_succ, List.flatten_cons, ih, List.replicate_succ]; rfl
theorem rep_ilL {l : List Int} {n : Nat} : (List.replicate n (l.map P.int)).flatten = ((List.replicate n l).flatten).map P.int := by rw [List.map_flatten, List.map_replicate]
theorem sum_bound {ns : List Int} {lo hi : Int} (h : ∀ n ∈ ns, lo ≤ n ∧ n ≤ hi) : lo * ns.length ≤ ns.sum ∧ ns.sum ≤ hi * ns.length := by
  induction ns with
  | nil => simp
  | cons n ns ih =>
    have h1 := h n List.mem_cons_self
    have h2 := ih fun m hm => h m (List.mem_cons_of_mem _ hm)
    rw [List.sum_cons, List.length_cons]
    push_cast
    rw [Int.mul_add, Int.mul_add]
    omega
/-! ### texts, records, rows -/
def ChP (p : Nat → Prop) (z : Str) : Prop := ∀ c ∈ z.cps.toList, p c
theorem ChP.app {p : Nat → Prop} {a b : Str} (ha : ChP p a) (hb : ChP p b) : ChP p (a ++ b) := by
  intro c hc
  have e : (a ++ b).cps.toList = a.cps.toList ++ b.cps.toList := by
    show (a.cps ++ b.cps).toList = _
    simp
  rw [e] at hc
  rcases List.mem_append.mp hc with h | h
  · exact ha c h
  · exact hb c h
theorem ChP.cut {p : Nat → Prop} {a : Str} {lo hi : Option Int} (ha : ChP p a) : ChP p (cutS a lo hi) := by
  intro c hc
  unfold cutS at hc
  have hc : c ∈ (a.cps.toList.drop (HT.sIx a.length 0 lo)).take (HT.sIx a.length a.length hi - HT.sIx a.length 0 lo) := hc
  exact ha c (List.mem_of_mem_drop (List.mem_of_mem_take hc))
theorem ChP.one {p : Nat → Prop} {c : Nat} (h : p c) : ChP p ⟨#[c]⟩ := fun d hd => by
  have e : d = c := by simpa using hd
  rw [e]
  exact h
theorem ChP.imp {p q : Nat → Prop} {a : Str} (h : ∀ c, p c → q c) (ha : ChP p a) : ChP q a := fun c hc => h c (ha c hc)
theorem flat_get {α : Type} (l : List α) : ∀ (n i : Nat), 0 < l.length → i < n * l.length → (List.replicate n l).flatten[i]? = l[i % l.length]?
  | 0, i, _, h => by simp at h
  | n + 1, i, hl, h => by
    rw [List.replicate_succ, List.flatten_cons]
    by_cases hi : i < l.length
    · rw [List.getElem?_append_left hi, Nat.mod_eq_of_lt hi]
    · rw [List.getElem?_append_right (by omega), flat_get l n (i - l.length) hl (by rw [Nat.succ_mul] at h; omega)]
      congr 1
      rw [← Nat.mod_eq_sub_mod (by omega)]
theorem flat_map {α β : Type} (f : α → β) (l : List α) (n : Nat) : (List.replicate n (l.map f)).flatten = ((List.replicate n l).flatten).map f := by
  rw [List.map_flatten, List.map_replicate]
theorem flat_mem {α : Type} {l : List α} {n : Nat} {x : α} (h : x ∈ (List.replicate n l).flatten) : x ∈ l := by
  obtain ⟨a, ha, hx⟩ := List.mem_flatten.mp h
  rw [(List.mem_replicate.mp ha).2] at hx
  exact hx
theorem flat_len {α : Type} (l : List α) (n : Nat) : (List.replicate n l).flatten.length = n * l.length := by
  rw [List.length_flatten, List.map_replicate, List.sum_replicate_nat]
theorem tw_all {p : Nat → Bool} : ∀ {l : List Nat}, l.all p = true → l.takeWhile p = l
  | [], _ => rfl
  | c :: r, h => by
    rw [List.all_cons, Bool.and_eq_true] at h
    rw [List.takeWhile_cons, if_pos h.1, tw_all h.2]
theorem tw_split {p : Nat → Bool} : ∀ {l : List Nat}, l.all p = false → ∃ pre c post, l = pre ++ c :: post ∧ l.takeWhile p = pre ∧ p c = false
  | [], h => by simp at h
  | c :: r, h => by
    cases hc : p c with
    | false => exact ⟨[], c, r, rfl, by rw [List.takeWhile_cons, if_neg (by simp [hc])], hc⟩
    | true =>
      rw [List.all_cons, hc, Bool.true_and] at h
      obtain ⟨pre, d, post, e1, e2, e3⟩ := tw_split h
      exact ⟨c :: pre, d, post, by rw [e1]; rfl, by rw [List.takeWhile_cons, if_pos hc, e2], e3⟩
theorem tw_last {p : Nat → Bool} {c : Nat} (h : p c = false) : ∀ m : List Nat, ((m ++ [c]).takeWhile p).length ≤ m.length
  | [] => by simp [List.takeWhile_cons, h]
  | d :: m => by
    rw [List.cons_append, List.takeWhile_cons]
    split
    · simpa using tw_last h m
    · simp
theorem strip_none {p : Nat → Bool} (z : Str) : (Txt.stripBy p true true z = ⟨#[]⟩) ↔ z.cps.toList.all p = true := by
  obtain ⟨⟨l⟩⟩ := z
  unfold Txt.stripBy stripSame stripped stripLo stripHi Str.length
  simp only [if_true, List.size_toArray]
  show _ ↔ l.all p = true
  cases h : l.all p with
  | true =>
    rw [tw_all h]
    simp only [List.drop_length, List.reverse_nil, List.takeWhile_nil, List.length_nil, Nat.sub_zero, beq_self_eq_true, Bool.and_true, iff_true]
    split
    · rename_i e
      have e := eq_of_beq e
      have e2 : l = [] := List.length_eq_zero_iff.mp e
      rw [e2]
    · unfold Builtin.Str.strSub
      simp
  | false =>
    obtain ⟨pre, c, post, e1, e2, e3⟩ := tw_split h
    rw [e2]
    have e4 : l.drop pre.length = c :: post := by rw [e1]; simp
    rw [e4, List.reverse_cons]
    have e5 := tw_last e3 post.reverse
    rw [List.length_reverse] at e5
    have e6 : l.length = pre.length + 1 + post.length := by rw [e1]; simp; omega
    simp only [Bool.false_eq_true, iff_false]
    split
    · intro z
      have z := congrArg (fun s : Str => s.cps.size) z
      simp at z
      have z2 : l.length = 0 := by rw [z]; rfl
      omega
    · intro z
      have z := congrArg (fun s : Str => s.cps.size) z
      unfold Builtin.Str.strSub at z
      simp at z
      rcases z with z | z
      · rw [e6] at z
        omega
      · omega
def signs : List Nat := ("abcdefghijklmnopqrstuvwxyz0123456789" : Str).cps.toList
/-- a valid record -/
def isRec (z : Str) : Bool := decide (1 ≤ z.length) && (decide (z.length ≤ 8) && z.cps.toList.all fun c => decide (c ∈ signs))
theorem strip_rec (z : Str) : decide (Txt.stripChars z ("abcdefghijklmnopqrstuvwxyz0123456789" : Str) = ("" : Str)) = z.cps.toList.all fun c => decide (c ∈ signs) := by
  have e := strip_none (p := ("abcdefghijklmnopqrstuvwxyz0123456789" : Str).cps.contains) z
  have e0 : ("" : Str) = ⟨#[]⟩ := by decide +kernel
  have e1 : (fun c => decide (c ∈ signs)) = ("abcdefghijklmnopqrstuvwxyz0123456789" : Str).cps.contains := by
    funext c
    unfold signs
    rw [Bool.eq_iff_iff]
    simp
  rw [e1, e0]
  unfold Txt.stripChars
  cases h : z.cps.toList.all ("abcdefghijklmnopqrstuvwxyz0123456789" : Str).cps.contains with
  | true =>
    rw [e.mpr h]
    exact decide_eq_true rfl
  | false =>
    refine decide_eq_false fun q => ?_
    have q := e.mp q
    rw [h] at q
    cases q
abbrev LET : Str := "abcdefghijklmnopqrstuvwxyz0123456789"
theorem let_len : LET.length = 36 := by decide +kernel
theorem let_at {k : Int} (h0 : 0 ≤ k) (h1 : k < 36) : ∃ c, c ∈ signs ∧ atI LET.cps.toList k = some c := by
  have el : LET.cps.toList.length = 36 := by decide +kernel
  have hk : k.toNat < LET.cps.toList.length := by omega
  have e : ((k.toNat : Nat) : Int) = k := by omega
  have h := atI_nat (xs := LET.cps.toList) (j := k.toNat) (List.getElem?_eq_getElem hk)
  rw [e] at h
  exact ⟨_, List.getElem_mem hk, h⟩
theorem rec_of {z : Str} (h1 : 1 ≤ z.length) (h2 : z.length ≤ 8) (h3 : ChP (fun c => c ∈ signs) z) : isRec z = true := by
  unfold isRec
  rw [decide_eq_true h1, decide_eq_true h2, Bool.true_and, Bool.true_and, List.all_eq_true]
  exact fun c hc => decide_eq_true (h3 c hc)
/-- a row, rows -/
theorem sl_snoc {a : List Str} {z : Str} : P.lst (a.map P.str ++ [P.str z]) = sl (a ++ [z]) := by unfold sl; rw [List.map_append]; rfl
theorem at_rr {rs : List (Int × Str)} {k : Int} (h0 : 0 ≤ k) (h1 : k < (rs.length : Int)) : ∃ r, rs[k.toNat]? = some r ∧ r ∈ rs ∧ atI (rs.map rowP) k = some (rowP r) := by
  have hk : k.toNat < rs.length := by omega
  exact ⟨rs[k.toNat], List.getElem?_eq_getElem hk, List.getElem_mem hk, at_nn h0 (by rw [List.getElem?_map, List.getElem?_eq_getElem hk]; rfl)⟩
theorem at_ss {zs : List Str} {k : Int} (h0 : 0 ≤ k) (h1 : k < (zs.length : Int)) : ∃ z, zs[k.toNat]? = some z ∧ z ∈ zs ∧ atI (zs.map P.str) k = some (.str z) := by
  have hk : k.toNat < zs.length := by omega
  exact ⟨zs[k.toNat], List.getElem?_eq_getElem hk, List.getElem_mem hk, at_nn h0 (by rw [List.getElem?_map, List.getElem?_eq_getElem hk]; rfl)⟩
theorem datBs_rl (rs : List (Int × Str)) : datBs (rs.map rowP) = true := by
  induction rs with
  | nil => rfl
  | cons n ns ih => rw [List.map_cons, datBs, ih]; rfl
theorem rl_depth (rs : List (Int × Str)) : PyData.depthAll (toDs (rs.map rowP)) ≤ 1 := by
  induction rs with
  | nil => exact Nat.zero_le _
  | cons n ns ih =>
    rw [List.map_cons, toDs, PyData.depthAll]
    have e : (toD (rowP n)).depth = 1 := rfl
    omega
theorem sh_rl {rs : List (Int × Str)} : shP (rl rs) = true := by
  unfold shP rl
  rw [datB, datBs_rl, Bool.true_and]
  refine decide_eq_true ?_
  rw [toD, PyData.depth]
  have := rl_depth rs
  omega
theorem eqv_row (x y : Int × Str) : PyData.eqv (toD (rowP x)) (toD (rowP y)) = decide (x = y) := by
  obtain ⟨a1, a2⟩ := x
  obtain ⟨b1, b2⟩ := y
  rw [Bool.eq_iff_iff]
  simp [rowP, toD, toDs, PyData.eqv, PyData.eqvAll]
theorem eqv_rl : ∀ (a b : List (Int × Str)), PyData.eqvAll (toDs (a.map rowP)) (toDs (b.map rowP)) = decide (a = b)
  | [], [] => rfl
  | [], _ :: _ => rfl
  | _ :: _, [] => rfl
  | x :: a, y :: b => by
    rw [List.map_cons, List.map_cons, toDs, toDs, PyData.eqvAll, eqv_rl a b, eqv_row, Bool.eq_iff_iff]
    simp
theorem eq_rl {a b : List (Int × Str)} : eqP (rl a) (rl b) = decide (a = b) := by
  unfold eqP rl
  rw [toD, toD, PyData.eqv, eqv_rl]
theorem rl_snoc {a : List (Int × Str)} {n : Int × Str} : P.lst (a.map rowP ++ [rowP n]) = rl (a ++ [n]) := by unfold rl; rw [List.map_append]; rfl
theorem rl_one {a : List (Int × Str)} {n : Int × Str} : a.map rowP ++ [rowP n] = (a ++ [n]).map rowP := by rw [List.map_append]; rfl
theorem rl_cat {a b : List (Int × Str)} : a.map rowP ++ b.map rowP = (a ++ b).map rowP := by rw [List.map_append]
theorem sl_one {a : List Str} {n : Str} : a.map P.str ++ [P.str n] = (a ++ [n]).map P.str := by rw [List.map_append]; rfl
theorem set_rl {a : List (Int × Str)} {j : Nat} {r : Int × Str} : (a.map rowP).set j (rowP r) = (a.set j r).map rowP := by rw [List.map_set]
/-- rows of valid records, n of them, between lo and hi -/
structure GoodR (rs : List (Int × Str)) (n : Nat) (lo hi : Int) : Prop where
  ln : rs.length = n
  rc : ∀ r ∈ rs, isRec r.2 = true
  sh : ∀ r ∈ rs, lo ≤ r.1 ∧ r.1 ≤ hi
theorem isRec_len {z : Str} (h : isRec z = true) : 1 ≤ z.length ∧ z.length ≤ 8 := by
  unfold isRec at h
  rw [Bool.and_eq_true, Bool.and_eq_true, decide_eq_true_eq, decide_eq_true_eq] at h
  exact ⟨h.1, h.2.1⟩
/-- [.. for row in rows]: rows of rows -/
theorem lc_rr {g : P → PEnv → (PEnv → Prop) → Prop} {te : WE} {vs : List Nat} {env : PEnv} {Q : P → Prop} {rs : List (Int × Str)} (f : Int × Str → P) (hl : rs.length ≤ 1000000)
    (hs : ∀ r (Q : P → Prop), r ∈ rs → Q (f r) → g (rowP r) (wipeP env vs) fun e => te e Q noX') (hd : Q (.lst (rs.map f))) : LcB (rs.map rowP) g (fun _ Q _ => Q true) te vs env Q := by
  refine lc_all (ys := rs.map f) (by simp) (sz (by simpa using hl)) (fun i x y Q hx hy hQ => ?_) hd
  rw [List.getElem?_map] at hx hy
  cases e : rs[i]? with
  | none => rw [e] at hx; cases hx
  | some r =>
    rw [e] at hx hy
    cases hx
    cases hy
    exact hs r Q (List.mem_of_getElem? e) hQ
/-- [.. for k in range(n)]: each item by its place -/
theorem lc_rg {g : P → PEnv → (PEnv → Prop) → Prop} {te : WE} {vs : List Nat} {env : PEnv} {Q : P → Prop} {lo : Int} {n : Nat} (ys : List P) (hn : ys.length = n) (hl : n ≤ 1000000)
    (hs : ∀ (i : Nat) y (Q : P → Prop), i < n → ys[i]? = some y → Q y → g (.int (lo + (i : Int))) (wipeP env vs) fun e => te e Q noX') (hd : Q (.lst ys)) : LcB (rng lo n) g (fun _ Q _ => Q true) te vs env Q := by
  refine lc_all (ys := ys) (by rw [rng_len, hn]) (sz (by rw [rng_len]; exact hl)) (fun i x y Q hx hy hQ => ?_) hd
  have hi : i < n := by have := (List.getElem?_eq_some_iff.mp hx).1; rwa [rng_len] at this
  rw [rng_at hi] at hx
  cases hx
  exact hs i y Q hi hy hQ
/-- .., where each item has Pb -/
theorem lc_rgAny {α : Type} {g : P → PEnv → (PEnv → Prop) → Prop} {te : WE} {vs : List Nat} {env : PEnv} {Q : P → Prop} {lo : Int} {n : Nat} (f : α → P) (Pb : Nat → α → Prop) (hl : n ≤ 1000000)
    (hs : ∀ (i : Nat) (Q : P → Prop), i < n → (∀ a, Pb i a → Q (f a)) → g (.int (lo + (i : Int))) (wipeP env vs) fun e => te e Q noX') (hd : ∀ ys : List α, ys.length = n → (∀ (i : Nat) a, ys[i]? = some a → Pb i a) → Q (.lst (ys.map f))) : LcB (rng lo n) g (fun _ Q _ => Q true) te vs env Q := by
  refine lc_any (fun i y => ∃ a, y = f a ∧ Pb i a) (sz (by rw [rng_len]; exact hl)) (fun i x Q hx hQ => ?_) fun ys hn hy => ?_
  · have hi : i < n := by have := (List.getElem?_eq_some_iff.mp hx).1; rwa [rng_len] at this
    rw [rng_at hi] at hx
    cases hx
    exact hs i Q hi fun a ha => hQ _ ⟨a, rfl, ha⟩
  · have key : ∀ (k : Nat) (l : List P), (∀ (i : Nat) y, l[i]? = some y → ∃ a, y = f a ∧ Pb (k + i) a) → ∃ as : List α, l = as.map f ∧ ∀ (i : Nat) a, as[i]? = some a → Pb (k + i) a := by
      intro k l
      induction l generalizing k with
      | nil => intro _; exact ⟨[], rfl, fun i a h => by simp at h⟩
      | cons y l ih =>
        intro h
        obtain ⟨a, rfl, ha⟩ := h 0 _ rfl
        obtain ⟨as, rfl, has⟩ := ih (k + 1) fun i z hz => by
          have := h (i + 1) z hz
          rwa [show k + (i + 1) = k + 1 + i by omega] at this
        refine ⟨a :: as, rfl, fun i b hb => ?_⟩
        cases i with
        | zero => cases hb; exact ha
        | succ i =>
          have := has i b hb
          rwa [show k + 1 + i = k + (i + 1) by omega] at this
    obtain ⟨as, rfl, has⟩ := key 0 ys fun i y h => by simpa using hy i y h
    exact hd as (by rw [rng_len, List.length_map] at hn; exact hn) fun i a h => by simpa using has i a h
theorem lc_rows {g : P → PEnv → (PEnv → Prop) → Prop} {te : WE} {vs : List Nat} {env : PEnv} {Q : P → Prop} {m n : Nat} {lo hi : Int} (hn : m = n) (hl : n ≤ 1000000)
    (hs : ∀ (i : Nat) (Q : P → Prop), i < n → (∀ t z, isRec z = true → lo ≤ t → t ≤ hi → Q (rowP (t, z))) → g (.int (0 + (i : Int))) (wipeP env vs) fun e => te e Q noX') (hd : ∀ rs, GoodR rs n lo hi → Q (rl rs)) :
    LcB (rng 0 m) g (fun _ Q _ => Q true) te vs env Q := by
  subst hn
  refine lc_rgAny rowP (fun _ r => isRec r.2 = true ∧ lo ≤ r.1 ∧ r.1 ≤ hi) hl (fun i Q hi h => hs i Q hi fun t z h1 h2 h3 => h (t, z) ⟨h1, h2, h3⟩) fun ys h1 h2 => hd ys ⟨h1, fun r hr => ?_, fun r hr => ?_⟩
  · obtain ⟨i, hi⟩ := List.mem_iff_getElem?.mp hr; exact (h2 i r hi).1
  · obtain ⟨i, hi⟩ := List.mem_iff_getElem?.mp hr; exact (h2 i r hi).2
theorem GoodR.mono {rs : List (Int × Str)} {n : Nat} {lo hi lo2 hi2 : Int} (h : GoodR rs n lo hi) (h1 : lo2 ≤ lo) (h2 : hi ≤ hi2) : GoodR rs n lo2 hi2 := ⟨h.ln, h.rc, fun r hr => by have := h.sh r hr; omega⟩
theorem cut_take {xs : List P} {j : Int} (h : 0 ≤ j) : cutP xs none (some j) = xs.take j.toNat := by
  have e : j = ((j.toNat : Nat) : Int) := by omega
  unfold cutP
  rw [e, HT.sIx_nat, HT.sIx_none, Int.toNat_natCast, List.drop_zero, Nat.sub_zero]
  rcases Nat.le_total j.toNat xs.length with h1 | h1
  · rw [Nat.min_eq_left h1]
  · rw [Nat.min_eq_right h1, List.take_of_length_le (Nat.le_refl _), List.take_of_length_le h1]
theorem cut_sl {ys : List Str} {j : Int} (h : 0 ≤ j) : cutP (ys.map P.str) none (some j) = (ys.take j.toNat).map P.str := by rw [cut_take h, List.map_take]
theorem cut_rl {ys : List (Int × Str)} {j : Int} (h : 0 ≤ j) : cutP (ys.map rowP) none (some j) = (ys.take j.toNat).map rowP := by rw [cut_take h, List.map_take]
/-- powers stay narrow -/
theorem pow_w {b : Int} {n : Nat} (h0 : 0 ≤ b) (h1 : b < 65536) : (b ^ n).natAbs < 2 ^ (16 * n + 1) := by
  have e : (b ^ n).natAbs = b.natAbs ^ n := by rw [Int.natAbs_pow]
  rw [e]
  have h2 : b.natAbs ^ n ≤ (2 ^ 16) ^ n := Nat.pow_le_pow_left (by omega) n
  rw [← Nat.pow_mul] at h2
  exact Nat.lt_of_le_of_lt h2 (Nat.pow_lt_pow_right (by decide) (by omega))
theorem mul_pw {b : Int} {p q : Nat} (h0 : 0 ≤ b) (h1 : b < 65536) (h : p + q ≤ 50000) : CMulW (b ^ p) (b ^ q) := wide_mul (pow_w h0 h1) (pow_w h0 h1) (by omega) (by omega) (by omega)
def fb (rs : List (Int × Str)) : Int := match rs.findIdx? (fun r => !isRec r.2) with
  | some i => (i : Int)
  | none => -1
theorem fb_some {rs : List (Int × Str)} {i : Nat} {r : Int × Str} (hr : rs[i]? = some r) (h : isRec r.2 = false) (hp : ∀ j < i, ∀ q, rs[j]? = some q → isRec q.2 = true) : fb rs = (i : Int) := by
  have hi := (List.getElem?_eq_some_iff.mp hr).1
  have e : rs.findIdx? (fun r => !isRec r.2) = some i := by
    rw [List.findIdx?_eq_some_iff_getElem]
    have er : rs[i] = r := (List.getElem?_eq_some_iff.mp hr).2
    refine ⟨hi, by rw [er, h]; rfl, fun j hj => ?_⟩
    have := hp j hj _ (List.getElem?_eq_getElem (by omega))
    simp [this]
  unfold fb
  rw [e]
theorem fb_none {rs : List (Int × Str)} (hp : ∀ (j : Nat) q, rs[j]? = some q → isRec q.2 = true) : fb rs = -1 := by
  have e : rs.findIdx? (fun r => !isRec r.2) = none := by
    rw [List.findIdx?_eq_none_iff]
    intro r hr
    obtain ⟨j, hj⟩ := List.mem_iff_getElem?.mp hr
    rw [hp j r hj]
    rfl
  unfold fb
  rw [e]
theorem rec_no {z : Str} (h : z.length < 1 ∨ 8 < z.length ∨ (z.cps.toList.all fun c => decide (c ∈ signs)) = false) : isRec z = false := by
  unfold isRec
  rcases h with h | h | h
  · rw [decide_eq_false (by omega)]; rfl
  · rw [show decide (z.length ≤ 8) = false from decide_eq_false (by omega), Bool.false_and, Bool.and_false]
  · rw [h, Bool.and_false, Bool.and_false]
theorem rec_yes {z : Str} (h1 : ¬ z.length < 1) (h2 : ¬ 8 < z.length) (h3 : (z.cps.toList.all fun c => decide (c ∈ signs)) = true) : isRec z = true := by
  unfold isRec
  rw [h3, decide_eq_true (show 1 ≤ z.length by omega), decide_eq_true (show z.length ≤ 8 by omega)]
  rfl
/-- [f a for a in .. if c a], the items being pr a -/
theorem lc_fil {α : Type} {g : P → PEnv → (PEnv → Prop) → Prop} {tt : WT} {te : WE} {vs : List Nat} {env : PEnv} {Q : P → Prop} {as : List α} (pr : α → P) (c : α → Bool) (f : α → P) (hl : as.length ≤ 1000000)
    (hs : ∀ a (Q : P → Prop) (Q0 : Prop), a ∈ as → (c a = true → Q (f a)) → (c a = false → Q0) → g (pr a) (wipeP env vs) fun e => tt e (fun b => if b = true then te e Q noX' else Q0) noX')
    (hd : Q (.lst ((as.filter c).map f))) : LcB (as.map pr) g tt te vs env Q := by
  refine ⟨fun i acc => acc = ((as.take i).filter c).map f, by simp, fun i x acc hx ha => ?_, fun acc ha => ?_⟩
  · rw [List.getElem?_map] at hx
    cases e : as[i]? with
    | none => rw [e] at hx; cases hx
    | some a =>
      rw [e] at hx
      cases hx
      have hi : i < as.length := (List.getElem?_eq_some_iff.mp e).1
      have hal : acc.length ≤ i := by
        rw [ha, List.length_map]
        refine Nat.le_trans (List.length_filter_le _ _) ?_
        rw [List.length_take]
        omega
      refine hs a _ _ (List.mem_of_getElem? e) (fun hc => ⟨szt (by omega), ?_⟩) fun hc => ?_
      · show _ = List.map _ (List.filter _ (List.take (i + 1) as))
        rw [List.take_add_one, e, List.filter_append, List.map_append, ha]
        simp [hc]
      · show _ = List.map _ (List.filter _ (List.take (i + 1) as))
        rw [List.take_add_one, e, List.filter_append, List.map_append, ha]
        simp [hc]
  · rw [List.length_map, List.take_length] at ha
    rw [ha]
    exact hd
/-- what a sheet of sharpness t can stand for at the end e, the breadth being w -/
def capI (t e w : Int) : Int := if t < e then 0 else (w + 1) ^ (t - e).toNat
/-- how many of the levels are below l -/
def cntB (ls : List Int) (l : Int) : Int := ((ls.filter fun x => decide (x < l)).length : Nat)
/-- m is the greatest of the levels, each less those below it -/
def IsLow (ls : List Int) (m : Int) : Prop := (∃ l ∈ ls, m = l - cntB ls l) ∧ ∀ l ∈ ls, l - cntB ls l ≤ m
theorem lc_ints {g : P → PEnv → (PEnv → Prop) → Prop} {te : WE} {vs : List Nat} {env : PEnv} {Q : P → Prop} {ls : List Int} (f : Int → P) (hl : ls.length ≤ 1000000)
    (hs : ∀ l (Q : P → Prop), l ∈ ls → Q (f l) → g (.int l) (wipeP env vs) fun e => te e Q noX') (hd : Q (.lst (ls.map f))) : LcB (ls.map P.int) g (fun _ Q _ => Q true) te vs env Q := by
  refine lc_all (ys := ls.map f) (by simp) (sz (by simpa using hl)) (fun i x y Q hx hy hQ => ?_) hd
  rw [List.getElem?_map] at hx hy
  cases e : ls[i]? with
  | none => rw [e] at hx; cases hx
  | some r =>
    rw [e] at hx hy
    cases hx
    cases hy
    exact hs r Q (List.mem_of_getElem? e) hQ
theorem cnt_le : ∀ {ms : List Int} {i : Nat} {x : Int}, ms.Pairwise (· ≤ ·) → ms[i]? = some x → (ms.filter fun y => decide (y < x)).length ≤ i
  | y :: r, 0, x, hs, e => by
    cases e
    have : (List.filter (fun z => decide (z < y)) (y :: r)) = [] := by
      rw [List.filter_eq_nil_iff]
      intro z hz
      rcases List.mem_cons.mp hz with rfl | hz
      · simp
      · have := (List.pairwise_cons.mp hs).1 z hz
        simp; omega
    rw [this]
    exact Nat.le_refl _
  | y :: r, i + 1, x, hs, e => by
    have ih := cnt_le (ms := r) (i := i) (x := x) (List.pairwise_cons.mp hs).2 e
    rw [List.filter_cons]
    split
    · rw [List.length_cons]; omega
    · omega
theorem cnt_at : ∀ {ms : List Int} {x : Int}, ms.Pairwise (· ≤ ·) → x ∈ ms → ms[(ms.filter fun y => decide (y < x)).length]? = some x
  | y :: r, x, hs, hx => by
    have hp := List.pairwise_cons.mp hs
    by_cases e : y = x
    · subst e
      have : (List.filter (fun z => decide (z < y)) (y :: r)) = [] := by
        rw [List.filter_eq_nil_iff]
        intro z hz
        rcases List.mem_cons.mp hz with rfl | hz
        · simp
        · have := hp.1 z hz
          simp; omega
      rw [this]
      rfl
    · have hx : x ∈ r := by
        rcases List.mem_cons.mp hx with h | h
        · exact absurd h.symm e
        · exact h
      have hlt : y < x := by have := hp.1 x hx; omega
      rw [List.filter_cons, if_pos (decide_eq_true hlt), List.length_cons]
      exact cnt_at (ms := r) hp.2 hx
/-- the greatest of the sorted levels, each less its place -/
theorem low_of {ls ms : List Int} {m : Int} (hp : ms.Perm ls) (hs : ms.Pairwise (· ≤ ·)) (hm : m ∈ ms.zipIdx.map fun p => p.1 - (p.2 : Int)) (hy : ∀ y, y ∈ (ms.zipIdx.map fun p => p.1 - (p.2 : Int)) → y ≤ m) : IsLow ls m := by
  have hc : ∀ l, cntB ls l = cntB ms l := fun l => by unfold cntB; rw [(hp.filter _).length_eq]
  have hin : ∀ (j : Nat) x, ms[j]? = some x → x - (j : Int) ∈ (ms.zipIdx.map fun p => p.1 - (p.2 : Int)) := fun j x e =>
    List.mem_map.mpr ⟨(x, j), List.mem_iff_getElem?.mpr ⟨j, by rw [List.getElem?_zipIdx, e]; simp⟩, rfl⟩
  have hlow : ∀ l ∈ ls, l - cntB ls l ≤ m := fun l hl => by
    rw [hc]
    exact hy _ (hin _ _ (cnt_at hs (hp.mem_iff.mpr hl)))
  obtain ⟨⟨x, i⟩, hz, rfl⟩ := List.mem_map.mp hm
  obtain ⟨k, hk⟩ := List.mem_iff_getElem?.mp hz
  rw [List.getElem?_zipIdx] at hk
  cases e : ms[k]? with
  | none => rw [e] at hk; simp at hk
  | some y =>
    rw [e] at hk
    have hk : y = x ∧ k = i := by simpa using hk
    obtain ⟨rfl, rfl⟩ := hk
    have hx := hp.mem_iff.mp (List.mem_of_getElem? e)
    refine ⟨⟨y, hx, ?_⟩, hlow⟩
    have h1 := hlow y hx
    have h2 := cnt_le hs e
    have h3 : cntB ls y ≤ (k : Int) := by rw [hc]; unfold cntB; omega
    show y - (k : Int) = y - cntB ls y
    have h1 : y - cntB ls y ≤ y - (k : Int) := h1
    omega
theorem low_one {ls : List Int} {m n : Int} (h : IsLow ls m) (h2 : IsLow ls n) : m = n := by
  obtain ⟨⟨l, hl, e⟩, a⟩ := h
  obtain ⟨⟨l2, hl2, e2⟩, a2⟩ := h2
  have := a _ hl2
  have := a2 _ hl
  omega
theorem lc_time {g : P → PEnv → (PEnv → Prop) → Prop} {te : WE} {vs : List Nat} {env : PEnv} {Q : P → Prop} {rs : List (Int × Str)} (hl : rs.length ≤ 1000000)
    (hs : ∀ r (Q : P → Prop), r ∈ rs → Q (.int r.1) → g (rowP r) (wipeP env vs) fun e => te e Q noX') (hd : Q (il (rs.map Prod.fst))) : LcB (rs.map rowP) g (fun _ Q _ => Q true) te vs env Q :=
  lc_rr (fun r => .int r.1) hl hs (by rw [show rs.map (fun r => P.int r.1) = (rs.map Prod.fst).map P.int by rw [List.map_map]; rfl]; exact hd)
/-- how many of the levels are h at most -/
def cntM (ls : List Int) (h : Int) : Int := ((ls.filter fun x => decide (x ≤ h)).length : Nat)
theorem cntM_B {ls : List Int} {l : Int} : cntM ls (l - 1) = cntB ls l := by
  unfold cntM cntB
  congr 2
  refine List.filter_congr fun x _ => ?_
  rw [Bool.eq_iff_iff, decide_eq_true_eq, decide_eq_true_eq]
  omega
theorem cntM_rows {rs : List (Int × Str)} {h : Int} : (((rs.filter fun r => decide (r.1 ≤ h)).length : Nat) : Int) = cntM (rs.map Prod.fst) h := by
  unfold cntM
  rw [List.filter_map, List.length_map]
  rfl
/-- t is the greatest -/
def IsTop (ls : List Int) (t : Int) : Prop := t ∈ ls ∧ ∀ l ∈ ls, l ≤ t
/-- h is the greatest height below the top that shows the low end -/
structure Shows (ls : List Int) (t low h : Int) : Prop where
  lt : h ≤ t - 1
  eq : h + 1 - cntM ls h = low
  no : ∀ g, h < g → g ≤ t - 1 → g + 1 - cntM ls g ≠ low
theorem shows_one {ls : List Int} {t low h g : Int} (a : Shows ls t low h) (b : Shows ls t low g) : h = g := by
  by_cases h1 : h < g
  · exact absurd b.eq (a.no g h1 b.lt)
  · by_cases h2 : g < h
    · exact absurd a.eq (b.no h h2 a.lt)
    · omega
/-- there is one, not far below the top -/
theorem shows_ex {ls : List Int} {t low : Int} (hl : IsLow ls low) (ht : IsTop ls t) : ∃ h, h ≤ t - 1 ∧ t - 1 - (ls.length : Int) ≤ h ∧ h + 1 - cntM ls h = low := by
  obtain ⟨⟨l, hm, e⟩, a⟩ := hl
  have h1 := ht.2 l hm
  have h2 := a t ht.1
  have h3 : cntB ls t ≤ ls.length := by unfold cntB; have := List.length_filter_le (fun x => decide (x < t)) ls; omega
  have h4 : 0 ≤ cntB ls l := by unfold cntB; omega
  exact ⟨l - 1, by omega, by omega, by rw [cntM_B]; omega⟩
theorem cntB_perm {ls ms : List Int} (h : ls.Perm ms) (l : Int) : cntB ls l = cntB ms l := by unfold cntB; rw [(h.filter _).length_eq]
theorem cntM_perm {ls ms : List Int} (h : ls.Perm ms) (l : Int) : cntM ls l = cntM ms l := by unfold cntM; rw [(h.filter _).length_eq]
theorem IsLow.perm {ls ms : List Int} {m : Int} (a : IsLow ls m) (h : ls.Perm ms) : IsLow ms m := by
  obtain ⟨⟨l, hl, e⟩, b⟩ := a
  exact ⟨⟨l, h.mem_iff.mp hl, by rw [← cntB_perm h]; exact e⟩, fun l hl => by rw [← cntB_perm h]; exact b l (h.mem_iff.mpr hl)⟩
theorem IsTop.perm {ls ms : List Int} {m : Int} (a : IsTop ls m) (h : ls.Perm ms) : IsTop ms m := ⟨h.mem_iff.mp a.1, fun l hl => a.2 l (h.mem_iff.mpr hl)⟩
theorem Shows.perm {ls ms : List Int} {t low g : Int} (a : Shows ls t low g) (h : ls.Perm ms) : Shows ms t low g :=
  ⟨a.lt, by rw [← cntM_perm h]; exact a.eq, fun f x y => by rw [← cntM_perm h]; exact a.no f x y⟩
theorem top_one {ls : List Int} {t u : Int} (a : IsTop ls t) (b : IsTop ls u) : t = u := by
  have := a.2 u b.1
  have := b.2 t a.1
  omega
/-- the low end lies from the least level to the top, and not far below the top -/
theorem low_ge {ls : List Int} {m mn : Int} (a : IsLow ls m) (h1 : mn ∈ ls) (h2 : ∀ l ∈ ls, mn ≤ l) : mn ≤ m := by
  have h := a.2 mn h1
  have : cntB ls mn = 0 := by
    unfold cntB
    have : (ls.filter fun x => decide (x < mn)) = [] := by
      rw [List.filter_eq_nil_iff]
      intro x hx
      have := h2 x hx
      simp; omega
    rw [this]
    rfl
  omega
theorem low_near {ls : List Int} {m t : Int} (a : IsLow ls m) (h : IsTop ls t) : t - (ls.length : Int) + 1 ≤ m := by
  have h1 := a.2 t h.1
  have : cntB ls t < (ls.length : Int) := by
    unfold cntB
    have : (ls.filter fun x => decide (x < t)).length < ls.length := List.length_filter_lt_length_iff_exists.mpr ⟨t, h.1, by simp⟩
    omega
  omega
/-- a sheaf of these rows, whole -/
structure ShfOk (rs : List (Int × Str)) (t b : Int) : Prop where
  ln0 : 0 < rs.length
  ln1 : rs.length ≤ 1000
  top : IsTop (rs.map Prod.fst) t
  sh : ∀ l ∈ rs.map Prod.fst, -100000 ≤ l ∧ l ≤ 100000

theorem pow_nat {w : Int} {n : Nat} (h : 0 ≤ w) : ∃ k : Nat, w = (k : Int) ∧ (w + 1) ^ n = (((k + 1) ^ n : Nat) : Int) := by
  obtain ⟨k, rfl⟩ := Int.eq_ofNat_of_zero_le h
  exact ⟨k, rfl, by push_cast; rfl⟩
theorem capI_nn {t e w : Int} (h : 0 ≤ w) : 0 ≤ capI t e w := by
  unfold capI
  split
  · exact Int.le_refl _
  · obtain ⟨k, _, e⟩ := pow_nat (n := (t - e).toNat) h
    rw [e]
    exact Int.natCast_nonneg _
theorem sum_ge {xs : List Int} {x : Int} (hx : x ∈ xs) (h : ∀ y ∈ xs, 0 ≤ y) : x ≤ xs.sum := by
  induction xs with
  | nil => cases hx
  | cons y ys ih =>
    have hy := h y List.mem_cons_self
    have hs : 0 ≤ ys.sum := by
      clear ih hx
      induction ys with
      | nil => simp
      | cons z zs ih2 =>
        have hz := h z (by simp)
        have := ih2 (fun a ha => h a (by rcases List.mem_cons.mp ha with rfl | ha <;> simp_all))
        rw [List.sum_cons]
        omega
    rw [List.sum_cons]
    rcases List.mem_cons.mp hx with rfl | hx
    · omega
    · have := ih hx fun a ha => h a (List.mem_cons_of_mem _ ha)
      omega
/-- what levels can stand for at the end e -/
def capS (ls : List Int) (e w : Int) : Int := (ls.map fun l => capI l e w).sum
theorem perm_sum {xs ys : List Int} (h : xs.Perm ys) : xs.sum = ys.sum := by
  induction h with
  | nil => rfl
  | cons x _ ih => rw [List.sum_cons, List.sum_cons, ih]
  | swap x y l => rw [List.sum_cons, List.sum_cons, List.sum_cons, List.sum_cons]; omega
  | trans _ _ a b => rw [a, b]
theorem capS_perm {ls ms : List Int} (h : ls.Perm ms) (e w : Int) : capS ls e w = capS ms e w := perm_sum (h.map _)
theorem high_ex {ls : List Int} {t w : Int} {d : Nat} (ht : IsTop ls t) (hw : 1 ≤ w) (hn : ls.length ≤ d) : (ls.length : Int) ≤ capS ls (t - (d : Int)) w := by
  have h1 : capI t (t - (d : Int)) w ≤ capS ls (t - (d : Int)) w := sum_ge (List.mem_map.mpr ⟨t, ht.1, rfl⟩) fun y hy => by
    obtain ⟨l, _, rfl⟩ := List.mem_map.mp hy
    exact capI_nn (by omega)
  have h2 : (d : Int) ≤ capI t (t - (d : Int)) w := by
    unfold capI
    rw [if_neg (by omega), show (t - (t - (d : Int))).toNat = d by omega]
    obtain ⟨k, e1, e⟩ := pow_nat (w := w) (n := d) (by omega)
    rw [e]
    have h3 : 2 ^ d ≤ (k + 1) ^ d := Nat.pow_le_pow_left (by omega) d
    have h4 : d < 2 ^ d := Nat.lt_two_pow_self
    omega
  omega
/-- h is the greatest end that the sheaf can have -/
structure IsHigh (ls : List Int) (t w h : Int) : Prop where
  le : h ≤ t
  eq : (ls.length : Int) ≤ capS ls h w
  no : ∀ e, h < e → e ≤ t → capS ls e w < (ls.length : Int)
theorem high_one {ls : List Int} {t w h g : Int} (a : IsHigh ls t w h) (b : IsHigh ls t w g) : h = g := by
  by_cases h1 : h < g
  · have := a.no g h1 b.le; have := b.eq; omega
  · by_cases h2 : g < h
    · have := b.no h h2 a.le; have := a.eq; omega
    · omega
theorem IsHigh.perm {ls ms : List Int} {t w h : Int} (a : IsHigh ls t w h) (p : ls.Perm ms) : IsHigh ms t w h :=
  ⟨a.le, by rw [← capS_perm p, ← p.length_eq]; exact a.eq, fun e x y => by rw [← capS_perm p, ← p.length_eq]; exact a.no e x y⟩
theorem low_le {ls : List Int} {m t : Int} (a : IsLow ls m) (h : IsTop ls t) : m ≤ t := by
  obtain ⟨⟨l, hl, e⟩, _⟩ := a
  have := h.2 l hl
  have : 0 ≤ cntB ls l := by unfold cntB; omega
  omega
theorem high_near {ls : List Int} {t w h : Int} (a : IsHigh ls t w h) (ht : IsTop ls t) (hw : 1 ≤ w) : t - (ls.length : Int) ≤ h := by
  by_cases hc : h < t - (ls.length : Int)
  · have h1 := high_ex (d := ls.length) ht hw (Nat.le_refl _)
    have h2 := a.no _ hc (by omega)
    omega
  · omega
theorem cntB_cons {y l : Int} {r : List Int} : cntB (y :: r) l = (if y < l then 1 else 0) + cntB r l := by
  unfold cntB
  rw [List.filter_cons]
  by_cases h : y < l
  · rw [if_pos (decide_eq_true h), if_pos h, List.length_cons]; omega
  · rw [if_neg (by simpa using h), if_neg h]; omega
theorem sum_cnt {l : Int} {g : Int → Int} (hg : ∀ x, (if x < l then 0 else 1) ≤ g x) : ∀ ls : List Int, (ls.length : Int) - cntB ls l ≤ (ls.map g).sum
  | [] => by simp [cntB]
  | y :: r => by
    have ih := sum_cnt hg r
    have h := hg y
    rw [List.map_cons, List.sum_cons, cntB_cons, List.length_cons]
    split at h <;> rename_i hc
    · rw [if_pos hc]; omega
    · rw [if_neg hc]; omega
theorem sum_cnt2 {l c : Int} {g : Int → Int} (hg : ∀ x, (if x < l then 0 else 1) ≤ g x) (hl : c + 1 ≤ g l) : ∀ ls : List Int, l ∈ ls → (ls.length : Int) - cntB ls l + c ≤ (ls.map g).sum
  | y :: r, hm => by
    have h := hg y
    rw [List.map_cons, List.sum_cons, cntB_cons, List.length_cons]
    by_cases e : y = l
    · subst e
      have ih := sum_cnt hg r
      rw [if_neg (by omega)]
      omega
    · have hm : l ∈ r := by
        rcases List.mem_cons.mp hm with h | h
        · exact absurd h.symm e
        · exact h
      have ih := sum_cnt2 hg hl r hm
      split at h <;> rename_i hc
      · rw [if_pos hc]; omega
      · rw [if_neg hc]; omega
/-- the high end is never below the low end -/
theorem low_high {ls : List Int} {t w h low : Int} (a : IsLow ls low) (b : IsHigh ls t w h) (ht : IsTop ls t) (hw : 1 ≤ w) : low ≤ h := by
  by_cases hc : h < low
  · have h1 := b.no low hc (low_le a ht)
    obtain ⟨⟨l, hl, e⟩, _⟩ := a
    have hcn : 0 ≤ cntB ls l := by unfold cntB; omega
    have hg : ∀ x, (if x < l then 0 else 1) ≤ capI x low w := fun x => by
      split
      · exact capI_nn (by omega)
      · rename_i hx
        unfold capI
        rw [if_neg (by omega)]
        obtain ⟨k, e1, e2⟩ := pow_nat (w := w) (n := (x - low).toNat) (by omega)
        rw [e2]
        have h3 : 1 ^ (x - low).toNat ≤ (k + 1) ^ (x - low).toNat := Nat.pow_le_pow_left (by omega) _
        rw [Nat.one_pow] at h3
        omega
    have hlc : cntB ls l + 1 ≤ capI l low w := by
      unfold capI
      rw [if_neg (by omega)]
      obtain ⟨k, e1, e2⟩ := pow_nat (w := w) (n := (l - low).toNat) (by omega)
      rw [e2]
      have h3 : 2 ^ (l - low).toNat ≤ (k + 1) ^ (l - low).toNat := Nat.pow_le_pow_left (by omega) _
      have h4 : (l - low).toNat < 2 ^ (l - low).toNat := Nat.lt_two_pow_self
      omega
    have := sum_cnt2 hg hlc ls hl
    unfold capS at h1
    omega
  · omega

end Pf

namespace Pf
open PySem PySem.Spec PyProof.Rows L2
/-! ### the ends, as numbers of the levels -/
/-- the low end -/
def lowI (ls : List Int) : Int := maxI (ls.map fun l => l - cntB ls l)
theorem lowI_is {ls : List Int} (h : 0 < ls.length) : IsLow ls (lowI ls) := by
  have hl : 0 < (ls.map fun l => l - cntB ls l).length := by rw [List.length_map]; exact h
  obtain ⟨l, hl, e⟩ := List.mem_map.mp (maxI_mem hl)
  exact ⟨⟨l, hl, e.symm⟩, fun l hl => le_maxI (List.mem_map.mpr ⟨l, hl, rfl⟩)⟩
theorem lowI_eq {ls : List Int} {m : Int} (h : IsLow ls m) : lowI ls = m := by
  obtain ⟨l, hl, _⟩ := h.1
  exact low_one (lowI_is (List.length_pos_of_mem hl)) h
theorem lowI_perm {ls ms : List Int} (h : ls.Perm ms) : lowI ls = lowI ms := by
  cases ls with
  | nil => rw [h.nil_eq]
  | cons a l => exact (lowI_eq ((lowI_is (by rw [← h.length_eq]; simp)).perm h.symm))
theorem maxI_top {ls : List Int} (h : 0 < ls.length) : IsTop ls (maxI ls) := ⟨maxI_mem h, fun _ h => le_maxI h⟩
/-- the high end: some end below the top is one, the greatest is searched from the top -/
def highFrom (ls : List Int) (w t : Int) : Nat → Int
  | 0 => t
  | n + 1 => if (ls.length : Int) ≤ capS ls t w then t else highFrom ls w (t - 1) n
def highI (ls : List Int) (w : Int) : Int := highFrom ls w (maxI ls) ls.length
theorem highFrom_is {ls : List Int} {w : Int} : ∀ (n : Nat) (t top : Int), (ls.length : Int) ≤ capS ls (t - (n : Int)) w → t ≤ top → (∀ e, t < e → e ≤ top → capS ls e w < (ls.length : Int)) → IsHigh ls top w (highFrom ls w t n)
  | 0, t, top, h, ht, hn => ⟨ht, by simpa [highFrom] using h, hn⟩
  | n + 1, t, top, h, ht, hn => by
    unfold highFrom
    split
    · rename_i hc
      exact ⟨ht, hc, hn⟩
    · rename_i hc
      refine highFrom_is n (t - 1) top (by rw [show t - 1 - (n : Int) = t - ((n + 1 : Nat) : Int) by omega]; exact h) (by omega) fun e h1 h2 => ?_
      by_cases he : e = t
      · rw [he]; omega
      · exact hn e (by omega) h2
theorem highI_is {ls : List Int} {w : Int} (h : 0 < ls.length) (hw : 1 ≤ w) : IsHigh ls (maxI ls) w (highI ls w) :=
  highFrom_is _ _ _ (high_ex (maxI_top h) hw (Nat.le_refl _)) (Int.le_refl _) fun e h1 h2 => absurd h1 (by omega)
theorem highI_eq {ls : List Int} {w h : Int} (hw : 1 ≤ w) (hh : IsHigh ls (maxI ls) w h) (h0 : 0 < ls.length) : highI ls w = h := high_one (highI_is h0 hw) hh
theorem highI_perm {ls ms : List Int} {w : Int} (hw : 1 ≤ w) (h : ls.Perm ms) : highI ls w = highI ms w := by
  cases ls with
  | nil => rw [h.nil_eq]
  | cons a l =>
    refine highI_eq hw ?_ (by simp)
    have := (highI_is (ls := ms) (by rw [← h.length_eq]; simp) hw).perm h.symm
    rwa [← maxI_perm h] at this
/-- the height that shows the low end -/
def showFrom (ls : List Int) (low h : Int) : Nat → Int
  | 0 => h
  | n + 1 => if h + 1 - cntM ls h = low then h else showFrom ls low (h - 1) n
def showI (ls : List Int) : Int := showFrom ls (lowI ls) (maxI ls - 1) ls.length
theorem showFrom_is {ls : List Int} {low t : Int} : ∀ (n : Nat) (h : Int), (∃ g, g ≤ h ∧ h - (n : Int) ≤ g ∧ g + 1 - cntM ls g = low) → h ≤ t - 1 → (∀ g, h < g → g ≤ t - 1 → g + 1 - cntM ls g ≠ low) → Shows ls t low (showFrom ls low h n)
  | 0, h, ⟨g, g1, g2, g3⟩, ht, hn => by
    have : g = h := by omega
    subst this
    exact ⟨ht, g3, hn⟩
  | n + 1, h, ⟨g, g1, g2, g3⟩, ht, hn => by
    unfold showFrom
    split
    · rename_i hc
      exact ⟨ht, hc, hn⟩
    · rename_i hc
      have hg : g ≠ h := fun e => hc (by rw [← e]; exact g3)
      refine showFrom_is n (h - 1) ⟨g, by omega, by omega, g3⟩ (by omega) fun e h1 h2 => ?_
      by_cases he : e = h
      · rw [he]; exact hc
      · exact hn e (by omega) h2
theorem showI_is {ls : List Int} (h : 0 < ls.length) : Shows ls (maxI ls) (lowI ls) (showI ls) := by
  obtain ⟨g, h1, h2, h3⟩ := shows_ex (lowI_is h) (maxI_top h)
  exact showFrom_is _ _ ⟨g, h1, h2, h3⟩ (Int.le_refl _) fun g h1 h2 => absurd h1 (by omega)
theorem showI_perm {ls ms : List Int} (h : ls.Perm ms) : showI ls = showI ms := by
  cases ls with
  | nil => rw [h.nil_eq]
  | cons a l =>
    have a1 := (showI_is (ls := a :: l) (by simp)).perm h
    have a2 := showI_is (ls := ms) (by rw [← h.length_eq]; simp)
    rw [maxI_perm h, lowI_perm h] at a1
    exact shows_one a1 a2
/-- rows of which a sheaf can be made -/
def okR (rs : List (Int × Str)) : Prop := rs ≠ [] ∧ fb rs < 0
instance {rs : List (Int × Str)} : Decidable (okR rs) := inferInstanceAs (Decidable (_ ∧ _))
theorem GoodR.ok {rs : List (Int × Str)} {n : Nat} {lo hi : Int} (h : GoodR rs n lo hi) (hn : 1 ≤ n) : okR rs :=
  ⟨fun e => by rw [e] at h; have := h.ln; simp at this; omega, by rw [fb_none fun j q2 hq2 => h.rc q2 (List.mem_of_getElem? hq2)]; decide⟩
theorem noX_f {C : Addr} {ns : List Str} {xs : List P} : noX C ns xs = False := rfl
theorem noX'_f {C : Addr} {ns : List Str} {xs : List P} : noX' C ns xs = False := rfl
/-! ### drawn numbers, names -/
theorem InB.bd {ds ss : List Int} (h : InB ds ss) {k : Nat} {s : Int} (e : ss[k]? = some s) : 0 ≤ gx ds (k : Int) ∧ gx ds (k : Int) < s := by
  obtain ⟨d, e1, e2, e3⟩ := h.at e
  rw [gx_nn (by omega), Int.toNat_natCast, e1]
  exact ⟨e2, e3⟩
end Pf

namespace Pf
open PySem PySem.Spec PyProof.Rows L2
section
variable {K : PySem.W.Frag} {W : WX} {k : Rk} {ro : Bool}
/-! #### what is never reached -/
def wNever : WS := fun _ _ => False
theorem ss_never {t : TS} : SS K W ro t wNever := fun _ _ _ _ _ _ _ _ _ h => h.elim
theorem ap_never {D : PEnds} {env : PEnv} : (wNever D env) = False := rfl
/-! #### list(d) -/
def keyV : Key → P
  | .inl n => .int n
  | .inr z => .str z
def fListD : PFn := fun xs Q => match xs with
  | [.dct ks _] => (∀ z, Sum.inr z ∈ ks → SOk z) ∧ Q (.lst (ks.map keyV))
  | _ => False
theorem keyV_rl {F : Hp} : ∀ {ks : List Key}, (∀ z, Sum.inr z ∈ ks → SOk z) → RL K F (ks.map kV) (ks.map keyV)
  | [], _ => .nil
  | .inl n :: ks, h => .cons (.int n) (keyV_rl fun z hz => h z (List.mem_cons_of_mem _ hz))
  | .inr z :: ks, h => .cons (.str (h z List.mem_cons_self)) (keyV_rl fun z hz => h z (List.mem_cons_of_mem _ hz))
theorem zip_keys {ks : List Key} {vs : List V} (l : ks.length = vs.length) : (ks.zip vs).map (fun kv => kV kv.1) = ks.map kV := by
  rw [show (fun kv : Key × V => kV kv.1) = kV ∘ Prod.fst from rfl, ← List.map_map, zip_fst l]
theorem cs_listD {m : Mo} : CallS K .O [m] (fun xs H Q => ∃ (a : Addr) (kvs : List (Key × V)), xs = [.ref a] ∧ Rd H a (.dK kvs) ∧ ∀ p, H p = none → Q (.ref p) (upd H p (.lst (kvs.map fun kv => kV kv.1)))) fListD := fun F H vs xs Qp Q s r h q => by
  obtain ⟨v, x, rfl, rfl, t⟩ := AL.one r
  unfold fListD at h
  split at h
  · rename_i ks ys e
    cases e
    obtain ⟨a, ws, rfl, ha, l, rl⟩ := Tp.dct s t
    refine ⟨a, _, rfl, ha, fun p np => ?_⟩
    rw [zip_keys l]
    exact q F _ _ (.lst (ks.map keyV)) (mv_new s np) (.inl ⟨p, _, rfl, np, same_free s np, upd_same, .l (keyV_rl h.1)⟩) h.2
  · exact h.elim
/-! #### dict(d) -/
def fDictD : PFn := fun xs Q => match xs with
  | [.dct ks xs] => Q (.dct ks xs)
  | _ => False
theorem cs_dictD {m : Mo} : CallS K .O [m] (fun xs H Q => ∃ (a : Addr) (kvs : List (Key × V)), xs = [.ref a] ∧ Rd H a (.dK kvs) ∧ ∀ p, H p = none → Q (.ref p) (upd H p (.dK kvs))) fDictD := fun F H vs xs Qp Q s r h q => by
  obtain ⟨v, x, rfl, rfl, t⟩ := AL.one r
  unfold fDictD at h
  split at h
  · rename_i ks ys e
    cases e
    obtain ⟨a, ws, rfl, ha, l, rl⟩ := Tp.dct s t
    exact ⟨a, _, rfl, ha, fun p np => q F _ _ (.dct ks ys) (mv_new s np) (.inl ⟨p, _, rfl, np, same_free s np, upd_same, .d l rl⟩) h⟩
  · exact h.elim
/-! #### xs[::-1] -/
theorem RL.rev {F : Hp} : ∀ {vs : List V} {xs : List P}, RL K F vs xs → RL K F vs.reverse xs.reverse
  | _, _, .nil => .nil
  | _, _, .cons h r => by rw [List.reverse_cons, List.reverse_cons]; exact (RL.rev r).app (.cons h .nil)
def wRevL (a : WE) : WE := fun env Q X => a env (fun x => onLst x fun xs => Q (.lst xs.reverse)) X
theorem se_revL {t : TE} {a : WE} (h : SE K W .C t a) : SE K W .O (tRevL K t) (wRevL a) := fun F0 H0 σ F H env Qp Xp Q g hw hx q =>
  h F0 H0 σ F H env _ Xp _ g hw hx fun F1 H1 v x m r h1 => by
    obtain ⟨xs, b, vs, rfl, rfl, hb, r, h1⟩ := onLst_of m.fh r h1
    exact ⟨b, vs, rfl, SqL.of hb, fun p np => q F1 _ _ (.lst xs.reverse) (m.trans (mv_new m.fh np)) (.inl ⟨p, _, rfl, m.s.free np, same_free m.fh np, upd_same, .l r.rev⟩) h1⟩
theorem ap_revL {a : WE} {env : PEnv} {Q : P → Prop} {X : XP} : (wRevL a env Q X) = (a env (fun x => onLst x fun xs => Q (.lst xs.reverse)) X) := rfl
/-! #### xs.remove(n) -/
def wRem (i : Nat) (w : WE) : WS := fun D env => ownL env i fun xs => w env (fun x => ∃ (ns : List Int) (k : Int), x = .int k ∧ xs = ns.map P.int ∧ k ∈ ns ∧ D.nx (env.set i (some (.o, .lst ((ns.erase k).map P.int))))) (D.ex env)
theorem RL.ints' {F : Hp} {ns : List Int} {vs : List V} {xs : List P} (r : RL K F vs xs) (e : xs = ns.map P.int) : vs = ns.map V.int := by subst e; exact r.ints
theorem erase_idx {ns : List Int} {k : Int} (h : k ∈ ns) : ∃ j, ns[j]? = some k ∧ (∀ m < j, ns[m]? ≠ some k) ∧ ns.eraseIdx j = ns.erase k := by
  induction ns with
  | nil => cases h
  | cons n ns ih =>
    by_cases e : n = k
    · subst e
      exact ⟨0, rfl, fun m hm => absurd hm (Nat.not_lt_zero _), by simp⟩
    · have h : k ∈ ns := by
        rcases List.mem_cons.mp h with h | h
        · exact absurd h.symm e
        · exact h
      obtain ⟨j, h1, h2, h3⟩ := ih h
      refine ⟨j + 1, by simpa using h1, fun m hm => ?_, ?_⟩
      · cases m with
        | zero => simpa using e
        | succ m => simpa using h2 m (by omega)
      · rw [List.eraseIdx_cons_succ, h3, List.erase_cons_tail (by simpa using e)]
theorem ss_rem {i : Nat} {t : TE} {w : WE} (h : SE K W .C t w) : SS K W ro (tDrop (tBM K "list" rRemI (tVar i) (tCons t tNil))) (wRem i w) := fun F0 H0 σ F H env Dp D g hw d x => by
  obtain ⟨xs, a, vs, e, hs, ha, r, hw⟩ := ownL_of g hw
  refine ⟨.ref a, hs, .inl ⟨rfl, vs, SqL.of ha⟩, ?_⟩
  refine h F0 H0 σ F H env _ _ _ g hw (x.x g) fun F1 H1 v y m ry q => ?_
  obtain ⟨ns, k, rfl, ex, hk, q⟩ := q
  obtain rfl := ry.int
  obtain rfl := r.ints' ex
  obtain ⟨j, h1, h2, h3⟩ := erase_idx hk
  exact ⟨a, ns, k, j, rfl, rfl, m.s _ _ ha, h1, h2, d.1 σ F1 _ _ ((g.mv m).put e hs (.l (by rw [h3]; exact .of_ints))) q⟩
theorem ap_rem {i : Nat} {w : WE} {D : PEnds} {env : PEnv} : (wRem i w D env) = (ownL env i fun xs => w env (fun x => ∃ (ns : List Int) (k : Int), x = .int k ∧ xs = ns.map P.int ∧ k ∈ ns ∧ D.nx (env.set i (some (.o, .lst ((ns.erase k).map P.int))))) (D.ex env)) := rfl
theorem ap_remI {xs : List P} {ns : List Int} [h : EL P.int xs ns] {k : Int} {Q : List Int → Int → Prop} : (∃ (ms : List Int) (j : Int), P.int k = .int j ∧ xs = ms.map P.int ∧ j ∈ ms ∧ Q ms j) = (k ∈ ns ∧ Q ns k) := by
  rw [h.eq]
  refine propext ⟨fun ⟨ms, j, e, e2, h1, h2⟩ => ?_, fun ⟨h1, h2⟩ => ⟨ns, k, rfl, rfl, h1, h2⟩⟩
  cases e
  rw [int_inj] at e2
  subst e2
  exact ⟨h1, h2⟩
/-! #### xs.index(n) -/
def fIndex : PMt := fun x xs Q => ∃ (ns : List Int) (k : Int), x = .lst (ns.map P.int) ∧ xs = [.int k] ∧ k ∈ ns ∧ Q (.int (ns.idxOf k : Nat))
theorem ms_index {m : Mo} : MtS K .V [m] (rIndex K) fIndex := fun F H v vs x xs Qp Q s r r' ⟨ns, k, e1, e2, hk, h⟩ q => by
  obtain ⟨w, y, rfl, rfl, t⟩ := AL.one r'
  cases e2
  subst e1
  obtain rfl := t.int
  obtain ⟨a, ws, rfl, ha, rl⟩ := Tp.lst s r
  obtain rfl := rl.ints
  have hl : ns.idxOf k < ns.length := List.idxOf_lt_length_iff.mpr hk
  refine ⟨a, _, .int k, ns.idxOf k, .int k, rfl, rfl, SqL.of ha, rfl, ?_, ?_, ?_, fun m z' hm hz => ?_, q F H _ _ (.refl s) (R.int _) h⟩
  · rw [List.all_eq_true]
    intro x hx
    obtain ⟨n, _, rfl⟩ := List.mem_map.mp hx
    rfl
  · rw [List.getElem?_map, List.getElem?_eq_getElem hl, List.getElem_idxOf hl]; rfl
  · simp [eqV]
  · rw [List.getElem?_map, List.getElem?_eq_getElem (by omega)] at hz
    cases hz
    have : ns[m] ≠ k := fun e => by
      have h2 := List.not_of_lt_findIdx (p := (· == k)) (xs := ns) (i := m) hm
      rw [e] at h2
      simp at h2
    simp [eqV, this]
theorem aq_index {xs : List P} {l : List Int} [h : ML xs Int P.int l] {k : Int} {Q : P → Prop} : (fIndex (.lst xs) [.int k] Q) = (k ∈ l ∧ Q (.int (l.idxOf k : Nat))) := by
  unfold fIndex
  rw [h.eq]
  refine propext ⟨fun ⟨ms, j, e, e2, h1, h2⟩ => ?_, fun ⟨h1, h2⟩ => ⟨l, k, rfl, rfl, h1, h2⟩⟩
  simp only [P.lst.injEq, int_inj] at e
  cases e2
  subst e
  exact ⟨h1, h2⟩
/-! #### text.find(text) -/
def fFind : PMt := fun x xs Q => match x, xs with
  | .str a, [.str b] => Q (.int (Txt.find a b))
  | _, _ => False
theorem ms_find {m : Mo} : MtS K .V [m] (fun x xs H Q => ∃ a b, x = .str a ∧ xs = [.str b] ∧ Q (.int (Txt.find a b)) H) fFind := fun F H v vs x xs Qp Q s r r' h q => by
  obtain ⟨w, y, rfl, rfl, t⟩ := AL.one r'
  unfold fFind at h
  split at h
  · rename_i a b e
    cases e
    obtain ⟨rfl, sa⟩ := r.str
    obtain ⟨rfl, sb⟩ := t.str
    exact ⟨a, b, rfl, rfl, q F H _ _ (.refl s) (R.int _) h⟩
  · exact h.elim
theorem ap_find {a b : Str} {Q : P → Prop} : (fFind (.str a) [.str b] Q) = Q (.int (Txt.find a b)) := rfl
/-! #### list(range(a, b, c)) -/
def rgCV (a c : Int) (n : Nat) : List V := (List.range n).map fun i => V.int (a + (i : Nat) * c)
def tLstRg3 (ta tb tc : TE) : TE := fun σ H Q => ta σ H fun x H1 => tb σ H1 fun y H2 => tc σ H2 fun z H3 => ∃ i j c n, x = .int i ∧ y = .int j ∧ z = .int c ∧ RgC i j c n ∧ n ≤ 2 ^ 24 ∧ ∀ q, H3 q = none → Q (.ref q) (upd H3 q (.lst (rgCV i c n)))
def wLRg3 (a b c : WE) : WE := fun env Q X => a env (fun x => b env (fun y => c env (fun z => onInt x fun i => onInt y fun j => onInt z fun k => ∃ n, RgC i j k n ∧ n ≤ 2 ^ 24 ∧ Q (.lst (rngC i k n))) X) X) X
theorem rl_rngC {F : Hp} {i c : Int} {n : Nat} : RL K F (rgCV i c n) (rngC i c n) := by
  unfold rgCV rngC
  generalize List.range n = l
  induction l with
  | nil => exact .nil
  | cons n l ih => exact .cons (.int _) ih
theorem se_lrg3 {ta tb tc : TE} {a b c : WE} (h : SE K W .C ta a) (h' : SE K W .C tb b) (h2 : SE K W .C tc c) : SE K W .O (tLstRg3 ta tb tc) (wLRg3 a b c) := fun F0 H0 σ F H env Qp Xp Q g hw hx q =>
  h F0 H0 σ F H env _ Xp _ g hw hx fun F1 H1 v x m1 r1 h1 => h' F0 H0 σ F1 H1 env _ Xp _ (g.mv m1) h1 (hx.mv m1) fun F2 H2 w y m2 r2 h2' =>
    h2 F0 H0 σ F2 H2 env _ Xp _ ((g.mv m1).mv m2) h2' ((hx.mv m1).mv m2) fun F3 H3 u z m3 r3 h3 => by
      obtain ⟨i, rfl, rfl, h3⟩ := onInt_of (Tp.mv m3 (Tp.mv m2 r1)) h3
      obtain ⟨j, rfl, rfl, h3⟩ := onInt_of (Tp.mv m3 r2) h3
      obtain ⟨k, rfl, rfl, n, h4, h5, h3⟩ := onInt_of r3 h3
      have m := (m1.trans m2).trans m3
      exact ⟨i, j, k, n, rfl, rfl, rfl, h4, h5, fun p np => q F3 _ _ (.lst (rngC i k n)) (m.trans (mv_new m.fh np)) (.inl ⟨p, _, rfl, m.s.free np, same_free m.fh np, upd_same, .l rl_rngC⟩) h3⟩
theorem ap_lrg3 {a b c : WE} {env : PEnv} {Q : P → Prop} {X : XP} : (wLRg3 a b c env Q X) = (a env (fun x => b env (fun y => c env (fun z => onInt x fun i => onInt y fun j => onInt z fun k => ∃ n, RgC i j k n ∧ n ≤ 2 ^ 24 ∧ Q (.lst (rngC i k n))) X) X) X) := rfl
end
section
variable {X : Cx} {a b c : Expr} {ta tb tc : TE}
theorem pe_listRg3 {p pos p2 pos2 : Pos} (hc : X.calm = true) (hg : Gl X "list") (hm : X.mg "list" = none) (hg2 : Gl X "range") (hm2 : X.mg "range" = none) (ha : PE X a ta) (hb : PE X b tb) (hc3 : PE X c tc)
    (na : starEach [Expr.Call (.Name "range" p2) [a, b, c] [] pos2] X.env = (false, eval (Expr.Call (.Name "range" p2) [a, b, c] [] pos2) X.env) :: starEach [] X.env := by rfl)
    (n1 : starEach [a, b, c] X.env = (false, eval a X.env) :: starEach [b, c] X.env := by rfl) (n2 : starEach [b, c] X.env = (false, eval b X.env) :: starEach [c] X.env := by rfl) (n3 : starEach [c] X.env = (false, eval c X.env) :: starEach [] X.env := by rfl)
    (hp : (backTo pos2 (starEach [b, c] X.env)).any (·.1) = false := by rfl) (hp2 : (backTo pos2 (starEach [c] X.env)).any (·.1) = false := by rfl) :
    PE X (.Call (.Name "list" p) [.Call (.Name "range" p2) [a, b, c] [] pos2] [] pos) (tLstRg3 ta tb tc) := by
  refine ⟨fun pins s σ H Q I h => ?_⟩
  have inner : wpAny (model X.prog X.w) X.A (eval (Expr.Call (.Name "range" p2) [a, b, c] [] pos2) X.env) (fun x s' => ∃ r i j k t u v n H', x = .ref r ∧ IsRange s'.heap r i j k t u v ∧ RgC i j k n ∧ Inv X pins σ H' s' ∧ n ≤ 2 ^ 24 ∧ ∀ q, H' q = none → Q (.ref q) (upd H' q (.lst (rgCV i k n)))) X.xe s := by
    refine Call_ (ld_blt I hg2 hm2 boot_range (PyProof.Rows.callWith_type1 (args_cons (thn (ha.run pins s σ H _ I h) fun v s1 ⟨x, H1, I1, r1, q1⟩ => args_cons (thn (hb.run pins s1 σ H1 _ I1 q1) fun w s2 ⟨y, H2, I2, r2, q2⟩ => one_arg hc3 I2 q2 (fun u s3 z H3 I3 r3 q => ?_) n3) n2) n1) n1 hp))
    obtain ⟨i, j, k, n, rfl, rfl, rfl, ⟨c0, c1, c2, c3⟩, hn, q⟩ := q
    obtain ⟨t, rfl⟩ := r1
    obtain ⟨t', rfl⟩ := r2
    obtain ⟨t'', rfl⟩ := r3
    refine call_range_3 c0 ?_ (.inl (PyProof.noPylong_small c1))
    exact ⟨_, i, j, k, _, _, _, n, H3, rfl, IsRange.new .., ⟨c0, c1, c2, c3⟩, I3.kept fun b u e => Heap.get?_push_of_some _ e, hn, q⟩
  refine Call_ (ld_blt I hg hm boot_list (PyProof.Rows.callWith_type1 (args_cons (thn inner fun x s1 ⟨r, i, j, k, t, u, v, n, H1, ex, hr, ⟨c0, c1, c2, c3⟩, I1, hn, q⟩ => args_nil ?_) na) na))
  subst ex
  refine call_list_range (n := n) (I1.ok.hd hc) hr c2 c3 hn fun h' tk acc c' hk e' hi => ?_
  refine ⟨.ref s1.heap.objs.size, upd H1 s1.heap.objs.size (.lst (rgCV i k n)), I1.laid hk (Nat.le_refl _) (show ObjOk X.prog X.w _ _ _ (.lst (rgCV i k n)) from ⟨?_, acc.toList, c', ?_, ?_⟩), rfl, q _ (I1.hok.fresh (Nat.le_refl _))⟩
  · rw [rgCV, List.length_map, List.length_range, sizeLine_eq]; omega
  · have e : acc.toList.length = n := by rw [Array.length_toList]; exact hi.1
    unfold rgCV
    rw [← e]
    refine vals_of_get acc.toList _ fun j u hj => ?_
    obtain ⟨t, rfl⟩ := hi.2 j u (by rw [← hj, Array.getElem?_toList])
    exact ⟨t, rfl⟩
  · rw [Array.toArray_toList]; exact e'
end
end Pf
namespace Pf
open PySem PySem.Spec PyProof.Rows L2
theorem ap_listD {ks : List Key} {ys : List P} {Q : P → Prop} : (fListD [.dct ks ys] Q) = ((∀ z, Sum.inr z ∈ ks → SOk z) ∧ Q (.lst (ks.map keyV))) := rfl
theorem ap_dictD {ks : List Key} {ys : List P} {Q : P → Prop} : (fDictD [.dct ks ys] Q) = (Q (.dct ks ys)) := rfl
theorem ap_tylist2 {xs : List P} : tyPB "list" (.lst xs) = true := rfl
end Pf
namespace Pf
/-- a hypothesis that simp does not look into -/
def Hid (p : Prop) : Prop := p
theorem Hid.mk {p : Prop} (h : p) : Hid p := h
theorem Hid.get {p : Prop} (h : Hid p) : p := h
end Pf
namespace Pf
open PySem PySem.Spec PyProof.Rows L2
theorem aq_at {xs : List P} {α : Type} {enc : α → P} {l : List α} [h : ML xs α enc l] [Inhabited α] {i : Int} {Q : P → Prop} : (∃ z, atI xs i = some z ∧ Q z) = (ixOk l.length i ∧ Q (enc (gx l i))) := by rw [h.eq]; exact ap_at
/-- the indexes of the sheets that bear a record -/
def sheetsI (rs : List (Int × Str)) (z : Str) : List Int := (rs.zipIdx.filter fun p => decide (p.1.2 = z)).map fun p => (p.2 : Int)
end Pf
namespace Pf
open PySem PySem.Spec PyProof.Rows L2
theorem sheetsI_len {rs : List (Int × Str)} {z : Str} {n : Nat} (h : rs.length ≤ n) : (sheetsI rs z).length ≤ n := by
  unfold sheetsI
  rw [List.length_map]
  refine Nat.le_trans (List.length_filter_le _ _) ?_
  rw [List.length_zipIdx]; exact h
theorem sheetsI_at {rs : List (Int × Str)} {z : Str} {i : Int} (h : i ∈ sheetsI rs z) : ∃ (j : Nat) (r : Int × Str), i = (j : Int) ∧ rs[j]? = some r ∧ r.2 = z := by
  unfold sheetsI at h
  obtain ⟨⟨r, j⟩, hp, rfl⟩ := List.mem_map.mp h
  obtain ⟨h1, h2⟩ := List.mem_filter.mp hp
  obtain ⟨k, hk⟩ := List.mem_iff_getElem?.mp h1
  rw [List.getElem?_zipIdx] at hk
  cases e : rs[k]? with
  | none => rw [e] at hk; simp at hk
  | some r' =>
    rw [e] at hk
    have hk : r' = r ∧ k = j := by simpa using hk
    obtain ⟨rfl, rfl⟩ := hk
    exact ⟨k, r', rfl, e, of_decide_eq_true h2⟩
theorem sheetsI_ix {rs : List (Int × Str)} {z : Str} {i : Int} (h : i ∈ sheetsI rs z) : -(rs.length : Int) ≤ i ∧ i < rs.length := by
  obtain ⟨j, r, rfl, e, _⟩ := sheetsI_at h
  have := (List.getElem?_eq_some_iff.mp e).1
  omega
theorem gx_nat {α : Type} [Inhabited α] {l : List α} {j : Nat} {a : α} (h : l[j]? = some a) : gx l (j : Int) = a := by
  rw [gx_nn (by omega), Int.toNat_natCast, h]; rfl
theorem sheetsI_mem {rs : List (Int × Str)} {z : Str} {i : Int} (h : i ∈ sheetsI rs z) : gx rs i ∈ rs := gx_mem (sheetsI_ix h)
/-- the sheets of a record are those rows -/
theorem sheetsI_rows {rs : List (Int × Str)} {z : Str} : (sheetsI rs z).map (gx rs) = rs.filter fun r => decide (r.2 = z) := by
  unfold sheetsI
  rw [List.map_map]
  have key : ∀ (l : List (Int × Str)) (k : Nat), (∀ (i : Nat) r, l[i]? = some r → rs[k + i]? = some r) → ((l.zipIdx k).filter fun p => decide (p.1.2 = z)).map (gx rs ∘ fun p => (p.2 : Int)) = l.filter fun r => decide (r.2 = z) := by
    intro l
    induction l with
    | nil => intro k _; rfl
    | cons r l ih =>
      intro k h
      have h0 := h 0 r rfl
      have ih := ih (k + 1) fun i q hq => by rw [show k + 1 + i = k + (i + 1) by omega]; exact h (i + 1) q hq
      rw [List.zipIdx_cons, List.filter_cons, List.filter_cons]
      by_cases hz : r.2 = z
      · rw [if_pos (by simpa using hz), if_pos (by simpa using hz), List.map_cons, ih]
        congr 1
        exact gx_nat h0
      · rw [if_neg (by simpa using hz), if_neg (by simpa using hz), ih]
  exact key rs 0 fun i r h => by simpa using h
/-- the reach of a record -/
def recR (rs : List (Int × Str)) (z : Str) (e w : Int) : Int := capS ((rs.filter fun r => decide (r.2 = z)).map Prod.fst) e w
theorem recR_eq {rs : List (Int × Str)} {z : Str} {e w : Int} : (((sheetsI rs z).map fun i => (gx rs i).1).map fun t => capI t e w).sum = recR rs z e w := by
  unfold recR capS
  rw [← sheetsI_rows, List.map_map, List.map_map, List.map_map]
  rfl
end Pf
namespace Pf
open PySem PySem.Spec PyProof.Rows L2
theorem int_one {a : List Int} {n : Int} : a.map P.int ++ [P.int n] = (a ++ [n]).map P.int := by rw [List.map_append]; rfl
theorem str_one {a : List Str} {n : Str} : a.map P.str ++ [P.str n] = (a ++ [n]).map P.str := by rw [List.map_append]; rfl
theorem row_one {a : List (Int × Str)} {n : Int} {z : Str} : a.map rowP ++ [P.tup [.int n, .str z]] = (a ++ [(n, z)]).map rowP := by rw [List.map_append]; rfl
theorem row_one' {a : List (Int × Str)} {r : Int × Str} : a.map rowP ++ [rowP r] = (a ++ [r]).map rowP := by rw [List.map_append]; rfl
theorem dd_one {a : List (Int × List Int)} {n : Int} {l : List Int} : a.map ddP ++ [P.tup [.int n, .tup (l.map P.int)]] = (a ++ [(n, l)]).map ddP := by rw [List.map_append]; rfl
theorem dd_one1 {a : List (Int × List Int)} {n m : Int} : a.map ddP ++ [P.tup [.int n, .tup [.int m]]] = (a ++ [(n, [m])]).map ddP := by rw [List.map_append]; rfl
theorem ii_one {a : List (Int × Int)} {n m : Int} : a.map iiP ++ [P.tup [.int n, .int m]] = (a ++ [(n, m)]).map iiP := by rw [List.map_append]; rfl
theorem int_app {a b : List Int} : a.map P.int ++ b.map P.int = (a ++ b).map P.int := by rw [List.map_append]
theorem str_app' {a b : List Str} : a.map P.str ++ b.map P.str = (a ++ b).map P.str := by rw [List.map_append]
theorem row_app {a b : List (Int × Str)} : a.map rowP ++ b.map rowP = (a ++ b).map rowP := by rw [List.map_append]
theorem int_nil : List.map P.int [] = [] := rfl
theorem row_nil : List.map rowP [] = [] := rfl
theorem str_nil : List.map P.str [] = [] := rfl
section
variable {g : P → PEnv → (PEnv → Prop) → Prop} {b : WS} {D : PEnds} {env : PEnv} {lo : Int} {n : Nat}
/-- loops over a range -/
theorem forAr (ts : List Nat) (k : Nat) (m : Mo) {β : Type} (f : β → P) (I : Nat → β → Prop) (a0 : β) (h0 : I 0 a0) (he : Any ts (env.set k (some (m, f a0))) env)
    (hs : ∀ (i : Nat) c e, i < n → I i c → Any ts (env.set k (some (m, f c))) e → g (.int (lo + (i : Int))) e fun e2 => b { D with nx := fun e3 => ∃ c, I (i + 1) c ∧ Any ts (env.set k (some (m, f c))) e3, ct := fun e3 => ∃ c, I (i + 1) c ∧ Any ts (env.set k (some (m, f c))) e3, bk := D.nx } e2)
    (hd : ∀ c e, I n c → Any ts (env.set k (some (m, f c))) e → D.nx e) : ForB (rng lo n) g b D env :=
  for_r (fun i e => ∃ c, I i c ∧ Any ts (env.set k (some (m, f c))) e) ⟨a0, h0, he⟩ (fun i e h1 ⟨c, h3, h4⟩ => hs i c e h1 h3 h4) fun e ⟨c, h1, h2⟩ => hd c e h1 h2
theorem forKr (ts : List Nat) (I : Nat → Prop) (h1 : I 0) (hs : ∀ (i : Nat) e, i < n → I i → Any ts env e → g (.int (lo + (i : Int))) e fun e2 => b { D with nx := fun e3 => I (i + 1) ∧ Any ts env e3, ct := fun e3 => I (i + 1) ∧ Any ts env e3, bk := D.nx } e2) (h0 : Any ts env env) (hd : ∀ e, I n → Any ts env e → D.nx e) : ForB (rng lo n) g b D env :=
  for_r (fun i e => I i ∧ Any ts env e) ⟨h1, h0⟩ (fun i e h1 h2 => hs i e h1 h2.1 h2.2) fun e h => hd e h.1 h.2
theorem forA2r (ts : List Nat) (k k2 : Nat) (m m2 : Mo) {β γ : Type} (f : β → P) (f2 : γ → P) (I : Nat → β → γ → Prop) (a0 : β) (b0 : γ) (h0 : I 0 a0 b0) (he : Any ts ((env.set k (some (m, f a0))).set k2 (some (m2, f2 b0))) env)
    (hs : ∀ (i : Nat) c d e, i < n → I i c d → Any ts ((env.set k (some (m, f c))).set k2 (some (m2, f2 d))) e → g (.int (lo + (i : Int))) e fun e2 => b { D with nx := fun e3 => ∃ c d, I (i + 1) c d ∧ Any ts ((env.set k (some (m, f c))).set k2 (some (m2, f2 d))) e3, ct := fun e3 => ∃ c d, I (i + 1) c d ∧ Any ts ((env.set k (some (m, f c))).set k2 (some (m2, f2 d))) e3, bk := D.nx } e2)
    (hd : ∀ c d e, I n c d → Any ts ((env.set k (some (m, f c))).set k2 (some (m2, f2 d))) e → D.nx e) : ForB (rng lo n) g b D env :=
  for_r (fun i e => ∃ c d, I i c d ∧ Any ts ((env.set k (some (m, f c))).set k2 (some (m2, f2 d))) e) ⟨a0, b0, h0, he⟩ (fun i e h1 ⟨c, d, h3, h4⟩ => hs i c d e h1 h3 h4) fun e ⟨c, d, h1, h2⟩ => hd c d e h1 h2
end
section
variable {g : P → PEnv → (PEnv → Prop) → Prop} {b : WS} {D : PEnds} {env : PEnv} {xs : List P} {α : Type} {enc : α → P} {l : List α}
theorem forA2 [h : ML xs α enc l] (ts : List Nat) (k k2 : Nat) (m m2 : Mo) {β γ : Type} (f : β → P) (f2 : γ → P) (I : Nat → β → γ → Prop) (a0 : β) (b0 : γ) (h0 : I 0 a0 b0) (he : Any ts ((env.set k (some (m, f a0))).set k2 (some (m2, f2 b0))) env)
    (hs : ∀ (i : Nat) a c d e, l[i]? = some a → i < l.length → I i c d → Any ts ((env.set k (some (m, f c))).set k2 (some (m2, f2 d))) e → g (enc a) e fun e2 => b { D with nx := fun e3 => ∃ c d, I (i + 1) c d ∧ Any ts ((env.set k (some (m, f c))).set k2 (some (m2, f2 d))) e3, ct := fun e3 => ∃ c d, I (i + 1) c d ∧ Any ts ((env.set k (some (m, f c))).set k2 (some (m2, f2 d))) e3, bk := D.nx } e2)
    (hd : ∀ c d e, I l.length c d → Any ts ((env.set k (some (m, f c))).set k2 (some (m2, f2 d))) e → D.nx e) : ForB xs g b D env :=
  forM (fun i e => ∃ c d, I i c d ∧ Any ts ((env.set k (some (m, f c))).set k2 (some (m2, f2 d))) e) ⟨a0, b0, h0, he⟩ (fun i a e h1 h2 ⟨c, d, h3, h4⟩ => hs i a c d e h1 h2 h3 h4) fun e ⟨c, d, h1, h2⟩ => hd c d e h1 h2
theorem forKi [h : ML xs α enc l] (ts : List Nat) (I : Nat → Prop) (h1 : I 0) (hs : ∀ (i : Nat) a e, l[i]? = some a → i < l.length → I i → Any ts env e → g (enc a) e fun e2 => b { D with nx := fun e3 => I (i + 1) ∧ Any ts env e3, ct := fun e3 => I (i + 1) ∧ Any ts env e3, bk := D.nx } e2) (h0 : Any ts env env) (hd : ∀ e, I l.length → Any ts env e → D.nx e) : ForB xs g b D env :=
  forM (fun i e => I i ∧ Any ts env e) ⟨h1, h0⟩ (fun i a e h1 h2 h3 => hs i a e h1 h2 h3.1 h3.2) fun e h => hd e h.1 h.2
end
end Pf
namespace Pf
theorem nodup_le {α : Type} [DecidableEq α] : ∀ {l m : List α}, l.Nodup → (∀ x ∈ l, x ∈ m) → l.length ≤ m.length
  | [], m, _, _ => Nat.zero_le _
  | a :: l, m, h, hs => by
    have h2 := List.nodup_cons.mp h
    have ha := hs a List.mem_cons_self
    have ih := nodup_le (l := l) (m := m.erase a) h2.2 fun x hx => by
      have hxa : x ≠ a := fun e => h2.1 (e ▸ hx)
      exact (List.mem_erase_of_ne hxa).mpr (hs x (List.mem_cons_of_mem _ hx))
    rw [List.length_erase_of_mem ha] at ih
    have := List.length_pos_of_mem ha
    rw [List.length_cons]
    omega
end Pf
namespace Pf
theorem InB.b {ds ss : List Int} (h : InB ds ss) {k s : Int} (h0 : 0 ≤ k) (e : ss[k.toNat]? = some s) : 0 ≤ gx ds k ∧ gx ds k < s := by
  obtain ⟨d, e1, e2, e3⟩ := h.at e
  rw [gx_nn h0, e1]
  exact ⟨e2, e3⟩
end Pf

namespace Pf
open PySem PySem.Spec PyProof.Rows L2
theorem ite_and' {a b : Prop} [Decidable a] [Decidable b] {α : Sort _} {x y : α} : (if a then (if b then x else y) else y) = if a ∧ b then x else y := by
  by_cases h : a <;> by_cases h2 : b <;> simp [h, h2]
theorem ite_or' {a b : Prop} [Decidable a] [Decidable b] {α : Sort _} {x y : α} : (if a then x else (if b then x else y)) = if a ∨ b then x else y := by
  by_cases h : a <;> by_cases h2 : b <;> simp [h, h2]
theorem ite_nand' {a b : Prop} [Decidable a] [Decidable b] {α : Sort _} {x y : α} : (if a then (if b then x else y) else x) = if a ∧ ¬ b then y else x := by
  by_cases h : a <;> by_cases h2 : b <;> simp [h, h2]
/-! ### dicts: keys are texts, values are read back -/
section
variable {α : Type} {enc : α → P}
abbrev kS (p : Str × α) : Key := Sum.inr p.1
abbrev dS (enc : α → P) (d : List (Str × α)) : P := .dct (d.map fun p => Sum.inr p.1) (d.map fun p => enc p.2)
def dget (d : List (Str × α)) (z : Str) : Option α := (d.find? fun p => decide (p.1 = z)).map Prod.snd
def dput (d : List (Str × α)) (z : Str) (a : α) : List (Str × α) := if (d.any fun p => decide (p.1 = z)) = true then d.map fun p => if p.1 = z then (p.1, a) else p else d ++ [(z, a)]
/-- a dict read back -/
class ED {α : Type} (enc : α → P) (ks : List Key) (xs : List P) (d : outParam (List (Str × α))) : Prop where
  k : ks = d.map fun p => Sum.inr p.1
  v : xs = d.map fun p => enc p.2
instance ed_self {α : Type} {enc : α → P} {d : List (Str × α)} : ED enc (d.map fun p => Sum.inr p.1) (d.map fun p => enc p.2) d := ⟨rfl, rfl⟩
instance ed_nil {α : Type} {enc : α → P} : ED enc [] [] [] := ⟨rfl, rfl⟩
theorem valP_d {d : List (Str × α)} {z : Str} : valP (d.map fun p => Sum.inr p.1) (d.map fun p => enc p.2) (Sum.inr z) = (dget d z).map enc := by
  induction d with
  | nil => rfl
  | cons p d ih =>
    rw [List.map_cons, List.map_cons]
    unfold valP
    by_cases h : p.1 = z
    · rw [if_pos (by rw [h])]
      unfold dget
      rw [List.find?_cons_of_pos (by simpa using h)]
      rfl
    · rw [if_neg (by simpa using h), ih]
      unfold dget
      rw [List.find?_cons_of_neg (by simpa using h)]
theorem putP_d {d : List (Str × α)} {z : Str} {a : α} : putP (d.map fun p => Sum.inr p.1) (d.map fun p => enc p.2) (Sum.inr z) (enc a) = ((dput d z a).map (fun p => Sum.inr p.1), (dput d z a).map fun p => enc p.2) := by
  unfold putP dput
  have e : ((d.map fun p => (Sum.inr p.1 : Key)).any fun q => decide (q = Sum.inr z)) = d.any fun p => decide (p.1 = z) := by
    rw [List.any_map]
    congr 1
    funext p
    simp
  rw [e]
  split
  · have e2 : ∀ (d : List (Str × α)), List.zipWith (fun (q : Key) y => if q = Sum.inr z then enc a else y) (d.map fun p => Sum.inr p.1) (d.map fun p => enc p.2) = (d.map fun p => if p.1 = z then (p.1, a) else p).map fun p => enc p.2 := by
      intro d
      induction d with
      | nil => rfl
      | cons p d ih =>
        simp only [List.map_cons, List.zipWith_cons_cons, ih]
        congr 1
        by_cases h : p.1 = z <;> simp [h]
    rw [e2]
    congr 1
    rw [List.map_map]
    refine List.map_congr_left fun p _ => ?_
    by_cases h : p.1 = z <;> simp [h]
  · rw [List.map_append, List.map_append]
    rfl
theorem dget_put {d : List (Str × α)} {z y : Str} {a : α} : dget (dput d z a) y = if y = z then some a else dget d y := by
  unfold dput
  split
  · rename_i h
    induction d with
    | nil => simp at h
    | cons p d ih =>
      by_cases hp : p.1 = z
      · by_cases hy : y = z
        · rw [if_pos hy]
          unfold dget
          rw [List.map_cons, if_pos hp, List.find?_cons_of_pos (by simp [hp, hy])]
          rfl
        · rw [if_neg hy]
          unfold dget
          rw [List.map_cons, if_pos hp, List.find?_cons_of_neg (by simp [hp]; exact fun e => hy e.symm), List.find?_cons_of_neg (by simp [hp]; exact fun e => hy e.symm)]
          clear ih h
          induction d with
          | nil => rfl
          | cons q d ih =>
            rw [List.map_cons]
            by_cases hq : q.1 = z
            · rw [if_pos hq, List.find?_cons_of_neg (by simp [hq]; exact fun e => hy e.symm), List.find?_cons_of_neg (by simp [hq]; exact fun e => hy e.symm), ih]
            · rw [if_neg hq]
              by_cases hqy : q.1 = y
              · rw [List.find?_cons_of_pos (by simpa using hqy), List.find?_cons_of_pos (by simpa using hqy)]
              · rw [List.find?_cons_of_neg (by simpa using hqy), List.find?_cons_of_neg (by simpa using hqy), ih]
      · have h2 : (d.any fun p => decide (p.1 = z)) = true := by simpa [hp] using h
        have ih := ih h2
        unfold dget at ih ⊢
        rw [List.map_cons, if_neg hp]
        by_cases hy : p.1 = y
        · rw [List.find?_cons_of_pos (by simpa using hy), List.find?_cons_of_pos (by simpa using hy), if_neg (by rw [← hy]; exact hp)]
        · rw [List.find?_cons_of_neg (by simpa using hy), List.find?_cons_of_neg (by simpa using hy), ih]
  · rename_i h
    have hz : ∀ p ∈ d, p.1 ≠ z := fun p hp e => h (List.any_eq_true.mpr ⟨p, hp, by simpa using e⟩)
    unfold dget
    rw [List.find?_append]
    by_cases hy : y = z
    · rw [if_pos hy, hy]
      have : d.find? (fun p => decide (p.1 = z)) = none := List.find?_eq_none.mpr fun p hp => by simpa using hz p hp
      rw [this]
      simp
    · rw [if_neg hy]
      cases e : d.find? fun p => decide (p.1 = y) with
      | some q => simp
      | none =>
        have hzy : ¬ z = y := fun q => hy q.symm
        simp [hzy]
theorem dput_keys {d : List (Str × α)} {z : Str} {a : α} : (dput d z a).map Prod.fst = if z ∈ d.map Prod.fst then d.map Prod.fst else d.map Prod.fst ++ [z] := by
  unfold dput
  have e : ((d.any fun p => decide (p.1 = z)) = true) ↔ z ∈ d.map Prod.fst := by
    rw [List.any_eq_true, List.mem_map]
    constructor
    · rintro ⟨p, hp, h⟩; exact ⟨p, hp, by simpa using h⟩
    · rintro ⟨p, hp, h⟩; exact ⟨p, hp, by simpa using h⟩
  by_cases h : z ∈ d.map Prod.fst
  · rw [if_pos (e.mpr h), if_pos h, List.map_map]
    refine List.map_congr_left fun p _ => ?_
    by_cases hp : p.1 = z <;> simp [hp]
  · rw [if_neg fun q => h (e.mp q), if_neg h, List.map_append]
    rfl
theorem dput_nodup {d : List (Str × α)} {z : Str} {a : α} (h : (d.map Prod.fst).Nodup) : ((dput d z a).map Prod.fst).Nodup := by
  rw [dput_keys]
  split
  · exact h
  · rename_i hz
    rw [List.nodup_append]
    exact ⟨h, by simp, fun x hx y hy e => by rw [List.mem_singleton.mp hy] at e; exact hz (e ▸ hx)⟩
theorem dput_len {d : List (Str × α)} {z : Str} {a : α} : (dput d z a).length ≤ d.length + 1 := by
  unfold dput
  split
  · rw [List.length_map]; omega
  · rw [List.length_append]; exact Nat.le_refl _
theorem dget_some {d : List (Str × α)} {z : Str} {a : α} (h : dget d z = some a) : (z, a) ∈ d := by
  unfold dget at h
  cases e : d.find? fun p => decide (p.1 = z) with
  | none => rw [e] at h; cases h
  | some p =>
    rw [e] at h
    have h : p.2 = a := Option.some.inj h
    have h1 := List.mem_of_find?_eq_some e
    have h2 := List.find?_some e
    have h2 : p.1 = z := by simpa using h2
    rw [← h, ← h2]
    exact h1
theorem dget_mem {d : List (Str × α)} {z : Str} : (dget d z).isSome = true ↔ z ∈ d.map Prod.fst := by
  unfold dget
  rw [Option.isSome_map, List.find?_isSome, List.mem_map]
  constructor
  · rintro ⟨p, hp, h⟩; exact ⟨p, hp, by simpa using h⟩
  · rintro ⟨p, hp, h⟩; exact ⟨p, hp, by simpa using h⟩
theorem dget_of {d : List (Str × α)} {z : Str} {a : α} (hn : (d.map Prod.fst).Nodup) (h : (z, a) ∈ d) : dget d z = some a := by
  induction d with
  | nil => cases h
  | cons p d ih =>
    rw [List.map_cons, List.nodup_cons] at hn
    unfold dget
    by_cases hp : p.1 = z
    · rw [List.find?_cons_of_pos (by simpa using hp)]
      rcases List.mem_cons.mp h with e | h
      · rw [← e]; rfl
      · exact absurd (List.mem_map.mpr ⟨(z, a), h, rfl⟩) (by rw [← hp]; exact hn.1)
    · rw [List.find?_cons_of_neg (by simpa using hp)]
      rcases List.mem_cons.mp h with e | h
      · rw [← e] at hp; exact absurd rfl hp
      · exact ih hn.2 h
/-- the walking lemmas -/
theorem aq_dval {ks : List Key} {xs : List P} {d : List (Str × α)} [h : ED enc ks xs d] {z : Str} {Q : P → Prop} : (∃ u, valP ks xs (Sum.inr z) = some u ∧ Q u) = (∃ a, dget d z = some a ∧ Q (enc a)) := by
  rw [h.k, h.v, valP_d]
  refine propext ⟨fun ⟨u, e, q⟩ => ?_, fun ⟨a, e, q⟩ => ⟨enc a, by rw [e]; rfl, q⟩⟩
  cases ea : dget d z with
  | none => rw [ea] at e; cases e
  | some a => rw [ea] at e; cases e; exact ⟨a, rfl, q⟩
end
section
variable {ks : List Key} {xs : List P} {d : List (Str × Int)} [h : ED P.int ks xs d] {z : Str}
theorem aq_dvalI {Q : P → Prop} : (∃ u, valP ks xs (Sum.inr z) = some u ∧ Q u) = (∃ a, dget d z = some a ∧ Q (.int a)) := aq_dval (enc := P.int)
theorem aq_dgetI {a : Int} : (valP ks xs (Sum.inr z)).getD (P.int a) = P.int ((dget d z).getD a) := by
  rw [h.k, h.v, valP_d]
  cases dget d z <;> rfl
theorem aq_dinI : (valP ks xs (Sum.inr z)).isSome = decide (z ∈ d.map Prod.fst) := by
  rw [h.k, h.v, valP_d, Option.isSome_map, Bool.eq_iff_iff, decide_eq_true_eq]
  exact dget_mem
theorem aq_putI {a : Int} : putP ks xs (Sum.inr z) (P.int a) = ((dput d z a).map (fun p => Sum.inr p.1), (dput d z a).map fun p => P.int p.2) := by
  rw [h.k, h.v]; exact putP_d (enc := P.int)
end
theorem keyV_d {α : Type} {d : List (Str × α)} : (d.map fun p => (Sum.inr p.1 : Key)).map keyV = (d.map Prod.fst).map P.str := by
  rw [List.map_map, List.map_map]; rfl
theorem sok_keys {α : Type} {d : List (Str × α)} : (∀ z, (Sum.inr z : Key) ∈ (d.map fun p => (Sum.inr p.1 : Key)) → SOk z) = (∀ z ∈ d.map Prod.fst, SOk z) := by
  refine propext ⟨fun h z hz => ?_, fun h z hz => ?_⟩
  · obtain ⟨p, hp, rfl⟩ := List.mem_map.mp hz
    exact h _ (List.mem_map.mpr ⟨p, hp, rfl⟩)
  · obtain ⟨p, hp, e⟩ := List.mem_map.mp hz
    cases e
    exact h _ (List.mem_map.mpr ⟨p, hp, rfl⟩)
/-! ### sorted texts -/
/-- texts in order -/
def sle' (a b : Str) : Prop := a.cps.toList ≤ b.cps.toList
theorem ltCps_iff : ∀ (a b : List Nat), ltCps a b = decide (a < b)
  | [], [] => by simp [ltCps]
  | [], _ :: _ => by simp [ltCps]
  | _ :: _, [] => by simp [ltCps]
  | a :: r, b :: t => by
    unfold ltCps
    rw [ltCps_iff r t, Bool.eq_iff_iff]
    simp [List.cons_lt_cons_iff]
theorem sle_refl (a : Str) : sle' a a := List.not_lt.mp (List.lt_irrefl _)
theorem sle_trans {a b c : Str} (h : sle' a b) (h2 : sle' b c) : sle' a c := List.le_trans h h2
theorem sle_total (a b : Str) : sle' a b ∨ sle' b a := List.le_total _ _
theorem str_ext' {a b : Str} (h : a.cps.toList = b.cps.toList) : a = b := by
  obtain ⟨⟨x⟩⟩ := a
  obtain ⟨⟨y⟩⟩ := b
  have h : x = y := h
  rw [h]
theorem sle_anti {a b : Str} (h : sle' a b) (h2 : sle' b a) : a = b := str_ext' (List.le_antisymm h h2)
theorem sle_iff {a b : Str} : sle' a b ↔ ¬ b.cps.toList < a.cps.toList := List.not_lt.symm
instance {a b : Str} : Decidable (sle' a b) := inferInstanceAs (Decidable (a.cps.toList ≤ b.cps.toList))
theorem risingS_iff : ∀ (l : List Str) (p : Str), risingS p l = true ↔ (p :: l).Pairwise sle'
  | [], p => by simp [risingS]
  | x :: r, p => by
    unfold risingS
    rw [Bool.and_eq_true, risingS_iff r x, ltCps_iff, List.pairwise_cons (a := p)]
    constructor
    · rintro ⟨h1, h2⟩
      have h1 : sle' p x := sle_iff.mpr (by simpa using h1)
      refine ⟨fun y hy => ?_, h2⟩
      rcases List.mem_cons.mp hy with rfl | hy
      · exact h1
      · exact sle_trans h1 ((List.pairwise_cons.mp h2).1 y hy)
    · rintro ⟨h1, h2⟩
      refine ⟨?_, h2⟩
      have := sle_iff.mp (h1 x List.mem_cons_self)
      simpa using this
theorem sortedS_iff {l : List Str} : sortedS l = true ↔ l.Pairwise sle' := by
  cases l with
  | nil => simp [sortedS]
  | cons x r => unfold sortedS; exact risingS_iff r x
def sortS (l : List Str) : List Str := l.mergeSort fun a b => decide (sle' a b)
theorem sortS_perm (l : List Str) : (sortS l).Perm l := List.mergeSort_perm _ _
theorem sortS_pw (l : List Str) : (sortS l).Pairwise sle' := by
  have h := List.pairwise_mergeSort (le := fun (a b : Str) => decide (sle' a b)) (fun a b c h1 h2 => decide_eq_true (sle_trans (of_decide_eq_true h1) (of_decide_eq_true h2))) (fun a b => by
    rcases sle_total a b with h | h <;> simp [h]) l
  exact h.imp fun h => of_decide_eq_true h
theorem sortedS_one {a b : List Str} (p : a.Perm b) (ha : a.Pairwise sle') (hb : b.Pairwise sle') : a = b := p.eq_of_pairwise (fun x y _ _ h1 h2 => sle_anti h1 h2) ha hb
theorem sortS_len {l : List Str} : (sortS l).length = l.length := (sortS_perm l).length_eq
theorem sortS_mem {l : List Str} {z : Str} : z ∈ sortS l ↔ z ∈ l := (sortS_perm l).mem_iff
theorem aq_fSortS {xs : List P} {l : List Str} [h : EL P.str xs l] {Q : P → Prop} : (fSortS [.lst xs] Q) = (l.length < 64 ∧ Q (sl (sortS l))) := by
  unfold fSortS
  rw [h.eq]
  simp only [List.cons.injEq, P.lst.injEq, str_inj, and_true, exists_eq_left']
  refine propext ⟨fun ⟨h1, h2⟩ => ⟨h1, h2 _ (sortS_perm l) (sortedS_iff.mpr (sortS_pw l))⟩, fun ⟨h1, h2⟩ => ⟨h1, fun ms p hs => ?_⟩⟩
  rw [sortedS_one (p.trans (sortS_perm l).symm) (sortedS_iff.mp hs) (sortS_pw l)]
  exact h2
theorem aq_fSortD {ks : List Key} {ys : List P} {α : Type} {enc : α → P} {d : List (Str × α)} [h : ED enc ks ys d] {Q : P → Prop} : (fSortD [.dct ks ys] Q) = ((d.map Prod.fst).length < 64 ∧ (∀ z ∈ d.map Prod.fst, SOk z) ∧ Q (sl (sortS (d.map Prod.fst)))) := by
  unfold fSortD
  have hk : ks = (d.map Prod.fst).map Sum.inr := by rw [h.k, List.map_map]; rfl
  have inj : ∀ {a b : List Str}, (List.map (Sum.inr : Str → Key) a = List.map Sum.inr b) = (a = b) := propext (List.map_inj_right fun x y e => Sum.inr.inj e)
  rw [hk]
  refine propext ⟨fun ⟨k2, y2, e, h1, h2, h3⟩ => ?_, fun ⟨h1, h2, h3⟩ => ⟨_, _, rfl, h1, h2, fun ms p hs => ?_⟩⟩
  · simp only [List.cons.injEq, P.dct.injEq, inj, and_true] at e
    obtain ⟨e, _⟩ := e
    rw [e]
    exact ⟨h1, h2, h3 _ (sortS_perm _) (sortedS_iff.mpr (sortS_pw _))⟩
  · rw [sortedS_one (p.trans (sortS_perm _).symm) (sortedS_iff.mp hs) (sortS_pw _)]
    exact h3
end Pf
namespace Pf
open PySem PySem.Spec PyProof.Rows L2
theorem rec_sok {z : Str} (h : isRec z = true) : SOk z := by
  have h2 := isRec_len h
  refine ⟨Nat.le_trans (show z.length ≤ 8 from h2.2) (by decide), fun c hc => ?_⟩
  unfold isRec at h
  rw [Bool.and_eq_true, Bool.and_eq_true, List.all_eq_true] at h
  have := of_decide_eq_true (h.2.2 c hc)
  have key : ∀ c ∈ signs, c < 1114112 := by decide +kernel
  exact key c this
end Pf
namespace Pf
open PySem PySem.Spec PyProof.Rows L2
theorem maxI_2 {a b : Int} : maxI [a, b] = max a b := rfl
theorem minI_2 {a b : Int} : minI [a, b] = min a b := rfl
theorem maxI_1 {a : Int} : maxI [a] = a := rfl
theorem minI_1 {a : Int} : minI [a] = a := rfl
theorem maxI_cons {a b : Int} {l : List Int} : maxI (a :: b :: l) = max a (maxI (b :: l)) := by
  refine maxI_eq ?_ fun x hx => ?_
  · rcases Int.le_total a (maxI (b :: l)) with h | h
    · rw [Int.max_eq_right h]; exact List.mem_cons_of_mem _ (maxI_mem (by simp))
    · rw [Int.max_eq_left h]; exact List.mem_cons_self
  · rcases List.mem_cons.mp hx with rfl | hx
    · omega
    · have := le_maxI hx; omega
end Pf
namespace Pf
open PySem PySem.Spec PyProof.Rows L2
theorem aq_atI {xs : List P} {l : List Int} [h : ML xs Int P.int l] {i c : Int} : (atI xs i = some (P.int c)) = (ixOk l.length i ∧ gx l i = c) := by
  have := aq_at (xs := xs) (enc := P.int) (l := l) (i := i) (Q := fun z => z = P.int c)
  simp only [exists_eq_right, P.int.injEq] at this
  exact this
theorem aq_atS {xs : List P} {l : List Str} [h : ML xs Str P.str l] {i : Int} {c : Str} : (atI xs i = some (P.str c)) = (ixOk l.length i ∧ gx l i = c) := by
  have := aq_at (xs := xs) (enc := P.str) (l := l) (i := i) (Q := fun z => z = P.str c)
  simp only [exists_eq_right, P.str.injEq] at this
  exact this
theorem take_len {α : Type} {l : List α} : l.take l.length = l := List.take_length
theorem take_snoc' {α : Type} {l : List α} {i : Nat} {a : α} (h : l[i]? = some a) : l.take (i + 1) = l.take i ++ [a] := by rw [List.take_add_one, h]; rfl
end Pf
namespace Pf
open PySem PySem.Spec PyProof.Rows L2
section
variable {K : PySem.W.Frag} {W : WX} {ro : Bool}
/-- x = e, where what e gives is told by a promise -/
def wAVc (i : Nat) (w : WE) : WS := fun D env => ∃ I : P → Prop, w env I (D.ex env) ∧ ∀ x, I x → D.nx (env.set i (some (.v, x)))
theorem ss_avc {i : Nat} {t : TE} {w : WE} (h : SE K W .V t w) : SS K W ro (tAsg t (gName i)) (wAVc i w) := fun F0 H0 σ F H env Dp D g ⟨I, hw, hi⟩ d x =>
  h F0 H0 σ F H env _ _ _ g hw (x.x g) fun F1 H1 v y m r q => d.1 _ F1 H1 _ ((g.mv m).setV r) (hi y q)
theorem avB {i : Nat} {w : WE} {D : PEnds} {env : PEnv} (I : Bool → Prop) (h : w env (fun x => ∃ c, x = .bl c ∧ I c) (D.ex env)) (hd : ∀ c, I c → D.nx (env.set i (some (.v, .bl c)))) : wAVc i w D env := ⟨_, h, fun _ ⟨c, e, hc⟩ => e ▸ hd c hc⟩
theorem avI {i : Nat} {w : WE} {D : PEnds} {env : PEnv} (I : Int → Prop) (h : w env (fun x => ∃ c, x = .int c ∧ I c) (D.ex env)) (hd : ∀ c, I c → D.nx (env.set i (some (.v, .int c)))) : wAVc i w D env := ⟨_, h, fun _ ⟨c, e, hc⟩ => e ▸ hd c hc⟩
theorem avE {i : Nat} {w : WE} {D : PEnds} {env : PEnv} (x : P) (h : w env (fun y => y = x) (D.ex env)) (hd : D.nx (env.set i (some (.v, x)))) : wAVc i w D env := ⟨_, h, fun _ e => e ▸ hd⟩
end
end Pf
namespace Pf
open PySem PySem.Spec PyProof.Rows L2
theorem GoodR.lv {rs : List (Int × Str)} {n : Nat} {lo hi l : Int} (h : GoodR rs n lo hi) (hl : l ∈ rs.map Prod.fst) : lo ≤ l ∧ l ≤ hi := by
  obtain ⟨r, hr, rfl⟩ := List.mem_map.mp hl
  exact h.sh r hr
theorem InB.d1 {ds : List Int} {s0 : Int} (h : InB ds [s0]) : ∃ a0, ds = [a0] ∧ (0 ≤ a0 ∧ a0 < s0) := by
  obtain ⟨a0, r0, rfl, l0, u0, h⟩ := h.cons
  obtain rfl := h.nil
  exact ⟨_, rfl, ⟨l0, u0⟩⟩
theorem InB.d2 {ds : List Int} {s0 s1 : Int} (h : InB ds [s0, s1]) : ∃ a0 a1, ds = [a0, a1] ∧ (0 ≤ a0 ∧ a0 < s0) ∧ (0 ≤ a1 ∧ a1 < s1) := by
  obtain ⟨a0, r0, rfl, l0, u0, h⟩ := h.cons
  obtain ⟨a1, r1, rfl, l1, u1, h⟩ := h.cons
  obtain rfl := h.nil
  exact ⟨_, _, rfl, ⟨l0, u0⟩, ⟨l1, u1⟩⟩
theorem InB.d3 {ds : List Int} {s0 s1 s2 : Int} (h : InB ds [s0, s1, s2]) : ∃ a0 a1 a2, ds = [a0, a1, a2] ∧ (0 ≤ a0 ∧ a0 < s0) ∧ (0 ≤ a1 ∧ a1 < s1) ∧ (0 ≤ a2 ∧ a2 < s2) := by
  obtain ⟨a0, r0, rfl, l0, u0, h⟩ := h.cons
  obtain ⟨a1, r1, rfl, l1, u1, h⟩ := h.cons
  obtain ⟨a2, r2, rfl, l2, u2, h⟩ := h.cons
  obtain rfl := h.nil
  exact ⟨_, _, _, rfl, ⟨l0, u0⟩, ⟨l1, u1⟩, ⟨l2, u2⟩⟩
theorem InB.d4 {ds : List Int} {s0 s1 s2 s3 : Int} (h : InB ds [s0, s1, s2, s3]) : ∃ a0 a1 a2 a3, ds = [a0, a1, a2, a3] ∧ (0 ≤ a0 ∧ a0 < s0) ∧ (0 ≤ a1 ∧ a1 < s1) ∧ (0 ≤ a2 ∧ a2 < s2) ∧ (0 ≤ a3 ∧ a3 < s3) := by
  obtain ⟨a0, r0, rfl, l0, u0, h⟩ := h.cons
  obtain ⟨a1, r1, rfl, l1, u1, h⟩ := h.cons
  obtain ⟨a2, r2, rfl, l2, u2, h⟩ := h.cons
  obtain ⟨a3, r3, rfl, l3, u3, h⟩ := h.cons
  obtain rfl := h.nil
  exact ⟨_, _, _, _, rfl, ⟨l0, u0⟩, ⟨l1, u1⟩, ⟨l2, u2⟩, ⟨l3, u3⟩⟩
theorem InB.d5 {ds : List Int} {s0 s1 s2 s3 s4 : Int} (h : InB ds [s0, s1, s2, s3, s4]) : ∃ a0 a1 a2 a3 a4, ds = [a0, a1, a2, a3, a4] ∧ (0 ≤ a0 ∧ a0 < s0) ∧ (0 ≤ a1 ∧ a1 < s1) ∧ (0 ≤ a2 ∧ a2 < s2) ∧ (0 ≤ a3 ∧ a3 < s3) ∧ (0 ≤ a4 ∧ a4 < s4) := by
  obtain ⟨a0, r0, rfl, l0, u0, h⟩ := h.cons
  obtain ⟨a1, r1, rfl, l1, u1, h⟩ := h.cons
  obtain ⟨a2, r2, rfl, l2, u2, h⟩ := h.cons
  obtain ⟨a3, r3, rfl, l3, u3, h⟩ := h.cons
  obtain ⟨a4, r4, rfl, l4, u4, h⟩ := h.cons
  obtain rfl := h.nil
  exact ⟨_, _, _, _, _, rfl, ⟨l0, u0⟩, ⟨l1, u1⟩, ⟨l2, u2⟩, ⟨l3, u3⟩, ⟨l4, u4⟩⟩
theorem InB.d6 {ds : List Int} {s0 s1 s2 s3 s4 s5 : Int} (h : InB ds [s0, s1, s2, s3, s4, s5]) : ∃ a0 a1 a2 a3 a4 a5, ds = [a0, a1, a2, a3, a4, a5] ∧ (0 ≤ a0 ∧ a0 < s0) ∧ (0 ≤ a1 ∧ a1 < s1) ∧ (0 ≤ a2 ∧ a2 < s2) ∧ (0 ≤ a3 ∧ a3 < s3) ∧ (0 ≤ a4 ∧ a4 < s4) ∧ (0 ≤ a5 ∧ a5 < s5) := by
  obtain ⟨a0, r0, rfl, l0, u0, h⟩ := h.cons
  obtain ⟨a1, r1, rfl, l1, u1, h⟩ := h.cons
  obtain ⟨a2, r2, rfl, l2, u2, h⟩ := h.cons
  obtain ⟨a3, r3, rfl, l3, u3, h⟩ := h.cons
  obtain ⟨a4, r4, rfl, l4, u4, h⟩ := h.cons
  obtain ⟨a5, r5, rfl, l5, u5, h⟩ := h.cons
  obtain rfl := h.nil
  exact ⟨_, _, _, _, _, _, rfl, ⟨l0, u0⟩, ⟨l1, u1⟩, ⟨l2, u2⟩, ⟨l3, u3⟩, ⟨l4, u4⟩, ⟨l5, u5⟩⟩
theorem InB.d7 {ds : List Int} {s0 s1 s2 s3 s4 s5 s6 : Int} (h : InB ds [s0, s1, s2, s3, s4, s5, s6]) : ∃ a0 a1 a2 a3 a4 a5 a6, ds = [a0, a1, a2, a3, a4, a5, a6] ∧ (0 ≤ a0 ∧ a0 < s0) ∧ (0 ≤ a1 ∧ a1 < s1) ∧ (0 ≤ a2 ∧ a2 < s2) ∧ (0 ≤ a3 ∧ a3 < s3) ∧ (0 ≤ a4 ∧ a4 < s4) ∧ (0 ≤ a5 ∧ a5 < s5) ∧ (0 ≤ a6 ∧ a6 < s6) := by
  obtain ⟨a0, r0, rfl, l0, u0, h⟩ := h.cons
  obtain ⟨a1, r1, rfl, l1, u1, h⟩ := h.cons
  obtain ⟨a2, r2, rfl, l2, u2, h⟩ := h.cons
  obtain ⟨a3, r3, rfl, l3, u3, h⟩ := h.cons
  obtain ⟨a4, r4, rfl, l4, u4, h⟩ := h.cons
  obtain ⟨a5, r5, rfl, l5, u5, h⟩ := h.cons
  obtain ⟨a6, r6, rfl, l6, u6, h⟩ := h.cons
  obtain rfl := h.nil
  exact ⟨_, _, _, _, _, _, _, rfl, ⟨l0, u0⟩, ⟨l1, u1⟩, ⟨l2, u2⟩, ⟨l3, u3⟩, ⟨l4, u4⟩, ⟨l5, u5⟩, ⟨l6, u6⟩⟩
theorem InB.d8 {ds : List Int} {s0 s1 s2 s3 s4 s5 s6 s7 : Int} (h : InB ds [s0, s1, s2, s3, s4, s5, s6, s7]) : ∃ a0 a1 a2 a3 a4 a5 a6 a7, ds = [a0, a1, a2, a3, a4, a5, a6, a7] ∧ (0 ≤ a0 ∧ a0 < s0) ∧ (0 ≤ a1 ∧ a1 < s1) ∧ (0 ≤ a2 ∧ a2 < s2) ∧ (0 ≤ a3 ∧ a3 < s3) ∧ (0 ≤ a4 ∧ a4 < s4) ∧ (0 ≤ a5 ∧ a5 < s5) ∧ (0 ≤ a6 ∧ a6 < s6) ∧ (0 ≤ a7 ∧ a7 < s7) := by
  obtain ⟨a0, r0, rfl, l0, u0, h⟩ := h.cons
  obtain ⟨a1, r1, rfl, l1, u1, h⟩ := h.cons
  obtain ⟨a2, r2, rfl, l2, u2, h⟩ := h.cons
  obtain ⟨a3, r3, rfl, l3, u3, h⟩ := h.cons
  obtain ⟨a4, r4, rfl, l4, u4, h⟩ := h.cons
  obtain ⟨a5, r5, rfl, l5, u5, h⟩ := h.cons
  obtain ⟨a6, r6, rfl, l6, u6, h⟩ := h.cons
  obtain ⟨a7, r7, rfl, l7, u7, h⟩ := h.cons
  obtain rfl := h.nil
  exact ⟨_, _, _, _, _, _, _, _, rfl, ⟨l0, u0⟩, ⟨l1, u1⟩, ⟨l2, u2⟩, ⟨l3, u3⟩, ⟨l4, u4⟩, ⟨l5, u5⟩, ⟨l6, u6⟩, ⟨l7, u7⟩⟩
theorem InB.d9 {ds : List Int} {s0 s1 s2 s3 s4 s5 s6 s7 s8 : Int} (h : InB ds [s0, s1, s2, s3, s4, s5, s6, s7, s8]) : ∃ a0 a1 a2 a3 a4 a5 a6 a7 a8, ds = [a0, a1, a2, a3, a4, a5, a6, a7, a8] ∧ (0 ≤ a0 ∧ a0 < s0) ∧ (0 ≤ a1 ∧ a1 < s1) ∧ (0 ≤ a2 ∧ a2 < s2) ∧ (0 ≤ a3 ∧ a3 < s3) ∧ (0 ≤ a4 ∧ a4 < s4) ∧ (0 ≤ a5 ∧ a5 < s5) ∧ (0 ≤ a6 ∧ a6 < s6) ∧ (0 ≤ a7 ∧ a7 < s7) ∧ (0 ≤ a8 ∧ a8 < s8) := by
  obtain ⟨a0, r0, rfl, l0, u0, h⟩ := h.cons
  obtain ⟨a1, r1, rfl, l1, u1, h⟩ := h.cons
  obtain ⟨a2, r2, rfl, l2, u2, h⟩ := h.cons
  obtain ⟨a3, r3, rfl, l3, u3, h⟩ := h.cons
  obtain ⟨a4, r4, rfl, l4, u4, h⟩ := h.cons
  obtain ⟨a5, r5, rfl, l5, u5, h⟩ := h.cons
  obtain ⟨a6, r6, rfl, l6, u6, h⟩ := h.cons
  obtain ⟨a7, r7, rfl, l7, u7, h⟩ := h.cons
  obtain ⟨a8, r8, rfl, l8, u8, h⟩ := h.cons
  obtain rfl := h.nil
  exact ⟨_, _, _, _, _, _, _, _, _, rfl, ⟨l0, u0⟩, ⟨l1, u1⟩, ⟨l2, u2⟩, ⟨l3, u3⟩, ⟨l4, u4⟩, ⟨l5, u5⟩, ⟨l6, u6⟩, ⟨l7, u7⟩, ⟨l8, u8⟩⟩
theorem InB.d10 {ds : List Int} {s0 s1 s2 s3 s4 s5 s6 s7 s8 s9 : Int} (h : InB ds [s0, s1, s2, s3, s4, s5, s6, s7, s8, s9]) : ∃ a0 a1 a2 a3 a4 a5 a6 a7 a8 a9, ds = [a0, a1, a2, a3, a4, a5, a6, a7, a8, a9] ∧ (0 ≤ a0 ∧ a0 < s0) ∧ (0 ≤ a1 ∧ a1 < s1) ∧ (0 ≤ a2 ∧ a2 < s2) ∧ (0 ≤ a3 ∧ a3 < s3) ∧ (0 ≤ a4 ∧ a4 < s4) ∧ (0 ≤ a5 ∧ a5 < s5) ∧ (0 ≤ a6 ∧ a6 < s6) ∧ (0 ≤ a7 ∧ a7 < s7) ∧ (0 ≤ a8 ∧ a8 < s8) ∧ (0 ≤ a9 ∧ a9 < s9) := by
  obtain ⟨a0, r0, rfl, l0, u0, h⟩ := h.cons
  obtain ⟨a1, r1, rfl, l1, u1, h⟩ := h.cons
  obtain ⟨a2, r2, rfl, l2, u2, h⟩ := h.cons
  obtain ⟨a3, r3, rfl, l3, u3, h⟩ := h.cons
  obtain ⟨a4, r4, rfl, l4, u4, h⟩ := h.cons
  obtain ⟨a5, r5, rfl, l5, u5, h⟩ := h.cons
  obtain ⟨a6, r6, rfl, l6, u6, h⟩ := h.cons
  obtain ⟨a7, r7, rfl, l7, u7, h⟩ := h.cons
  obtain ⟨a8, r8, rfl, l8, u8, h⟩ := h.cons
  obtain ⟨a9, r9, rfl, l9, u9, h⟩ := h.cons
  obtain rfl := h.nil
  exact ⟨_, _, _, _, _, _, _, _, _, _, rfl, ⟨l0, u0⟩, ⟨l1, u1⟩, ⟨l2, u2⟩, ⟨l3, u3⟩, ⟨l4, u4⟩, ⟨l5, u5⟩, ⟨l6, u6⟩, ⟨l7, u7⟩, ⟨l8, u8⟩, ⟨l9, u9⟩⟩
theorem InB.d11 {ds : List Int} {s0 s1 s2 s3 s4 s5 s6 s7 s8 s9 s10 : Int} (h : InB ds [s0, s1, s2, s3, s4, s5, s6, s7, s8, s9, s10]) : ∃ a0 a1 a2 a3 a4 a5 a6 a7 a8 a9 a10, ds = [a0, a1, a2, a3, a4, a5, a6, a7, a8, a9, a10] ∧ (0 ≤ a0 ∧ a0 < s0) ∧ (0 ≤ a1 ∧ a1 < s1) ∧ (0 ≤ a2 ∧ a2 < s2) ∧ (0 ≤ a3 ∧ a3 < s3) ∧ (0 ≤ a4 ∧ a4 < s4) ∧ (0 ≤ a5 ∧ a5 < s5) ∧ (0 ≤ a6 ∧ a6 < s6) ∧ (0 ≤ a7 ∧ a7 < s7) ∧ (0 ≤ a8 ∧ a8 < s8) ∧ (0 ≤ a9 ∧ a9 < s9) ∧ (0 ≤ a10 ∧ a10 < s10) := by
  obtain ⟨a0, r0, rfl, l0, u0, h⟩ := h.cons
  obtain ⟨a1, r1, rfl, l1, u1, h⟩ := h.cons
  obtain ⟨a2, r2, rfl, l2, u2, h⟩ := h.cons
  obtain ⟨a3, r3, rfl, l3, u3, h⟩ := h.cons
  obtain ⟨a4, r4, rfl, l4, u4, h⟩ := h.cons
  obtain ⟨a5, r5, rfl, l5, u5, h⟩ := h.cons
  obtain ⟨a6, r6, rfl, l6, u6, h⟩ := h.cons
  obtain ⟨a7, r7, rfl, l7, u7, h⟩ := h.cons
  obtain ⟨a8, r8, rfl, l8, u8, h⟩ := h.cons
  obtain ⟨a9, r9, rfl, l9, u9, h⟩ := h.cons
  obtain ⟨a10, r10, rfl, l10, u10, h⟩ := h.cons
  obtain rfl := h.nil
  exact ⟨_, _, _, _, _, _, _, _, _, _, _, rfl, ⟨l0, u0⟩, ⟨l1, u1⟩, ⟨l2, u2⟩, ⟨l3, u3⟩, ⟨l4, u4⟩, ⟨l5, u5⟩, ⟨l6, u6⟩, ⟨l7, u7⟩, ⟨l8, u8⟩, ⟨l9, u9⟩, ⟨l10, u10⟩⟩
theorem InB.d12 {ds : List Int} {s0 s1 s2 s3 s4 s5 s6 s7 s8 s9 s10 s11 : Int} (h : InB ds [s0, s1, s2, s3, s4, s5, s6, s7, s8, s9, s10, s11]) : ∃ a0 a1 a2 a3 a4 a5 a6 a7 a8 a9 a10 a11, ds = [a0, a1, a2, a3, a4, a5, a6, a7, a8, a9, a10, a11] ∧ (0 ≤ a0 ∧ a0 < s0) ∧ (0 ≤ a1 ∧ a1 < s1) ∧ (0 ≤ a2 ∧ a2 < s2) ∧ (0 ≤ a3 ∧ a3 < s3) ∧ (0 ≤ a4 ∧ a4 < s4) ∧ (0 ≤ a5 ∧ a5 < s5) ∧ (0 ≤ a6 ∧ a6 < s6) ∧ (0 ≤ a7 ∧ a7 < s7) ∧ (0 ≤ a8 ∧ a8 < s8) ∧ (0 ≤ a9 ∧ a9 < s9) ∧ (0 ≤ a10 ∧ a10 < s10) ∧ (0 ≤ a11 ∧ a11 < s11) := by
  obtain ⟨a0, r0, rfl, l0, u0, h⟩ := h.cons
  obtain ⟨a1, r1, rfl, l1, u1, h⟩ := h.cons
  obtain ⟨a2, r2, rfl, l2, u2, h⟩ := h.cons
  obtain ⟨a3, r3, rfl, l3, u3, h⟩ := h.cons
  obtain ⟨a4, r4, rfl, l4, u4, h⟩ := h.cons
  obtain ⟨a5, r5, rfl, l5, u5, h⟩ := h.cons
  obtain ⟨a6, r6, rfl, l6, u6, h⟩ := h.cons
  obtain ⟨a7, r7, rfl, l7, u7, h⟩ := h.cons
  obtain ⟨a8, r8, rfl, l8, u8, h⟩ := h.cons
  obtain ⟨a9, r9, rfl, l9, u9, h⟩ := h.cons
  obtain ⟨a10, r10, rfl, l10, u10, h⟩ := h.cons
  obtain ⟨a11, r11, rfl, l11, u11, h⟩ := h.cons
  obtain rfl := h.nil
  exact ⟨_, _, _, _, _, _, _, _, _, _, _, _, rfl, ⟨l0, u0⟩, ⟨l1, u1⟩, ⟨l2, u2⟩, ⟨l3, u3⟩, ⟨l4, u4⟩, ⟨l5, u5⟩, ⟨l6, u6⟩, ⟨l7, u7⟩, ⟨l8, u8⟩, ⟨l9, u9⟩, ⟨l10, u10⟩, ⟨l11, u11⟩⟩
theorem InB.d13 {ds : List Int} {s0 s1 s2 s3 s4 s5 s6 s7 s8 s9 s10 s11 s12 : Int} (h : InB ds [s0, s1, s2, s3, s4, s5, s6, s7, s8, s9, s10, s11, s12]) : ∃ a0 a1 a2 a3 a4 a5 a6 a7 a8 a9 a10 a11 a12, ds = [a0, a1, a2, a3, a4, a5, a6, a7, a8, a9, a10, a11, a12] ∧ (0 ≤ a0 ∧ a0 < s0) ∧ (0 ≤ a1 ∧ a1 < s1) ∧ (0 ≤ a2 ∧ a2 < s2) ∧ (0 ≤ a3 ∧ a3 < s3) ∧ (0 ≤ a4 ∧ a4 < s4) ∧ (0 ≤ a5 ∧ a5 < s5) ∧ (0 ≤ a6 ∧ a6 < s6) ∧ (0 ≤ a7 ∧ a7 < s7) ∧ (0 ≤ a8 ∧ a8 < s8) ∧ (0 ≤ a9 ∧ a9 < s9) ∧ (0 ≤ a10 ∧ a10 < s10) ∧ (0 ≤ a11 ∧ a11 < s11) ∧ (0 ≤ a12 ∧ a12 < s12) := by
  obtain ⟨a0, r0, rfl, l0, u0, h⟩ := h.cons
  obtain ⟨a1, r1, rfl, l1, u1, h⟩ := h.cons
  obtain ⟨a2, r2, rfl, l2, u2, h⟩ := h.cons
  obtain ⟨a3, r3, rfl, l3, u3, h⟩ := h.cons
  obtain ⟨a4, r4, rfl, l4, u4, h⟩ := h.cons
  obtain ⟨a5, r5, rfl, l5, u5, h⟩ := h.cons
  obtain ⟨a6, r6, rfl, l6, u6, h⟩ := h.cons
  obtain ⟨a7, r7, rfl, l7, u7, h⟩ := h.cons
  obtain ⟨a8, r8, rfl, l8, u8, h⟩ := h.cons
  obtain ⟨a9, r9, rfl, l9, u9, h⟩ := h.cons
  obtain ⟨a10, r10, rfl, l10, u10, h⟩ := h.cons
  obtain ⟨a11, r11, rfl, l11, u11, h⟩ := h.cons
  obtain ⟨a12, r12, rfl, l12, u12, h⟩ := h.cons
  obtain rfl := h.nil
  exact ⟨_, _, _, _, _, _, _, _, _, _, _, _, _, rfl, ⟨l0, u0⟩, ⟨l1, u1⟩, ⟨l2, u2⟩, ⟨l3, u3⟩, ⟨l4, u4⟩, ⟨l5, u5⟩, ⟨l6, u6⟩, ⟨l7, u7⟩, ⟨l8, u8⟩, ⟨l9, u9⟩, ⟨l10, u10⟩, ⟨l11, u11⟩, ⟨l12, u12⟩⟩
theorem InB.d14 {ds : List Int} {s0 s1 s2 s3 s4 s5 s6 s7 s8 s9 s10 s11 s12 s13 : Int} (h : InB ds [s0, s1, s2, s3, s4, s5, s6, s7, s8, s9, s10, s11, s12, s13]) : ∃ a0 a1 a2 a3 a4 a5 a6 a7 a8 a9 a10 a11 a12 a13, ds = [a0, a1, a2, a3, a4, a5, a6, a7, a8, a9, a10, a11, a12, a13] ∧ (0 ≤ a0 ∧ a0 < s0) ∧ (0 ≤ a1 ∧ a1 < s1) ∧ (0 ≤ a2 ∧ a2 < s2) ∧ (0 ≤ a3 ∧ a3 < s3) ∧ (0 ≤ a4 ∧ a4 < s4) ∧ (0 ≤ a5 ∧ a5 < s5) ∧ (0 ≤ a6 ∧ a6 < s6) ∧ (0 ≤ a7 ∧ a7 < s7) ∧ (0 ≤ a8 ∧ a8 < s8) ∧ (0 ≤ a9 ∧ a9 < s9) ∧ (0 ≤ a10 ∧ a10 < s10) ∧ (0 ≤ a11 ∧ a11 < s11) ∧ (0 ≤ a12 ∧ a12 < s12) ∧ (0 ≤ a13 ∧ a13 < s13) := by
  obtain ⟨a0, r0, rfl, l0, u0, h⟩ := h.cons
  obtain ⟨a1, r1, rfl, l1, u1, h⟩ := h.cons
  obtain ⟨a2, r2, rfl, l2, u2, h⟩ := h.cons
  obtain ⟨a3, r3, rfl, l3, u3, h⟩ := h.cons
  obtain ⟨a4, r4, rfl, l4, u4, h⟩ := h.cons
  obtain ⟨a5, r5, rfl, l5, u5, h⟩ := h.cons
  obtain ⟨a6, r6, rfl, l6, u6, h⟩ := h.cons
  obtain ⟨a7, r7, rfl, l7, u7, h⟩ := h.cons
  obtain ⟨a8, r8, rfl, l8, u8, h⟩ := h.cons
  obtain ⟨a9, r9, rfl, l9, u9, h⟩ := h.cons
  obtain ⟨a10, r10, rfl, l10, u10, h⟩ := h.cons
  obtain ⟨a11, r11, rfl, l11, u11, h⟩ := h.cons
  obtain ⟨a12, r12, rfl, l12, u12, h⟩ := h.cons
  obtain ⟨a13, r13, rfl, l13, u13, h⟩ := h.cons
  obtain rfl := h.nil
  exact ⟨_, _, _, _, _, _, _, _, _, _, _, _, _, _, rfl, ⟨l0, u0⟩, ⟨l1, u1⟩, ⟨l2, u2⟩, ⟨l3, u3⟩, ⟨l4, u4⟩, ⟨l5, u5⟩, ⟨l6, u6⟩, ⟨l7, u7⟩, ⟨l8, u8⟩, ⟨l9, u9⟩, ⟨l10, u10⟩, ⟨l11, u11⟩, ⟨l12, u12⟩, ⟨l13, u13⟩⟩
theorem InB.d15 {ds : List Int} {s0 s1 s2 s3 s4 s5 s6 s7 s8 s9 s10 s11 s12 s13 s14 : Int} (h : InB ds [s0, s1, s2, s3, s4, s5, s6, s7, s8, s9, s10, s11, s12, s13, s14]) : ∃ a0 a1 a2 a3 a4 a5 a6 a7 a8 a9 a10 a11 a12 a13 a14, ds = [a0, a1, a2, a3, a4, a5, a6, a7, a8, a9, a10, a11, a12, a13, a14] ∧ (0 ≤ a0 ∧ a0 < s0) ∧ (0 ≤ a1 ∧ a1 < s1) ∧ (0 ≤ a2 ∧ a2 < s2) ∧ (0 ≤ a3 ∧ a3 < s3) ∧ (0 ≤ a4 ∧ a4 < s4) ∧ (0 ≤ a5 ∧ a5 < s5) ∧ (0 ≤ a6 ∧ a6 < s6) ∧ (0 ≤ a7 ∧ a7 < s7) ∧ (0 ≤ a8 ∧ a8 < s8) ∧ (0 ≤ a9 ∧ a9 < s9) ∧ (0 ≤ a10 ∧ a10 < s10) ∧ (0 ≤ a11 ∧ a11 < s11) ∧ (0 ≤ a12 ∧ a12 < s12) ∧ (0 ≤ a13 ∧ a13 < s13) ∧ (0 ≤ a14 ∧ a14 < s14) := by
  obtain ⟨a0, r0, rfl, l0, u0, h⟩ := h.cons
  obtain ⟨a1, r1, rfl, l1, u1, h⟩ := h.cons
  obtain ⟨a2, r2, rfl, l2, u2, h⟩ := h.cons
  obtain ⟨a3, r3, rfl, l3, u3, h⟩ := h.cons
  obtain ⟨a4, r4, rfl, l4, u4, h⟩ := h.cons
  obtain ⟨a5, r5, rfl, l5, u5, h⟩ := h.cons
  obtain ⟨a6, r6, rfl, l6, u6, h⟩ := h.cons
  obtain ⟨a7, r7, rfl, l7, u7, h⟩ := h.cons
  obtain ⟨a8, r8, rfl, l8, u8, h⟩ := h.cons
  obtain ⟨a9, r9, rfl, l9, u9, h⟩ := h.cons
  obtain ⟨a10, r10, rfl, l10, u10, h⟩ := h.cons
  obtain ⟨a11, r11, rfl, l11, u11, h⟩ := h.cons
  obtain ⟨a12, r12, rfl, l12, u12, h⟩ := h.cons
  obtain ⟨a13, r13, rfl, l13, u13, h⟩ := h.cons
  obtain ⟨a14, r14, rfl, l14, u14, h⟩ := h.cons
  obtain rfl := h.nil
  exact ⟨_, _, _, _, _, _, _, _, _, _, _, _, _, _, _, rfl, ⟨l0, u0⟩, ⟨l1, u1⟩, ⟨l2, u2⟩, ⟨l3, u3⟩, ⟨l4, u4⟩, ⟨l5, u5⟩, ⟨l6, u6⟩, ⟨l7, u7⟩, ⟨l8, u8⟩, ⟨l9, u9⟩, ⟨l10, u10⟩, ⟨l11, u11⟩, ⟨l12, u12⟩, ⟨l13, u13⟩, ⟨l14, u14⟩⟩
theorem InB.d16 {ds : List Int} {s0 s1 s2 s3 s4 s5 s6 s7 s8 s9 s10 s11 s12 s13 s14 s15 : Int} (h : InB ds [s0, s1, s2, s3, s4, s5, s6, s7, s8, s9, s10, s11, s12, s13, s14, s15]) : ∃ a0 a1 a2 a3 a4 a5 a6 a7 a8 a9 a10 a11 a12 a13 a14 a15, ds = [a0, a1, a2, a3, a4, a5, a6, a7, a8, a9, a10, a11, a12, a13, a14, a15] ∧ (0 ≤ a0 ∧ a0 < s0) ∧ (0 ≤ a1 ∧ a1 < s1) ∧ (0 ≤ a2 ∧ a2 < s2) ∧ (0 ≤ a3 ∧ a3 < s3) ∧ (0 ≤ a4 ∧ a4 < s4) ∧ (0 ≤ a5 ∧ a5 < s5) ∧ (0 ≤ a6 ∧ a6 < s6) ∧ (0 ≤ a7 ∧ a7 < s7) ∧ (0 ≤ a8 ∧ a8 < s8) ∧ (0 ≤ a9 ∧ a9 < s9) ∧ (0 ≤ a10 ∧ a10 < s10) ∧ (0 ≤ a11 ∧ a11 < s11) ∧ (0 ≤ a12 ∧ a12 < s12) ∧ (0 ≤ a13 ∧ a13 < s13) ∧ (0 ≤ a14 ∧ a14 < s14) ∧ (0 ≤ a15 ∧ a15 < s15) := by
  obtain ⟨a0, r0, rfl, l0, u0, h⟩ := h.cons
  obtain ⟨a1, r1, rfl, l1, u1, h⟩ := h.cons
  obtain ⟨a2, r2, rfl, l2, u2, h⟩ := h.cons
  obtain ⟨a3, r3, rfl, l3, u3, h⟩ := h.cons
  obtain ⟨a4, r4, rfl, l4, u4, h⟩ := h.cons
  obtain ⟨a5, r5, rfl, l5, u5, h⟩ := h.cons
  obtain ⟨a6, r6, rfl, l6, u6, h⟩ := h.cons
  obtain ⟨a7, r7, rfl, l7, u7, h⟩ := h.cons
  obtain ⟨a8, r8, rfl, l8, u8, h⟩ := h.cons
  obtain ⟨a9, r9, rfl, l9, u9, h⟩ := h.cons
  obtain ⟨a10, r10, rfl, l10, u10, h⟩ := h.cons
  obtain ⟨a11, r11, rfl, l11, u11, h⟩ := h.cons
  obtain ⟨a12, r12, rfl, l12, u12, h⟩ := h.cons
  obtain ⟨a13, r13, rfl, l13, u13, h⟩ := h.cons
  obtain ⟨a14, r14, rfl, l14, u14, h⟩ := h.cons
  obtain ⟨a15, r15, rfl, l15, u15, h⟩ := h.cons
  obtain rfl := h.nil
  exact ⟨_, _, _, _, _, _, _, _, _, _, _, _, _, _, _, _, rfl, ⟨l0, u0⟩, ⟨l1, u1⟩, ⟨l2, u2⟩, ⟨l3, u3⟩, ⟨l4, u4⟩, ⟨l5, u5⟩, ⟨l6, u6⟩, ⟨l7, u7⟩, ⟨l8, u8⟩, ⟨l9, u9⟩, ⟨l10, u10⟩, ⟨l11, u11⟩, ⟨l12, u12⟩, ⟨l13, u13⟩, ⟨l14, u14⟩, ⟨l15, u15⟩⟩
theorem InB.d17 {ds : List Int} {s0 s1 s2 s3 s4 s5 s6 s7 s8 s9 s10 s11 s12 s13 s14 s15 s16 : Int} (h : InB ds [s0, s1, s2, s3, s4, s5, s6, s7, s8, s9, s10, s11, s12, s13, s14, s15, s16]) : ∃ a0 a1 a2 a3 a4 a5 a6 a7 a8 a9 a10 a11 a12 a13 a14 a15 a16, ds = [a0, a1, a2, a3, a4, a5, a6, a7, a8, a9, a10, a11, a12, a13, a14, a15, a16] ∧ (0 ≤ a0 ∧ a0 < s0) ∧ (0 ≤ a1 ∧ a1 < s1) ∧ (0 ≤ a2 ∧ a2 < s2) ∧ (0 ≤ a3 ∧ a3 < s3) ∧ (0 ≤ a4 ∧ a4 < s4) ∧ (0 ≤ a5 ∧ a5 < s5) ∧ (0 ≤ a6 ∧ a6 < s6) ∧ (0 ≤ a7 ∧ a7 < s7) ∧ (0 ≤ a8 ∧ a8 < s8) ∧ (0 ≤ a9 ∧ a9 < s9) ∧ (0 ≤ a10 ∧ a10 < s10) ∧ (0 ≤ a11 ∧ a11 < s11) ∧ (0 ≤ a12 ∧ a12 < s12) ∧ (0 ≤ a13 ∧ a13 < s13) ∧ (0 ≤ a14 ∧ a14 < s14) ∧ (0 ≤ a15 ∧ a15 < s15) ∧ (0 ≤ a16 ∧ a16 < s16) := by
  obtain ⟨a0, r0, rfl, l0, u0, h⟩ := h.cons
  obtain ⟨a1, r1, rfl, l1, u1, h⟩ := h.cons
  obtain ⟨a2, r2, rfl, l2, u2, h⟩ := h.cons
  obtain ⟨a3, r3, rfl, l3, u3, h⟩ := h.cons
  obtain ⟨a4, r4, rfl, l4, u4, h⟩ := h.cons
  obtain ⟨a5, r5, rfl, l5, u5, h⟩ := h.cons
  obtain ⟨a6, r6, rfl, l6, u6, h⟩ := h.cons
  obtain ⟨a7, r7, rfl, l7, u7, h⟩ := h.cons
  obtain ⟨a8, r8, rfl, l8, u8, h⟩ := h.cons
  obtain ⟨a9, r9, rfl, l9, u9, h⟩ := h.cons
  obtain ⟨a10, r10, rfl, l10, u10, h⟩ := h.cons
  obtain ⟨a11, r11, rfl, l11, u11, h⟩ := h.cons
  obtain ⟨a12, r12, rfl, l12, u12, h⟩ := h.cons
  obtain ⟨a13, r13, rfl, l13, u13, h⟩ := h.cons
  obtain ⟨a14, r14, rfl, l14, u14, h⟩ := h.cons
  obtain ⟨a15, r15, rfl, l15, u15, h⟩ := h.cons
  obtain ⟨a16, r16, rfl, l16, u16, h⟩ := h.cons
  obtain rfl := h.nil
  exact ⟨_, _, _, _, _, _, _, _, _, _, _, _, _, _, _, _, _, rfl, ⟨l0, u0⟩, ⟨l1, u1⟩, ⟨l2, u2⟩, ⟨l3, u3⟩, ⟨l4, u4⟩, ⟨l5, u5⟩, ⟨l6, u6⟩, ⟨l7, u7⟩, ⟨l8, u8⟩, ⟨l9, u9⟩, ⟨l10, u10⟩, ⟨l11, u11⟩, ⟨l12, u12⟩, ⟨l13, u13⟩, ⟨l14, u14⟩, ⟨l15, u15⟩, ⟨l16, u16⟩⟩
theorem InB.d18 {ds : List Int} {s0 s1 s2 s3 s4 s5 s6 s7 s8 s9 s10 s11 s12 s13 s14 s15 s16 s17 : Int} (h : InB ds [s0, s1, s2, s3, s4, s5, s6, s7, s8, s9, s10, s11, s12, s13, s14, s15, s16, s17]) : ∃ a0 a1 a2 a3 a4 a5 a6 a7 a8 a9 a10 a11 a12 a13 a14 a15 a16 a17, ds = [a0, a1, a2, a3, a4, a5, a6, a7, a8, a9, a10, a11, a12, a13, a14, a15, a16, a17] ∧ (0 ≤ a0 ∧ a0 < s0) ∧ (0 ≤ a1 ∧ a1 < s1) ∧ (0 ≤ a2 ∧ a2 < s2) ∧ (0 ≤ a3 ∧ a3 < s3) ∧ (0 ≤ a4 ∧ a4 < s4) ∧ (0 ≤ a5 ∧ a5 < s5) ∧ (0 ≤ a6 ∧ a6 < s6) ∧ (0 ≤ a7 ∧ a7 < s7) ∧ (0 ≤ a8 ∧ a8 < s8) ∧ (0 ≤ a9 ∧ a9 < s9) ∧ (0 ≤ a10 ∧ a10 < s10) ∧ (0 ≤ a11 ∧ a11 < s11) ∧ (0 ≤ a12 ∧ a12 < s12) ∧ (0 ≤ a13 ∧ a13 < s13) ∧ (0 ≤ a14 ∧ a14 < s14) ∧ (0 ≤ a15 ∧ a15 < s15) ∧ (0 ≤ a16 ∧ a16 < s16) ∧ (0 ≤ a17 ∧ a17 < s17) := by
  obtain ⟨a0, r0, rfl, l0, u0, h⟩ := h.cons
  obtain ⟨a1, r1, rfl, l1, u1, h⟩ := h.cons
  obtain ⟨a2, r2, rfl, l2, u2, h⟩ := h.cons
  obtain ⟨a3, r3, rfl, l3, u3, h⟩ := h.cons
  obtain ⟨a4, r4, rfl, l4, u4, h⟩ := h.cons
  obtain ⟨a5, r5, rfl, l5, u5, h⟩ := h.cons
  obtain ⟨a6, r6, rfl, l6, u6, h⟩ := h.cons
  obtain ⟨a7, r7, rfl, l7, u7, h⟩ := h.cons
  obtain ⟨a8, r8, rfl, l8, u8, h⟩ := h.cons
  obtain ⟨a9, r9, rfl, l9, u9, h⟩ := h.cons
  obtain ⟨a10, r10, rfl, l10, u10, h⟩ := h.cons
  obtain ⟨a11, r11, rfl, l11, u11, h⟩ := h.cons
  obtain ⟨a12, r12, rfl, l12, u12, h⟩ := h.cons
  obtain ⟨a13, r13, rfl, l13, u13, h⟩ := h.cons
  obtain ⟨a14, r14, rfl, l14, u14, h⟩ := h.cons
  obtain ⟨a15, r15, rfl, l15, u15, h⟩ := h.cons
  obtain ⟨a16, r16, rfl, l16, u16, h⟩ := h.cons
  obtain ⟨a17, r17, rfl, l17, u17, h⟩ := h.cons
  obtain rfl := h.nil
  exact ⟨_, _, _, _, _, _, _, _, _, _, _, _, _, _, _, _, _, _, rfl, ⟨l0, u0⟩, ⟨l1, u1⟩, ⟨l2, u2⟩, ⟨l3, u3⟩, ⟨l4, u4⟩, ⟨l5, u5⟩, ⟨l6, u6⟩, ⟨l7, u7⟩, ⟨l8, u8⟩, ⟨l9, u9⟩, ⟨l10, u10⟩, ⟨l11, u11⟩, ⟨l12, u12⟩, ⟨l13, u13⟩, ⟨l14, u14⟩, ⟨l15, u15⟩, ⟨l16, u16⟩, ⟨l17, u17⟩⟩
theorem InB.d19 {ds : List Int} {s0 s1 s2 s3 s4 s5 s6 s7 s8 s9 s10 s11 s12 s13 s14 s15 s16 s17 s18 : Int} (h : InB ds [s0, s1, s2, s3, s4, s5, s6, s7, s8, s9, s10, s11, s12, s13, s14, s15, s16, s17, s18]) : ∃ a0 a1 a2 a3 a4 a5 a6 a7 a8 a9 a10 a11 a12 a13 a14 a15 a16 a17 a18, ds = [a0, a1, a2, a3, a4, a5, a6, a7, a8, a9, a10, a11, a12, a13, a14, a15, a16, a17, a18] ∧ (0 ≤ a0 ∧ a0 < s0) ∧ (0 ≤ a1 ∧ a1 < s1) ∧ (0 ≤ a2 ∧ a2 < s2) ∧ (0 ≤ a3 ∧ a3 < s3) ∧ (0 ≤ a4 ∧ a4 < s4) ∧ (0 ≤ a5 ∧ a5 < s5) ∧ (0 ≤ a6 ∧ a6 < s6) ∧ (0 ≤ a7 ∧ a7 < s7) ∧ (0 ≤ a8 ∧ a8 < s8) ∧ (0 ≤ a9 ∧ a9 < s9) ∧ (0 ≤ a10 ∧ a10 < s10) ∧ (0 ≤ a11 ∧ a11 < s11) ∧ (0 ≤ a12 ∧ a12 < s12) ∧ (0 ≤ a13 ∧ a13 < s13) ∧ (0 ≤ a14 ∧ a14 < s14) ∧ (0 ≤ a15 ∧ a15 < s15) ∧ (0 ≤ a16 ∧ a16 < s16) ∧ (0 ≤ a17 ∧ a17 < s17) ∧ (0 ≤ a18 ∧ a18 < s18) := by
  obtain ⟨a0, r0, rfl, l0, u0, h⟩ := h.cons
  obtain ⟨a1, r1, rfl, l1, u1, h⟩ := h.cons
  obtain ⟨a2, r2, rfl, l2, u2, h⟩ := h.cons
  obtain ⟨a3, r3, rfl, l3, u3, h⟩ := h.cons
  obtain ⟨a4, r4, rfl, l4, u4, h⟩ := h.cons
  obtain ⟨a5, r5, rfl, l5, u5, h⟩ := h.cons
  obtain ⟨a6, r6, rfl, l6, u6, h⟩ := h.cons
  obtain ⟨a7, r7, rfl, l7, u7, h⟩ := h.cons
  obtain ⟨a8, r8, rfl, l8, u8, h⟩ := h.cons
  obtain ⟨a9, r9, rfl, l9, u9, h⟩ := h.cons
  obtain ⟨a10, r10, rfl, l10, u10, h⟩ := h.cons
  obtain ⟨a11, r11, rfl, l11, u11, h⟩ := h.cons
  obtain ⟨a12, r12, rfl, l12, u12, h⟩ := h.cons
  obtain ⟨a13, r13, rfl, l13, u13, h⟩ := h.cons
  obtain ⟨a14, r14, rfl, l14, u14, h⟩ := h.cons
  obtain ⟨a15, r15, rfl, l15, u15, h⟩ := h.cons
  obtain ⟨a16, r16, rfl, l16, u16, h⟩ := h.cons
  obtain ⟨a17, r17, rfl, l17, u17, h⟩ := h.cons
  obtain ⟨a18, r18, rfl, l18, u18, h⟩ := h.cons
  obtain rfl := h.nil
  exact ⟨_, _, _, _, _, _, _, _, _, _, _, _, _, _, _, _, _, _, _, rfl, ⟨l0, u0⟩, ⟨l1, u1⟩, ⟨l2, u2⟩, ⟨l3, u3⟩, ⟨l4, u4⟩, ⟨l5, u5⟩, ⟨l6, u6⟩, ⟨l7, u7⟩, ⟨l8, u8⟩, ⟨l9, u9⟩, ⟨l10, u10⟩, ⟨l11, u11⟩, ⟨l12, u12⟩, ⟨l13, u13⟩, ⟨l14, u14⟩, ⟨l15, u15⟩, ⟨l16, u16⟩, ⟨l17, u17⟩, ⟨l18, u18⟩⟩
theorem InB.d20 {ds : List Int} {s0 s1 s2 s3 s4 s5 s6 s7 s8 s9 s10 s11 s12 s13 s14 s15 s16 s17 s18 s19 : Int} (h : InB ds [s0, s1, s2, s3, s4, s5, s6, s7, s8, s9, s10, s11, s12, s13, s14, s15, s16, s17, s18, s19]) : ∃ a0 a1 a2 a3 a4 a5 a6 a7 a8 a9 a10 a11 a12 a13 a14 a15 a16 a17 a18 a19, ds = [a0, a1, a2, a3, a4, a5, a6, a7, a8, a9, a10, a11, a12, a13, a14, a15, a16, a17, a18, a19] ∧ (0 ≤ a0 ∧ a0 < s0) ∧ (0 ≤ a1 ∧ a1 < s1) ∧ (0 ≤ a2 ∧ a2 < s2) ∧ (0 ≤ a3 ∧ a3 < s3) ∧ (0 ≤ a4 ∧ a4 < s4) ∧ (0 ≤ a5 ∧ a5 < s5) ∧ (0 ≤ a6 ∧ a6 < s6) ∧ (0 ≤ a7 ∧ a7 < s7) ∧ (0 ≤ a8 ∧ a8 < s8) ∧ (0 ≤ a9 ∧ a9 < s9) ∧ (0 ≤ a10 ∧ a10 < s10) ∧ (0 ≤ a11 ∧ a11 < s11) ∧ (0 ≤ a12 ∧ a12 < s12) ∧ (0 ≤ a13 ∧ a13 < s13) ∧ (0 ≤ a14 ∧ a14 < s14) ∧ (0 ≤ a15 ∧ a15 < s15) ∧ (0 ≤ a16 ∧ a16 < s16) ∧ (0 ≤ a17 ∧ a17 < s17) ∧ (0 ≤ a18 ∧ a18 < s18) ∧ (0 ≤ a19 ∧ a19 < s19) := by
  obtain ⟨a0, r0, rfl, l0, u0, h⟩ := h.cons
  obtain ⟨a1, r1, rfl, l1, u1, h⟩ := h.cons
  obtain ⟨a2, r2, rfl, l2, u2, h⟩ := h.cons
  obtain ⟨a3, r3, rfl, l3, u3, h⟩ := h.cons
  obtain ⟨a4, r4, rfl, l4, u4, h⟩ := h.cons
  obtain ⟨a5, r5, rfl, l5, u5, h⟩ := h.cons
  obtain ⟨a6, r6, rfl, l6, u6, h⟩ := h.cons
  obtain ⟨a7, r7, rfl, l7, u7, h⟩ := h.cons
  obtain ⟨a8, r8, rfl, l8, u8, h⟩ := h.cons
  obtain ⟨a9, r9, rfl, l9, u9, h⟩ := h.cons
  obtain ⟨a10, r10, rfl, l10, u10, h⟩ := h.cons
  obtain ⟨a11, r11, rfl, l11, u11, h⟩ := h.cons
  obtain ⟨a12, r12, rfl, l12, u12, h⟩ := h.cons
  obtain ⟨a13, r13, rfl, l13, u13, h⟩ := h.cons
  obtain ⟨a14, r14, rfl, l14, u14, h⟩ := h.cons
  obtain ⟨a15, r15, rfl, l15, u15, h⟩ := h.cons
  obtain ⟨a16, r16, rfl, l16, u16, h⟩ := h.cons
  obtain ⟨a17, r17, rfl, l17, u17, h⟩ := h.cons
  obtain ⟨a18, r18, rfl, l18, u18, h⟩ := h.cons
  obtain ⟨a19, r19, rfl, l19, u19, h⟩ := h.cons
  obtain rfl := h.nil
  exact ⟨_, _, _, _, _, _, _, _, _, _, _, _, _, _, _, _, _, _, _, _, rfl, ⟨l0, u0⟩, ⟨l1, u1⟩, ⟨l2, u2⟩, ⟨l3, u3⟩, ⟨l4, u4⟩, ⟨l5, u5⟩, ⟨l6, u6⟩, ⟨l7, u7⟩, ⟨l8, u8⟩, ⟨l9, u9⟩, ⟨l10, u10⟩, ⟨l11, u11⟩, ⟨l12, u12⟩, ⟨l13, u13⟩, ⟨l14, u14⟩, ⟨l15, u15⟩, ⟨l16, u16⟩, ⟨l17, u17⟩, ⟨l18, u18⟩, ⟨l19, u19⟩⟩
theorem InB.d21 {ds : List Int} {s0 s1 s2 s3 s4 s5 s6 s7 s8 s9 s10 s11 s12 s13 s14 s15 s16 s17 s18 s19 s20 : Int} (h : InB ds [s0, s1, s2, s3, s4, s5, s6, s7, s8, s9, s10, s11, s12, s13, s14, s15, s16, s17, s18, s19, s20]) : ∃ a0 a1 a2 a3 a4 a5 a6 a7 a8 a9 a10 a11 a12 a13 a14 a15 a16 a17 a18 a19 a20, ds = [a0, a1, a2, a3, a4, a5, a6, a7, a8, a9, a10, a11, a12, a13, a14, a15, a16, a17, a18, a19, a20] ∧ (0 ≤ a0 ∧ a0 < s0) ∧ (0 ≤ a1 ∧ a1 < s1) ∧ (0 ≤ a2 ∧ a2 < s2) ∧ (0 ≤ a3 ∧ a3 < s3) ∧ (0 ≤ a4 ∧ a4 < s4) ∧ (0 ≤ a5 ∧ a5 < s5) ∧ (0 ≤ a6 ∧ a6 < s6) ∧ (0 ≤ a7 ∧ a7 < s7) ∧ (0 ≤ a8 ∧ a8 < s8) ∧ (0 ≤ a9 ∧ a9 < s9) ∧ (0 ≤ a10 ∧ a10 < s10) ∧ (0 ≤ a11 ∧ a11 < s11) ∧ (0 ≤ a12 ∧ a12 < s12) ∧ (0 ≤ a13 ∧ a13 < s13) ∧ (0 ≤ a14 ∧ a14 < s14) ∧ (0 ≤ a15 ∧ a15 < s15) ∧ (0 ≤ a16 ∧ a16 < s16) ∧ (0 ≤ a17 ∧ a17 < s17) ∧ (0 ≤ a18 ∧ a18 < s18) ∧ (0 ≤ a19 ∧ a19 < s19) ∧ (0 ≤ a20 ∧ a20 < s20) := by
  obtain ⟨a0, r0, rfl, l0, u0, h⟩ := h.cons
  obtain ⟨a1, r1, rfl, l1, u1, h⟩ := h.cons
  obtain ⟨a2, r2, rfl, l2, u2, h⟩ := h.cons
  obtain ⟨a3, r3, rfl, l3, u3, h⟩ := h.cons
  obtain ⟨a4, r4, rfl, l4, u4, h⟩ := h.cons
  obtain ⟨a5, r5, rfl, l5, u5, h⟩ := h.cons
  obtain ⟨a6, r6, rfl, l6, u6, h⟩ := h.cons
  obtain ⟨a7, r7, rfl, l7, u7, h⟩ := h.cons
  obtain ⟨a8, r8, rfl, l8, u8, h⟩ := h.cons
  obtain ⟨a9, r9, rfl, l9, u9, h⟩ := h.cons
  obtain ⟨a10, r10, rfl, l10, u10, h⟩ := h.cons
  obtain ⟨a11, r11, rfl, l11, u11, h⟩ := h.cons
  obtain ⟨a12, r12, rfl, l12, u12, h⟩ := h.cons
  obtain ⟨a13, r13, rfl, l13, u13, h⟩ := h.cons
  obtain ⟨a14, r14, rfl, l14, u14, h⟩ := h.cons
  obtain ⟨a15, r15, rfl, l15, u15, h⟩ := h.cons
  obtain ⟨a16, r16, rfl, l16, u16, h⟩ := h.cons
  obtain ⟨a17, r17, rfl, l17, u17, h⟩ := h.cons
  obtain ⟨a18, r18, rfl, l18, u18, h⟩ := h.cons
  obtain ⟨a19, r19, rfl, l19, u19, h⟩ := h.cons
  obtain ⟨a20, r20, rfl, l20, u20, h⟩ := h.cons
  obtain rfl := h.nil
  exact ⟨_, _, _, _, _, _, _, _, _, _, _, _, _, _, _, _, _, _, _, _, _, rfl, ⟨l0, u0⟩, ⟨l1, u1⟩, ⟨l2, u2⟩, ⟨l3, u3⟩, ⟨l4, u4⟩, ⟨l5, u5⟩, ⟨l6, u6⟩, ⟨l7, u7⟩, ⟨l8, u8⟩, ⟨l9, u9⟩, ⟨l10, u10⟩, ⟨l11, u11⟩, ⟨l12, u12⟩, ⟨l13, u13⟩, ⟨l14, u14⟩, ⟨l15, u15⟩, ⟨l16, u16⟩, ⟨l17, u17⟩, ⟨l18, u18⟩, ⟨l19, u19⟩, ⟨l20, u20⟩⟩
theorem InB.d22 {ds : List Int} {s0 s1 s2 s3 s4 s5 s6 s7 s8 s9 s10 s11 s12 s13 s14 s15 s16 s17 s18 s19 s20 s21 : Int} (h : InB ds [s0, s1, s2, s3, s4, s5, s6, s7, s8, s9, s10, s11, s12, s13, s14, s15, s16, s17, s18, s19, s20, s21]) : ∃ a0 a1 a2 a3 a4 a5 a6 a7 a8 a9 a10 a11 a12 a13 a14 a15 a16 a17 a18 a19 a20 a21, ds = [a0, a1, a2, a3, a4, a5, a6, a7, a8, a9, a10, a11, a12, a13, a14, a15, a16, a17, a18, a19, a20, a21] ∧ (0 ≤ a0 ∧ a0 < s0) ∧ (0 ≤ a1 ∧ a1 < s1) ∧ (0 ≤ a2 ∧ a2 < s2) ∧ (0 ≤ a3 ∧ a3 < s3) ∧ (0 ≤ a4 ∧ a4 < s4) ∧ (0 ≤ a5 ∧ a5 < s5) ∧ (0 ≤ a6 ∧ a6 < s6) ∧ (0 ≤ a7 ∧ a7 < s7) ∧ (0 ≤ a8 ∧ a8 < s8) ∧ (0 ≤ a9 ∧ a9 < s9) ∧ (0 ≤ a10 ∧ a10 < s10) ∧ (0 ≤ a11 ∧ a11 < s11) ∧ (0 ≤ a12 ∧ a12 < s12) ∧ (0 ≤ a13 ∧ a13 < s13) ∧ (0 ≤ a14 ∧ a14 < s14) ∧ (0 ≤ a15 ∧ a15 < s15) ∧ (0 ≤ a16 ∧ a16 < s16) ∧ (0 ≤ a17 ∧ a17 < s17) ∧ (0 ≤ a18 ∧ a18 < s18) ∧ (0 ≤ a19 ∧ a19 < s19) ∧ (0 ≤ a20 ∧ a20 < s20) ∧ (0 ≤ a21 ∧ a21 < s21) := by
  obtain ⟨a0, r0, rfl, l0, u0, h⟩ := h.cons
  obtain ⟨a1, r1, rfl, l1, u1, h⟩ := h.cons
  obtain ⟨a2, r2, rfl, l2, u2, h⟩ := h.cons
  obtain ⟨a3, r3, rfl, l3, u3, h⟩ := h.cons
  obtain ⟨a4, r4, rfl, l4, u4, h⟩ := h.cons
  obtain ⟨a5, r5, rfl, l5, u5, h⟩ := h.cons
  obtain ⟨a6, r6, rfl, l6, u6, h⟩ := h.cons
  obtain ⟨a7, r7, rfl, l7, u7, h⟩ := h.cons
  obtain ⟨a8, r8, rfl, l8, u8, h⟩ := h.cons
  obtain ⟨a9, r9, rfl, l9, u9, h⟩ := h.cons
  obtain ⟨a10, r10, rfl, l10, u10, h⟩ := h.cons
  obtain ⟨a11, r11, rfl, l11, u11, h⟩ := h.cons
  obtain ⟨a12, r12, rfl, l12, u12, h⟩ := h.cons
  obtain ⟨a13, r13, rfl, l13, u13, h⟩ := h.cons
  obtain ⟨a14, r14, rfl, l14, u14, h⟩ := h.cons
  obtain ⟨a15, r15, rfl, l15, u15, h⟩ := h.cons
  obtain ⟨a16, r16, rfl, l16, u16, h⟩ := h.cons
  obtain ⟨a17, r17, rfl, l17, u17, h⟩ := h.cons
  obtain ⟨a18, r18, rfl, l18, u18, h⟩ := h.cons
  obtain ⟨a19, r19, rfl, l19, u19, h⟩ := h.cons
  obtain ⟨a20, r20, rfl, l20, u20, h⟩ := h.cons
  obtain ⟨a21, r21, rfl, l21, u21, h⟩ := h.cons
  obtain rfl := h.nil
  exact ⟨_, _, _, _, _, _, _, _, _, _, _, _, _, _, _, _, _, _, _, _, _, _, rfl, ⟨l0, u0⟩, ⟨l1, u1⟩, ⟨l2, u2⟩, ⟨l3, u3⟩, ⟨l4, u4⟩, ⟨l5, u5⟩, ⟨l6, u6⟩, ⟨l7, u7⟩, ⟨l8, u8⟩, ⟨l9, u9⟩, ⟨l10, u10⟩, ⟨l11, u11⟩, ⟨l12, u12⟩, ⟨l13, u13⟩, ⟨l14, u14⟩, ⟨l15, u15⟩, ⟨l16, u16⟩, ⟨l17, u17⟩, ⟨l18, u18⟩, ⟨l19, u19⟩, ⟨l20, u20⟩, ⟨l21, u21⟩⟩
theorem InB.d23 {ds : List Int} {s0 s1 s2 s3 s4 s5 s6 s7 s8 s9 s10 s11 s12 s13 s14 s15 s16 s17 s18 s19 s20 s21 s22 : Int} (h : InB ds [s0, s1, s2, s3, s4, s5, s6, s7, s8, s9, s10, s11, s12, s13, s14, s15, s16, s17, s18, s19, s20, s21, s22]) : ∃ a0 a1 a2 a3 a4 a5 a6 a7 a8 a9 a10 a11 a12 a13 a14 a15 a16 a17 a18 a19 a20 a21 a22, ds = [a0, a1, a2, a3, a4, a5, a6, a7, a8, a9, a10, a11, a12, a13, a14, a15, a16, a17, a18, a19, a20, a21, a22] ∧ (0 ≤ a0 ∧ a0 < s0) ∧ (0 ≤ a1 ∧ a1 < s1) ∧ (0 ≤ a2 ∧ a2 < s2) ∧ (0 ≤ a3 ∧ a3 < s3) ∧ (0 ≤ a4 ∧ a4 < s4) ∧ (0 ≤ a5 ∧ a5 < s5) ∧ (0 ≤ a6 ∧ a6 < s6) ∧ (0 ≤ a7 ∧ a7 < s7) ∧ (0 ≤ a8 ∧ a8 < s8) ∧ (0 ≤ a9 ∧ a9 < s9) ∧ (0 ≤ a10 ∧ a10 < s10) ∧ (0 ≤ a11 ∧ a11 < s11) ∧ (0 ≤ a12 ∧ a12 < s12) ∧ (0 ≤ a13 ∧ a13 < s13) ∧ (0 ≤ a14 ∧ a14 < s14) ∧ (0 ≤ a15 ∧ a15 < s15) ∧ (0 ≤ a16 ∧ a16 < s16) ∧ (0 ≤ a17 ∧ a17 < s17) ∧ (0 ≤ a18 ∧ a18 < s18) ∧ (0 ≤ a19 ∧ a19 < s19) ∧ (0 ≤ a20 ∧ a20 < s20) ∧ (0 ≤ a21 ∧ a21 < s21) ∧ (0 ≤ a22 ∧ a22 < s22) := by
  obtain ⟨a0, r0, rfl, l0, u0, h⟩ := h.cons
  obtain ⟨a1, r1, rfl, l1, u1, h⟩ := h.cons
  obtain ⟨a2, r2, rfl, l2, u2, h⟩ := h.cons
  obtain ⟨a3, r3, rfl, l3, u3, h⟩ := h.cons
  obtain ⟨a4, r4, rfl, l4, u4, h⟩ := h.cons
  obtain ⟨a5, r5, rfl, l5, u5, h⟩ := h.cons
  obtain ⟨a6, r6, rfl, l6, u6, h⟩ := h.cons
  obtain ⟨a7, r7, rfl, l7, u7, h⟩ := h.cons
  obtain ⟨a8, r8, rfl, l8, u8, h⟩ := h.cons
  obtain ⟨a9, r9, rfl, l9, u9, h⟩ := h.cons
  obtain ⟨a10, r10, rfl, l10, u10, h⟩ := h.cons
  obtain ⟨a11, r11, rfl, l11, u11, h⟩ := h.cons
  obtain ⟨a12, r12, rfl, l12, u12, h⟩ := h.cons
  obtain ⟨a13, r13, rfl, l13, u13, h⟩ := h.cons
  obtain ⟨a14, r14, rfl, l14, u14, h⟩ := h.cons
  obtain ⟨a15, r15, rfl, l15, u15, h⟩ := h.cons
  obtain ⟨a16, r16, rfl, l16, u16, h⟩ := h.cons
  obtain ⟨a17, r17, rfl, l17, u17, h⟩ := h.cons
  obtain ⟨a18, r18, rfl, l18, u18, h⟩ := h.cons
  obtain ⟨a19, r19, rfl, l19, u19, h⟩ := h.cons
  obtain ⟨a20, r20, rfl, l20, u20, h⟩ := h.cons
  obtain ⟨a21, r21, rfl, l21, u21, h⟩ := h.cons
  obtain ⟨a22, r22, rfl, l22, u22, h⟩ := h.cons
  obtain rfl := h.nil
  exact ⟨_, _, _, _, _, _, _, _, _, _, _, _, _, _, _, _, _, _, _, _, _, _, _, rfl, ⟨l0, u0⟩, ⟨l1, u1⟩, ⟨l2, u2⟩, ⟨l3, u3⟩, ⟨l4, u4⟩, ⟨l5, u5⟩, ⟨l6, u6⟩, ⟨l7, u7⟩, ⟨l8, u8⟩, ⟨l9, u9⟩, ⟨l10, u10⟩, ⟨l11, u11⟩, ⟨l12, u12⟩, ⟨l13, u13⟩, ⟨l14, u14⟩, ⟨l15, u15⟩, ⟨l16, u16⟩, ⟨l17, u17⟩, ⟨l18, u18⟩, ⟨l19, u19⟩, ⟨l20, u20⟩, ⟨l21, u21⟩, ⟨l22, u22⟩⟩
theorem InB.d24 {ds : List Int} {s0 s1 s2 s3 s4 s5 s6 s7 s8 s9 s10 s11 s12 s13 s14 s15 s16 s17 s18 s19 s20 s21 s22 s23 : Int} (h : InB ds [s0, s1, s2, s3, s4, s5, s6, s7, s8, s9, s10, s11, s12, s13, s14, s15, s16, s17, s18, s19, s20, s21, s22, s23]) : ∃ a0 a1 a2 a3 a4 a5 a6 a7 a8 a9 a10 a11 a12 a13 a14 a15 a16 a17 a18 a19 a20 a21 a22 a23, ds = [a0, a1, a2, a3, a4, a5, a6, a7, a8, a9, a10, a11, a12, a13, a14, a15, a16, a17, a18, a19, a20, a21, a22, a23] ∧ (0 ≤ a0 ∧ a0 < s0) ∧ (0 ≤ a1 ∧ a1 < s1) ∧ (0 ≤ a2 ∧ a2 < s2) ∧ (0 ≤ a3 ∧ a3 < s3) ∧ (0 ≤ a4 ∧ a4 < s4) ∧ (0 ≤ a5 ∧ a5 < s5) ∧ (0 ≤ a6 ∧ a6 < s6) ∧ (0 ≤ a7 ∧ a7 < s7) ∧ (0 ≤ a8 ∧ a8 < s8) ∧ (0 ≤ a9 ∧ a9 < s9) ∧ (0 ≤ a10 ∧ a10 < s10) ∧ (0 ≤ a11 ∧ a11 < s11) ∧ (0 ≤ a12 ∧ a12 < s12) ∧ (0 ≤ a13 ∧ a13 < s13) ∧ (0 ≤ a14 ∧ a14 < s14) ∧ (0 ≤ a15 ∧ a15 < s15) ∧ (0 ≤ a16 ∧ a16 < s16) ∧ (0 ≤ a17 ∧ a17 < s17) ∧ (0 ≤ a18 ∧ a18 < s18) ∧ (0 ≤ a19 ∧ a19 < s19) ∧ (0 ≤ a20 ∧ a20 < s20) ∧ (0 ≤ a21 ∧ a21 < s21) ∧ (0 ≤ a22 ∧ a22 < s22) ∧ (0 ≤ a23 ∧ a23 < s23) := by
  obtain ⟨a0, r0, rfl, l0, u0, h⟩ := h.cons
  obtain ⟨a1, r1, rfl, l1, u1, h⟩ := h.cons
  obtain ⟨a2, r2, rfl, l2, u2, h⟩ := h.cons
  obtain ⟨a3, r3, rfl, l3, u3, h⟩ := h.cons
  obtain ⟨a4, r4, rfl, l4, u4, h⟩ := h.cons
  obtain ⟨a5, r5, rfl, l5, u5, h⟩ := h.cons
  obtain ⟨a6, r6, rfl, l6, u6, h⟩ := h.cons
  obtain ⟨a7, r7, rfl, l7, u7, h⟩ := h.cons
  obtain ⟨a8, r8, rfl, l8, u8, h⟩ := h.cons
  obtain ⟨a9, r9, rfl, l9, u9, h⟩ := h.cons
  obtain ⟨a10, r10, rfl, l10, u10, h⟩ := h.cons
  obtain ⟨a11, r11, rfl, l11, u11, h⟩ := h.cons
  obtain ⟨a12, r12, rfl, l12, u12, h⟩ := h.cons
  obtain ⟨a13, r13, rfl, l13, u13, h⟩ := h.cons
  obtain ⟨a14, r14, rfl, l14, u14, h⟩ := h.cons
  obtain ⟨a15, r15, rfl, l15, u15, h⟩ := h.cons
  obtain ⟨a16, r16, rfl, l16, u16, h⟩ := h.cons
  obtain ⟨a17, r17, rfl, l17, u17, h⟩ := h.cons
  obtain ⟨a18, r18, rfl, l18, u18, h⟩ := h.cons
  obtain ⟨a19, r19, rfl, l19, u19, h⟩ := h.cons
  obtain ⟨a20, r20, rfl, l20, u20, h⟩ := h.cons
  obtain ⟨a21, r21, rfl, l21, u21, h⟩ := h.cons
  obtain ⟨a22, r22, rfl, l22, u22, h⟩ := h.cons
  obtain ⟨a23, r23, rfl, l23, u23, h⟩ := h.cons
  obtain rfl := h.nil
  exact ⟨_, _, _, _, _, _, _, _, _, _, _, _, _, _, _, _, _, _, _, _, _, _, _, _, rfl, ⟨l0, u0⟩, ⟨l1, u1⟩, ⟨l2, u2⟩, ⟨l3, u3⟩, ⟨l4, u4⟩, ⟨l5, u5⟩, ⟨l6, u6⟩, ⟨l7, u7⟩, ⟨l8, u8⟩, ⟨l9, u9⟩, ⟨l10, u10⟩, ⟨l11, u11⟩, ⟨l12, u12⟩, ⟨l13, u13⟩, ⟨l14, u14⟩, ⟨l15, u15⟩, ⟨l16, u16⟩, ⟨l17, u17⟩, ⟨l18, u18⟩, ⟨l19, u19⟩, ⟨l20, u20⟩, ⟨l21, u21⟩, ⟨l22, u22⟩, ⟨l23, u23⟩⟩
end Pf

namespace Pf
open PySem PySem.Spec PyProof.Rows L2
/-! ### counts, footing -/
theorem cntB_f {ls : List Int} {l : Int} : (((ls.filter fun x => decide (x < l)).length : Nat) : Int) = cntB ls l := rfl
theorem cntM_f {ls : List Int} {l : Int} : (((ls.filter fun x => decide (x ≤ l)).length : Nat) : Int) = cntM ls l := rfl
/-- the levels of the sheets that are not set aside -/
def spareL (ls as : List Int) : List Int := (ls.zipIdx.filter fun p => decide ((p.2 : Int) ∉ as)).map fun p => p.1
theorem zipIdx_map' {α β : Type} {f : α → β} {l : List α} {k : Nat} : (l.map f).zipIdx k = (l.zipIdx k).map fun p => (f p.1, p.2) := by
  induction l generalizing k with
  | nil => rfl
  | cons a l ih => simp only [List.map_cons, List.zipIdx_cons, ih]
theorem spareL_rows {rs : List (Int × Str)} {as : List Int} : (rs.zipIdx.filter fun p => decide ((p.2 : Int) ∉ as)).map (fun p => p.1.1) = spareL (rs.map Prod.fst) as := by
  unfold spareL
  rw [zipIdx_map', List.filter_map, List.map_map]
  rfl
theorem gx_cons {α : Type} [Inhabited α] {a : α} {l : List α} {i : Int} (h : 0 ≤ i) : gx (a :: l) (i + 1) = gx l i := by
  rw [gx_nn h, gx_nn (by omega), show (i + 1).toNat = i.toNat + 1 by omega, List.getElem?_cons_succ]
theorem rgI_succ {lo : Int} {n : Nat} : rgI lo (n + 1) = lo :: rgI (lo + 1) n := by
  unfold rgI
  rw [List.range_succ_eq_map, List.map_cons, List.map_map]
  refine List.cons_eq_cons.mpr ⟨by simp, List.map_congr_left fun i _ => ?_⟩
  simp only [Function.comp]
  omega
theorem range_zip {α β : Type} [Inhabited α] (c : Int → Bool) (f : Int → α → β) : ∀ (l : List α) (k : Nat), ((rgI (k : Int) l.length).filter c).map (fun i => f i (gx l (i - (k : Int)))) = ((l.zipIdx k).filter fun p => c (p.2 : Int)).map fun p => f (p.2 : Int) p.1
  | [], k => rfl
  | a :: l, k => by
    have ih := range_zip c f l (k + 1)
    have h1 : ∀ i ∈ rgI ((k : Int) + 1) l.length, gx (a :: l) (i - (k : Int)) = gx l (i - ((k + 1 : Nat) : Int)) := fun i hi => by
      have := rgI_mem.mp hi
      rw [show i - (k : Int) = (i - ((k + 1 : Nat) : Int)) + 1 by omega, gx_cons (by omega)]
    have h2 : ((rgI ((k : Int) + 1) l.length).filter c).map (fun i => f i (gx (a :: l) (i - (k : Int)))) = ((rgI (((k + 1 : Nat) : Int)) l.length).filter c).map (fun i => f i (gx l (i - ((k + 1 : Nat) : Int)))) := by
      rw [show (((k + 1 : Nat) : Int)) = (k : Int) + 1 by omega]
      refine List.map_congr_left fun i hi => ?_
      rw [h1 i (List.mem_filter.mp hi).1, show ((k + 1 : Nat) : Int) = (k : Int) + 1 by omega]
    rw [List.length_cons, rgI_succ, List.zipIdx_cons, List.filter_cons, List.filter_cons]
    have h0 : gx (a :: l) ((k : Int) - (k : Int)) = a := by rw [Int.sub_self]; exact gx_0
    split
    · rename_i hc
      rw [List.map_cons, List.map_cons, h0, h2, ih]
    · rename_i hc
      rw [h2, ih]
theorem spareL_range {ls as : List Int} : ((rgI 0 ls.length).filter fun k => decide (k ∉ as)).map (gx ls) = spareL ls as := by
  have h := range_zip (fun k => decide (k ∉ as)) (fun _ a => a) ls 0
  simp only [Int.natCast_zero, Int.sub_zero] at h
  exact h
theorem spareL_len {ls as : List Int} : (spareL ls as).length ≤ ls.length := by
  unfold spareL
  rw [List.length_map]
  refine Nat.le_trans (List.length_filter_le _ _) ?_
  rw [List.length_zipIdx]; exact Nat.le_refl _
theorem spareL_mem {ls as : List Int} {l : Int} (h : l ∈ spareL ls as) : l ∈ ls := by
  unfold spareL at h
  obtain ⟨⟨r, j⟩, hp, rfl⟩ := List.mem_map.mp h
  have := (List.mem_filter.mp hp).1
  exact List.mem_of_getElem? (List.mem_zipIdx_iff_getElem?.mp this)
theorem spareL_nil {ls : List Int} : spareL ls [] = ls := by
  unfold spareL
  rw [List.filter_eq_self.mpr (by simp)]
  have := @List.zipIdx_map_fst Int 0 ls
  exact this
/-- the footing -/
def footI (t : Int) (sp : List Int) : Int := maxI ((t :: sp).map fun a => a - cntB sp a)
theorem cntB_step {sp : List Int} {a : Int} (h : a ∉ sp) : cntB sp (a + 1) = cntB sp a := by
  unfold cntB
  congr 2
  refine List.filter_congr fun x hx => ?_
  have : x ≠ a := fun e => h (e ▸ hx)
  rw [Bool.eq_iff_iff, decide_eq_true_eq, decide_eq_true_eq]
  omega
/-- every height up to the top tells at most the footing -/
theorem le_footI {t : Int} {sp : List Int} : ∀ (n : Nat) (a : Int), a + (n : Int) = t → a - cntB sp a ≤ footI t sp
  | 0, a, h => le_maxI (List.mem_map.mpr ⟨a, by rw [show a = t by omega]; exact List.mem_cons_self, rfl⟩)
  | n + 1, a, h => by
    by_cases hm : a ∈ sp
    · exact le_maxI (List.mem_map.mpr ⟨a, List.mem_cons_of_mem _ hm, rfl⟩)
    · have := le_footI (t := t) (sp := sp) n (a + 1) (by omega)
      rw [cntB_step hm] at this
      omega
theorem le_foot {t a : Int} {sp : List Int} (h : a ≤ t) : a - cntB sp a ≤ footI t sp := le_footI (t - a).toNat a (by omega)
theorem footI_mem {t : Int} {sp : List Int} : ∃ a ∈ t :: sp, footI t sp = a - cntB sp a := by
  obtain ⟨a, ha, e⟩ := List.mem_map.mp (maxI_mem (l := (t :: sp).map fun a => a - cntB sp a) (by simp))
  exact ⟨a, ha, e.symm⟩
theorem footI_le {t m : Int} {sp : List Int} (h : ∀ a ∈ t :: sp, a - cntB sp a ≤ m) : footI t sp ≤ m := by
  obtain ⟨a, ha, e⟩ := footI_mem (t := t) (sp := sp)
  rw [e]; exact h a ha
theorem footI_low {ls : List Int} (h : 0 < ls.length) : footI (maxI ls) ls = lowI ls := by
  unfold footI lowI
  rw [List.map_cons]
  refine maxI_eq (List.mem_cons_of_mem _ (maxI_mem (by rw [List.length_map]; exact h))) fun x hx => ?_
  rcases List.mem_cons.mp hx with rfl | hx
  · exact le_maxI (List.mem_map.mpr ⟨_, maxI_mem h, rfl⟩)
  · exact le_maxI hx
theorem cntB_nn {ls : List Int} {l : Int} : 0 ≤ cntB ls l := by unfold cntB; omega
theorem cntB_le {ls : List Int} {l : Int} : cntB ls l ≤ (ls.length : Int) := by
  unfold cntB
  have := List.length_filter_le (fun x => decide (x < l)) ls
  omega
theorem cntM_nn {ls : List Int} {l : Int} : 0 ≤ cntM ls l := by unfold cntM; omega
theorem cntM_le {ls : List Int} {l : Int} : cntM ls l ≤ (ls.length : Int) := by
  unfold cntM
  have := List.length_filter_le (fun x => decide (x ≤ l)) ls
  omega
theorem cntB_zero {ls : List Int} {l : Int} (h : ∀ x ∈ ls, l ≤ x) : cntB ls l = 0 := by
  unfold cntB
  rw [List.filter_eq_nil_iff.mpr fun x hx => by have := h x hx; simp; omega]
  rfl
end Pf

namespace Pf
open PySem PySem.Spec PyProof.Rows L2
/-! #### enumerate(o), o of an own class with an __iter__ -/
theorem meetsIn_enum_any {prog : Program} {w : World} (a : Addr) : MeetsIn prog w (Builtin.«enumerate.__new__» ⟨[.type "enumerate", .ref a], []⟩) (fun A R s =>
    wpAny (model prog w) A.in1 (pyIter (.ref a)) (fun it s' => R (.ok (.ret (.ref s'.heap.objs.size))) { s' with heap := s'.heap.push { cls := .type "enumerate", data := .fields #[.none, .bool false, it, rawInt 0, .none, .none] } }) (fun e s' => R (.error e) s') s) := by
  intro A R s h
  have hsub := sub_enumerate
  have h' : ∀ {Q : Value → Shared → Prop}, (∀ it s', R (.ok (.ret (.ref s'.heap.objs.size))) { s' with heap := s'.heap.push { cls := .type "enumerate", data := .fields #[.none, .bool false, it, rawInt 0, .none, .none] } } → Q it s') → wpAny (model prog w) A.in1 (pyIter (.ref a)) Q (fun e s' => R (.error e) s') s := fun hq => wpAny_mono h hq fun _ _ z => z
  wp_walk
  refine wpAny_stack_any fun st => wpAny_pure ?_
  clear h
  split
  · rename_i c _ _ _ _ _
    cases (c == Value.type "enumerate")
    · wp_walk using h'
      intro it s' hr
      wp_walk
      exact hr
    · wp_walk using h'
      intro it s' hr
      wp_walk
      exact hr
  · wp_walk using h'
    intro it s' hr
    wp_walk
    exact hr
/-- what enumerate(o) makes -/
theorem call_enumerate_any {prog : Program} {w : World} {A : Around} {E : Value → Shared → Prop} {s : Shared} {a : Addr} {Q : Value → Shared → Prop}
    (h : wpAny (model prog w) A.in1.in1 (pyIter (.ref a)) (fun it s' => Q (.ref s'.heap.objs.size) { s' with heap := s'.heap.push { cls := .type "enumerate", data := .fields #[.none, .bool false, it, rawInt 0, .none, .none] } }) E s) :
    wpAny (model prog w) A (call (.type "enumerate") [.ref a]) Q E s := by
  refine callType_newIn F.called_enumerate (by decide) (F.typeCall_enumerate_1 _) (F.newCall_enumerate_1 _) (fun obj => F.args_object_init_2 obj _) F.entry_enumerate_new (meetsIn_enum_any a) ?_
  refine wpAny_mono h (fun it s' hq => ?_) fun _ _ z => z
  exact ⟨⟨_, Heap.get?_push_size _ rfl, rfl⟩, hq⟩
section
variable {X : Cx} {CX : CXT} {n : Nat} {f C : Addr} {fd : FuncData} {ps : List Str} {spn : Nat → Sp} {E : XK}
def iEnO (K : PySem.W.Frag) (C : Addr) (spn : Nat → Sp) (E : XK) (te : TE) : TI := fun σ H R => te σ H fun x H1 => ∃ a dx fs, x = .ref a ∧ H1 a = some (.ins C dx fs) ∧ ∀ n,
  spn n [.ref a] H1 (fun v H2 => ∃ it l, v = .ref it ∧ n ≤ it ∧ H2 it = some (ItO l it 0) ∧ R (Ite K l) (ItX.dropH H2 it)) E
theorem pi_enumO {e : Expr} {te : TE} {p pos tpos : Pos} {elts : List Expr} {kk : Nat} (hg : Gl X "enumerate") (hm : X.mg "enumerate" = none) (he : PE X e te) (F : FnN X.prog X.w X.K X.mg X.base CX n f fd ps spn) (hs : PySem.W.findIn X.K (.ref C) "__iter__" = some (some (.ref f))) (hf : PySem.W.isFn X.K (.ref f) = true) (hb : Binds X.K fd ps []) (hx : Passes CX X E) (hr : Room (n + 2) X.A)
    (na : starEach [e] X.env = (false, eval e X.env) :: starEach [] X.env := by rfl) :
    PI X (.Tuple elts kk tpos) (.Call (.Name "enumerate" p) [e] [] pos) (iEnO X.K C spn E te) := by
  refine ⟨fun pins s σ H R I h => ?_⟩
  refine Call_ (ld_blt I hg hm boot_enumerate (PyProof.Rows.callWith_type1 (one_arg he I h (fun v s1 x H1 I1 r1 q1 => ?_) na) na))
  obtain ⟨a, dx, fs, rfl, ha, hsp⟩ := q1
  cases r1
  obtain ⟨mA, J, _⟩ := ins_get I1.hok ha
  obtain ⟨od, J, _⟩ := J.look
  obtain ⟨m, hF⟩ := I1.fr
  refine call_enumerate_any ?_
  refine PySem.W.owit_iter hF I1.ok.mod.kin J hs hf ?_
  refine wpAny_mono (run_subN F hb (Sub.in1 (Sub.in1 (⟨hr, rfl⟩ : Sub X (n + 2) X.A))) hx I1 (show Vals [V.ref a] [Value.ref a] from .cons rfl .nil) (hsp _)) (fun z s' hz => ?_) fun _ _ y => y
  obtain ⟨v, H2, I2, rz, ⟨it, l, rfl, hbig, hit, q⟩, fr⟩ := hz
  obtain rfl : z = Value.ref it := rz
  have eo := itO_get I2 hit
  have hT : s'.TypeIs (.ref it) "list_iterator" := ⟨_, eo, rfl⟩
  unfold PySem.W.OwitIt
  refine wpAny_specialOf (name := Str.ofString "__next__") hT slot_listiter_next.lookup ?_
  have st : s'.heap.IsListIter it l 0 := ⟨_, eo, rfl, rfl⟩
  have hi' := hit
  unfold ItO at hi'
  have I3 := ItX.inv_drop I2 hi'
  have I4 : Inv X pins σ (ItX.dropH H2 it) { s' with heap := s'.heap.push { cls := .type "enumerate", data := .fields #[.none, .bool false, .ref it, rawInt 0, .none, .none] } } := I3.kept (t' := s'.toks) fun b o q => Heap.get?_push_of_some _ q
  have hE : IsEnum (s'.heap.push { cls := .type "enumerate", data := .fields #[.none, .bool false, .ref it, rawInt 0, .none, .none] }) s'.heap.objs.size it 0 .none := Heap.get?_push_size _ rfl
  have hlt : it < s'.heap.objs.size := Heap.lt_size eo
  refine wpAny_pyIter_enum hE ?_
  refine ⟨s'.heap.objs.size, [s'.heap.objs.size, it], _, _, ItX.dropH H2 it, rfl, I4, turn_enum l s'.heap.objs.size it, ⟨⟨.none, hE⟩, st.at fun o q => Heap.get?_push_of_some _ q, Nat.ne_of_gt hlt⟩, fun b hb => ?_, q⟩
  have e' : b = s'.heap.objs.size ∨ b = it := by simpa using hb
  rcases e' with z | z
  · rw [z]
    exact I3.fpOk (Nat.le_refl _) (I3.hok.fresh (Nat.le_refl _))
  · rw [z]
    exact ItX.inv_fp I2 hit (Nat.le_trans I1.sz hbig)
end
section
variable {K : PySem.W.Frag} {W : WX}
def wIEO (C : Addr) (f : Str) (o : WE) : WI := fun env Q X => o env (fun x => onIns C x fun ns xs => ∃ rs, lookN ns xs f = some (.lst rs) ∧ Q (enumP rs)) X
theorem si_enumO {C : Addr} {f : Str} {E : XK} {te : TE} {o : WE} (h : SE K W .C te o) : SimI K W (iEnO K C (spIter K C f) E te) (wIEO C f o) := fun F0 H0 σ F H env Qp Xp Rr g hw hx q =>
  h F0 H0 σ F H env _ Xp _ g hw hx fun F1 H1 v x m r h1 => by
    obtain ⟨a, dx, fs, ns, ys, rfl, ha, l, rl, rs, hy, h1⟩ := onIns_of m.fh r h1
    obtain ⟨w, ew, rw'⟩ := look_of l rl hy
    cases rw' with
    | lst hf rr =>
      refine ⟨a, dx, fs, rfl, ha, fun n => ⟨a, dx, fs, _, _, rfl, ha, ew, SqL.of (m.fh _ _ hf), fun it ni hn => ⟨it, _, rfl, hn, upd_same, ?_⟩⟩⟩
      rw [ItX.dropH_upd ni]
      exact q F1 H1 _ _ m (wkd_enum (fun F2 H2 o => ⟨SqL.of (o.2.1 _ _ (o.1 _ _ hf)), rr.mono o.1, o.2.1⟩) rr.len) h1
theorem ap_ieo {C : Addr} {f : Str} {o : WE} {env : PEnv} {Q : List P → Prop} {X : XP} : (wIEO C f o env Q X) = (o env (fun x => onIns C x fun ns xs => ∃ rs, lookN ns xs f = some (.lst rs) ∧ Q (enumP rs)) X) := rfl
end
end Pf
namespace Pf
open PySem PySem.Spec PyProof.Rows L2
theorem gx_b {ds ss : List Int} (h : InB ds ss) {k : Int} {s : Int} (h0 : 0 ≤ k) (e : ss[k.toNat]? = some s) : 0 ≤ gx ds k ∧ gx ds k < s := h.b h0 e
/-- drawn in turn from sizes that repeat -/
theorem InB.rp {ds l : List Int} {n : Nat} (h : InB ds (List.replicate n l).flatten) {k : Int} (h0 : 0 ≤ k) (h1 : k < ((n * l.length : Nat) : Int)) : 0 ≤ gx ds k ∧ gx ds k < gx l (k % (l.length : Int)) := by
  have hl : 0 < l.length := by
    rcases Nat.eq_zero_or_pos l.length with e | e
    · rw [e, Nat.mul_zero] at h1; omega
    · exact e
  have hm : k.toNat % l.length < l.length := Nat.mod_lt _ hl
  have hk : (k % (l.length : Int)) = ((k.toNat % l.length : Nat) : Int) := by
    rw [Int.natCast_emod]
    congr 1
    omega
  refine h.b h0 ?_
  rw [flat_get l n _ hl (by omega), List.getElem?_eq_getElem hm, hk, gx_get hm]
theorem rep_len {l : List Int} {n : Nat} : (List.replicate n l).flatten.length = n * l.length := flat_len l n
end Pf
namespace Pf
open PySem PySem.Spec PyProof.Rows L2
/-- one slot gets what has I, others anything -/
theorem cutAT {a b : WS} {D : PEnds} {env : PEnv} {β : Type} (ts : List Nat) (i : Nat) (m : Mo) (f : β → P) (I : β → Prop) (h : a { D with nx := fun e => ∃ c, I c ∧ Any ts (env.set i (some (m, f c))) e } env) (hd : ∀ c e, I c → Any ts (env.set i (some (m, f c))) e → b D e) : wCut a b D env := ⟨_, h, fun e ⟨c, hc, he⟩ => hd c e hc he⟩
theorem nodup_take {α : Type} [Inhabited α] {l : List α} {i : Nat} (h : l.Nodup) (hi : i < l.length) : gx l (i : Int) ∉ l.take i := fun hm => by
  rw [gx_get hi] at hm
  obtain ⟨j, hj⟩ := List.mem_iff_getElem?.mp hm
  rw [List.getElem?_take] at hj
  split at hj
  · rename_i hji
    rw [List.getElem?_eq_getElem (by omega)] at hj
    have e := Option.some.inj hj
    exact (List.pairwise_iff_getElem.mp h) j i (by omega) hi hji e
  · cases hj
theorem take_mem {α : Type} {l : List α} {i j : Nat} {x : α} (h : x ∈ l.take i) (hij : i ≤ j) : x ∈ l.take j := by
  obtain ⟨k, hk⟩ := List.mem_iff_getElem?.mp h
  rw [List.getElem?_take] at hk
  split at hk
  · exact List.mem_of_getElem? (i := k) (by rw [List.getElem?_take, if_pos (by omega)]; exact hk)
  · cases hk
end Pf
namespace Pf
open PySem PySem.Spec PyProof.Rows L2
theorem map_rev {α β : Type} {f : α → β} {l : List α} : (l.map f).reverse = l.reverse.map f := List.map_reverse.symm
theorem cutL_len {α : Type} {l : List α} {lo hi : Option Int} : (cutL l lo hi).length ≤ l.length := by
  unfold cutL
  rw [List.length_take, List.length_drop]
  omega
theorem cutL_split {α : Type} {l : List α} {j : Int} (h : 0 ≤ j) : (cutL l (some j) none).length + (cutL l none (some j)).length = l.length := by
  rw [cutL_hi h, cutL_lo h, List.length_take, List.length_drop]
  omega
end Pf
namespace Pf
open PySem PySem.Spec PyProof.Rows L2
theorem cut_map {α : Type} {enc : α → P} {l : List α} {lo hi : Option Int} : cutP (l.map enc) lo hi = (cutL l lo hi).map enc := by
  unfold cutP cutL; rw [List.length_map, List.map_take, List.map_drop]
theorem rng_inj {lo : Int} {n : Nat} {c : List Int} : (rng lo n = List.map P.int c) = (rgI lo n = c) := by rw [rng_eq, int_inj]
theorem nil_map {α β : Type} {f : α → β} {l : List α} : ([] = l.map f) = (l = []) := by rw [List.nil_eq, List.map_eq_nil_iff]
end Pf

namespace Pf
open PySem PySem.Spec PyProof.Rows L2
/-! ### sheets added -/
theorem cntB_app {ls ms : List Int} {l : Int} : cntB (ls ++ ms) l = cntB ls l + cntB ms l := by
  unfold cntB
  rw [List.filter_append, List.length_append]
  omega
theorem cntB_one {x l : Int} : cntB [x] l = if x < l then 1 else 0 := by
  unfold cntB
  by_cases h : x < l
  · rw [if_pos h, List.filter_cons_of_pos (by simpa using h)]; rfl
  · rw [if_neg h, List.filter_cons_of_neg (by simpa using h)]; rfl
theorem lowI_le' {ls : List Int} {m : Int} (h : 0 < ls.length) (hm : ∀ l ∈ ls, l - cntB ls l ≤ m) : lowI ls ≤ m := by
  obtain ⟨⟨l, hl, e⟩, _⟩ := lowI_is h
  rw [e]; exact hm l hl
theorem le_lowI {ls : List Int} {l : Int} (h : l ∈ ls) : l - cntB ls l ≤ lowI ls := (lowI_is (List.length_pos_of_mem h)).2 l h
theorem lowI_add {ls : List Int} {x : Int} (h : 0 < ls.length) : lowI ls - 1 ≤ lowI (ls ++ [x]) := by
  obtain ⟨⟨l, hl, e⟩, _⟩ := lowI_is h
  have := le_lowI (ls := ls ++ [x]) (l := l) (List.mem_append_left _ hl)
  rw [cntB_app, cntB_one] at this
  split at this <;> omega
theorem snoc_ind {α : Type} {p : List α → Prop} (h0 : p []) (hs : ∀ l a, p l → p (l ++ [a])) (l : List α) : p l := by
  have key : ∀ m : List α, p m.reverse := fun m => by
    induction m with
    | nil => exact h0
    | cons a m ih => rw [List.reverse_cons]; exact hs _ _ ih
  have := key l.reverse
  rwa [List.reverse_reverse] at this
theorem lowI_adds {ls : List Int} (h : 0 < ls.length) (xs : List Int) : lowI ls - (xs.length : Int) ≤ lowI (ls ++ xs) := by
  refine snoc_ind (p := fun xs => lowI ls - (xs.length : Int) ≤ lowI (ls ++ xs)) (by simp) (fun xs x ih => ?_) xs
  have := lowI_add (ls := ls ++ xs) (x := x) (by rw [List.length_append]; omega)
  rw [List.append_assoc] at this
  rw [List.length_append, List.length_singleton]
  omega
theorem lowI_sub {ls : List Int} (h : 0 < ls.length) : lowI (ls ++ [lowI ls - 1]) = lowI ls - 1 := by
  refine Int.le_antisymm (lowI_le' (by rw [List.length_append]; omega) fun l hl => ?_) (lowI_add h)
  rw [cntB_app, cntB_one]
  have h0 := cntB_nn (ls := ls) (l := l)
  rcases List.mem_append.mp hl with hl | hl
  · have := le_lowI hl
    split <;> omega
  · have e := List.mem_singleton.mp hl
    rw [e] at h0 ⊢
    split <;> omega
/-- low - 1, low - 2, .. -/
def dnI (a : Int) (k : Nat) : List Int := (List.range k).map fun i : Nat => a - 1 - (i : Int)
theorem dnI_succ {a : Int} {k : Nat} : dnI a (k + 1) = dnI a k ++ [a - 1 - (k : Int)] := by
  unfold dnI
  rw [List.range_succ, List.map_append]
  rfl
theorem dnI_len {a : Int} {k : Nat} : (dnI a k).length = k := by simp [dnI]
theorem dnI_take {a : Int} {k j : Nat} (h : j ≤ k) : (dnI a k).take j = dnI a j := by
  unfold dnI
  rw [← List.map_take, List.take_range, Nat.min_eq_left h]
theorem lowI_dn {ls : List Int} (h : 0 < ls.length) : ∀ k : Nat, lowI (ls ++ dnI (lowI ls) k) = lowI ls - (k : Int)
  | 0 => by simp [dnI]
  | k + 1 => by
    have ih := lowI_dn h k
    have h2 := lowI_sub (ls := ls ++ dnI (lowI ls) k) (by rw [List.length_append]; omega)
    rw [ih] at h2
    rw [dnI_succ, ← List.append_assoc, show lowI ls - 1 - (k : Int) = lowI ls - (k : Int) - 1 by omega, h2]
    omega
/-! ### sheets sharpened -/
theorem capI_step {x e w : Int} (hw : 1 ≤ w) : capI (x + 1) e w - capI x e w = if x + 1 < e then 0 else if x + 1 = e then 1 else w * (w + 1) ^ (x - e).toNat := by
  unfold capI
  by_cases h : x + 1 < e
  · rw [if_pos h, if_pos (show x < e by omega), if_pos h]; rfl
  · rw [if_neg h, if_neg h]
    by_cases h2 : x + 1 = e
    · rw [if_pos (show x < e by omega), if_pos h2, show (x + 1 - e).toNat = 0 by omega, Int.pow_zero]; rfl
    · rw [if_neg (show ¬ x < e by omega), if_neg h2, show (x + 1 - e).toNat = (x - e).toNat + 1 by omega, Int.pow_succ, Int.mul_add, Int.mul_one, Int.mul_comm w]
      omega
theorem pow_ge1 {w : Int} (hw : 0 ≤ w) (n : Nat) : 1 ≤ (w + 1) ^ n := by
  obtain ⟨k, e1, e⟩ := pow_nat (n := n) hw
  rw [e]
  have h3 : 1 ^ n ≤ (k + 1) ^ n := Nat.pow_le_pow_left (by omega) _
  rw [Nat.one_pow] at h3
  omega
theorem pow_mono {w : Int} (hw : 0 ≤ w) {m n : Nat} (h : m ≤ n) : (w + 1) ^ m ≤ (w + 1) ^ n := by
  obtain ⟨k, rfl, e⟩ := pow_nat (n := n) hw
  obtain ⟨k2, e3, e2⟩ := pow_nat (n := m) (w := (k : Int)) hw
  obtain rfl : k = k2 := by omega
  rw [e, e2]
  have : (k + 1) ^ m ≤ (k + 1) ^ n := Nat.pow_le_pow_right (by omega) h
  omega
theorem capI_step0 {y e w : Int} (hw : 1 ≤ w) : 0 ≤ capI (y + 1) e w - capI y e w ∧ (e ≤ y + 1 → 1 ≤ capI (y + 1) e w - capI y e w) := by
  rw [capI_step hw]
  have p1 := pow_ge1 (w := w) (by omega) (y - e).toNat
  have p2 : w * 1 ≤ w * (w + 1) ^ (y - e).toNat := Int.mul_le_mul_of_nonneg_left p1 (by omega)
  by_cases h : y + 1 < e
  · rw [if_pos h]; omega
  · rw [if_neg h]
    by_cases h2 : y + 1 = e
    · rw [if_pos h2]; omega
    · rw [if_neg h2]; omega
/-- steps grow -/
theorem capI_conv {x y e w : Int} (hw : 1 ≤ w) (h : x ≤ y) : capI (x + 1) e w - capI x e w ≤ capI (y + 1) e w - capI y e w := by
  have hy := capI_step0 (y := y) (e := e) hw
  have hx := capI_step (x := x) (e := e) hw
  by_cases h1 : x + 1 < e
  · rw [if_pos h1] at hx; omega
  · rw [if_neg h1] at hx
    by_cases h2 : x + 1 = e
    · rw [if_pos h2] at hx
      have := hy.2 (by omega)
      omega
    · rw [if_neg h2] at hx
      rw [hx, capI_step hw, if_neg (by omega), if_neg (by omega)]
      have p3 := pow_mono (w := w) (by omega) (show (x - e).toNat ≤ (y - e).toNat by omega)
      exact Int.mul_le_mul_of_nonneg_left p3 (by omega)
theorem capI_inc {x e w : Int} (hw : 1 ≤ w) : capI x e w ≤ capI (x + 1) e w := by
  have := (capI_step0 (y := x) (e := e) hw).1
  omega
theorem capI_mono {x y e w : Int} (hw : 1 ≤ w) (h : x ≤ y) : capI x e w ≤ capI y e w := by
  have key : ∀ n : Nat, capI x e w ≤ capI (x + (n : Int)) e w := fun n => by
    induction n with
    | zero => simp
    | succ n ih =>
      have := capI_inc (x := x + (n : Int)) (e := e) hw
      rw [show x + ((n + 1 : Nat) : Int) = x + (n : Int) + 1 by omega]
      omega
  have := key (y - x).toNat
  rwa [show x + ((y - x).toNat : Int) = y by omega] at this
/-- sharpenings do most at the top -/
theorem capI_shift {x y e w : Int} (hw : 1 ≤ w) (h : x ≤ y) (a : Nat) : capI (x + (a : Int)) e w + capI y e w ≤ capI x e w + capI (y + (a : Int)) e w := by
  induction a with
  | zero => simp
  | succ a ih =>
    have := capI_conv (x := x + (a : Int)) (y := y + (a : Int)) (e := e) hw (by omega)
    rw [show x + ((a + 1 : Nat) : Int) = x + (a : Int) + 1 by omega, show y + ((a + 1 : Nat) : Int) = y + (a : Int) + 1 by omega]
    omega
end Pf
namespace Pf
open PySem PySem.Spec PyProof.Rows L2
theorem shift_all {e w : Int} (hw : 1 ≤ w) : ∀ (l : List (Int × Nat)) (y : Int), (∀ p ∈ l, p.1 ≤ y) → (l.map fun p => capI (p.1 + (p.2 : Int)) e w).sum + capI y e w ≤ (l.map fun p => capI p.1 e w).sum + capI (y + (((l.map Prod.snd).sum : Nat) : Int)) e w
  | [], y, _ => by simp
  | p :: l, y, h => by
    have h1 := capI_shift (e := e) hw (h p List.mem_cons_self) p.2
    have h2 := shift_all (e := e) hw l (y + (p.2 : Int)) fun q hq => by have := h q (List.mem_cons_of_mem _ hq); omega
    simp only [List.map_cons, List.sum_cons]
    rw [show y + ((p.2 + (l.map Prod.snd).sum : Nat) : Int) = y + (p.2 : Int) + (((l.map Prod.snd).sum : Nat) : Int) by omega]
    omega
/-- levels, each as often sharper as it is named -/
def liftC (ss : List Int) (k : Nat) : Nat := (ss.filter fun o => decide (o = (k : Int))).length
def liftL (ls ss : List Int) : List Int := ls.zipIdx.map fun p => p.1 + ((liftC ss p.2 : Nat) : Int)
theorem liftC_sum (ss : List Int) : ∀ (n k : Nat), ((List.range' k n).map (liftC ss)).sum ≤ ss.length := by
  intro n k
  induction ss with
  | nil =>
    have : ∀ l : List Nat, (l.map (liftC [])).sum = 0 := fun l => by
      induction l with
      | nil => rfl
      | cons a l ih => rw [List.map_cons, List.sum_cons, ih]; rfl
    rw [this]; exact Nat.le_refl _
  | cons s ss ih =>
    have e : ∀ j, liftC (s :: ss) j = (if s = (j : Int) then 1 else 0) + liftC ss j := fun j => by
      unfold liftC
      by_cases h : s = (j : Int)
      · rw [List.filter_cons_of_pos (by simpa using h), if_pos h, List.length_cons]; omega
      · rw [List.filter_cons_of_neg (by simpa using h), if_neg h]; omega
    have key : ∀ (n k : Nat), ((List.range' k n).map (liftC (s :: ss))).sum ≤ 1 + ((List.range' k n).map (liftC ss)).sum ∧ (s < (k : Int) → ((List.range' k n).map (liftC (s :: ss))).sum = ((List.range' k n).map (liftC ss)).sum) := by
      intro n
      induction n with
      | zero => intro k; exact ⟨by simp, fun _ => rfl⟩
      | succ n ih2 =>
        intro k
        obtain ⟨a, b⟩ := ih2 (k + 1)
        rw [List.range'_succ, List.map_cons, List.map_cons, List.sum_cons, List.sum_cons, e]
        by_cases h : s = (k : Int)
        · rw [if_pos h]
          have := b (by omega)
          exact ⟨by omega, fun hs => absurd hs (by omega)⟩
        · rw [if_neg h]
          exact ⟨by omega, fun hs => by have := b (by omega); omega⟩
    have := (key n k).1
    rw [List.length_cons]
    omega
theorem liftL_cap {ls ss : List Int} {t e w : Int} (hw : 1 ≤ w) (ht : ∀ l ∈ ls, l ≤ t) : capS (liftL ls ss) e w + capI t e w ≤ capS ls e w + capI (t + (ss.length : Int)) e w := by
  have h := shift_all (e := e) hw (ls.zipIdx.map fun p => (p.1, liftC ss p.2)) t fun p hp => by
    obtain ⟨q, hq, rfl⟩ := List.mem_map.mp hp
    show q.1 ≤ t
    exact ht _ (List.mem_of_getElem? (List.mem_zipIdx_iff_getElem?.mp hq))
  rw [List.map_map, List.map_map, List.map_map] at h
  have e1 : (ls.zipIdx.map ((fun p : Int × Nat => capI (p.1 + (p.2 : Int)) e w) ∘ fun p : Int × Nat => (p.1, liftC ss p.2))).sum = capS (liftL ls ss) e w := by
    unfold capS liftL
    rw [List.map_map]; rfl
  have e2 : (ls.zipIdx.map ((fun p : Int × Nat => capI p.1 e w) ∘ fun p : Int × Nat => (p.1, liftC ss p.2))).sum = capS ls e w := by
    unfold capS
    have : ls.zipIdx.map ((fun p : Int × Nat => capI p.1 e w) ∘ fun p : Int × Nat => (p.1, liftC ss p.2)) = (ls.zipIdx.map Prod.fst).map fun l => capI l e w := by rw [List.map_map]; rfl
    rw [this, List.zipIdx_map_fst]
  have e3 : (ls.zipIdx.map (Prod.snd ∘ fun p : Int × Nat => (p.1, liftC ss p.2))).sum ≤ ss.length := by
    have : ls.zipIdx.map (Prod.snd ∘ fun p : Int × Nat => (p.1, liftC ss p.2)) = (ls.zipIdx.map Prod.snd).map (liftC ss) := by rw [List.map_map]; rfl
    rw [this, List.zipIdx_map_snd]
    exact liftC_sum ss _ _
  rw [e1, e2] at h
  have h2 := capI_mono (e := e) hw (show t + (((ls.zipIdx.map (Prod.snd ∘ fun p : Int × Nat => (p.1, liftC ss p.2))).sum : Nat) : Int) ≤ t + (ss.length : Int) by omega)
  omega
/-- the first number from s on, at most n on, that has p -/
def firstK (p : Nat → Bool) : Nat → Nat → Nat
  | s, 0 => s
  | s, n + 1 => if p s = true then s else firstK p (s + 1) n
theorem firstK_is {p : Nat → Bool} : ∀ (n s : Nat), s ≤ firstK p s n ∧ firstK p s n ≤ s + n ∧ (∀ j, s ≤ j → j < firstK p s n → p j = false) ∧ (firstK p s n < s + n → p (firstK p s n) = true)
  | 0, s => ⟨Nat.le_refl _, Nat.le_refl _, fun j h1 h2 => absurd h2 (by unfold firstK; omega), fun h => absurd h (by unfold firstK; omega)⟩
  | n + 1, s => by
    obtain ⟨a, b, c, d⟩ := firstK_is n (s + 1) (p := p)
    unfold firstK
    split
    · rename_i h
      exact ⟨Nat.le_refl _, by omega, fun j h1 h2 => absurd h2 (by omega), fun _ => h⟩
    · rename_i h
      refine ⟨by omega, by omega, fun j h1 h2 => ?_, fun h => d (by omega)⟩
      by_cases hj : j = s
      · rw [hj]; simpa using h
      · exact c j (by omega) h2
theorem firstK_eq {p : Nat → Bool} {n k : Nat} (h1 : k ≤ n) (h2 : ∀ j < k, p j = false) (h3 : k < n → p k = true) : firstK p 0 n = k := by
  obtain ⟨a, b, c, d⟩ := firstK_is n 0 (p := p)
  rcases Nat.lt_trichotomy (firstK p 0 n) k with h | h | h
  · have := d (by omega)
    rw [h2 _ h] at this; cases this
  · exact h
  · have := c k (by omega) h
    rw [h3 (by omega)] at this; cases this
/-- enough when the top is k sharper -/
def lcan (ls : List Int) (e w : Int) (k : Nat) : Bool := decide ((ls.length : Int) ≤ capS ls e w - capI (maxI ls) e w + capI (maxI ls + (k : Int)) e w)
def liftI (ls : List Int) (e w : Int) : Int := ((firstK (lcan ls e w) 0 200 : Nat) : Int)
theorem capS_nn {ls : List Int} {e w : Int} (h : 0 ≤ w) : 0 ≤ capS ls e w := by
  unfold capS
  induction ls with
  | nil => simp
  | cons l ls ih =>
    have := capI_nn (t := l) (e := e) h
    rw [List.map_cons, List.sum_cons]
    omega
theorem capS_erase {ls : List Int} {t e w : Int} (h : t ∈ ls) : capS (ls.erase t) e w = capS ls e w - capI t e w := by
  have := capS_perm (List.perm_cons_erase h) e w
  rw [this]
  unfold capS
  rw [List.map_cons, List.sum_cons]
  omega
theorem lcan_ex {ls : List Int} {e w : Int} (h0 : 0 < ls.length) (hn : ls.length ≤ 64) (hw : 1 ≤ w) (he : e - maxI ls ≤ 150) : ∃ k : Nat, k ≤ 160 ∧ lcan ls e w k = true := by
  refine ⟨(e - maxI ls).toNat + 6, by omega, decide_eq_true ?_⟩
  have h1 := capS_nn (ls := ls.erase (maxI ls)) (e := e) (w := w) (by omega)
  rw [capS_erase (maxI_mem h0)] at h1
  have h2 := capI_mono (x := e + 6) (y := maxI ls + (((e - maxI ls).toNat + 6 : Nat) : Int)) (e := e) hw (by omega)
  have h3 : 64 ≤ capI (e + 6) e w := by
    unfold capI
    rw [if_neg (by omega), show (e + 6 - e).toNat = 6 by omega]
    have h4 : (1 + 1) ^ 6 ≤ (w + 1) ^ 6 := by
      obtain ⟨k, rfl, e⟩ := pow_nat (w := w) (n := 6) (by omega)
      rw [e]
      have : (1 + 1) ^ 6 ≤ (k + 1) ^ 6 := Nat.pow_le_pow_left (by omega) 6
      omega
    omega
  omega
theorem liftI_min {ls : List Int} {e w : Int} {j : Nat} (h : (j : Int) < liftI ls e w) : capS ls e w - capI (maxI ls) e w + capI (maxI ls + (j : Int)) e w < (ls.length : Int) := by
  have := (firstK_is 200 0 (p := lcan ls e w)).2.2.1 j (Nat.zero_le _) (by unfold liftI at h; omega)
  unfold lcan at this
  have := of_decide_eq_false this
  omega
theorem liftI_nn {ls : List Int} {e w : Int} : 0 ≤ liftI ls e w ∧ liftI ls e w ≤ 200 := by
  have := (firstK_is 200 0 (p := lcan ls e w)).2.1
  unfold liftI
  omega
end Pf
namespace Pf
open PySem PySem.Spec PyProof.Rows L2
theorem dnI_rg {a : Int} {n : Nat} : (rgI 0 n).map (fun k => a - 1 - k) = dnI a n := by
  unfold rgI dnI
  rw [List.map_map]
  refine List.map_congr_left fun i _ => ?_
  simp only [Function.comp]
  omega
theorem dnI_rgC {a : Int} {n : Nat} : rngC (a - 1) (-1) n = (dnI a n).map P.int := by
  unfold rngC dnI
  rw [List.map_map]
  refine List.map_congr_left fun i _ => ?_
  simp only [Function.comp]
  congr 1
  omega
theorem liftL_rg {ls ss : List Int} : (rgI 0 ls.length).map (fun k => gx ls k + (((ss.filter fun o => decide (o = k)).length : Nat) : Int)) = liftL ls ss := by
  have h := range_zip (fun _ => true) (fun k a => a + (((ss.filter fun o => decide (o = k)).length : Nat) : Int)) ls 0
  simp only [Int.natCast_zero, Int.sub_zero] at h
  rw [List.filter_eq_self.mpr (by simp), List.filter_eq_self.mpr (by simp)] at h
  exact h
theorem liftL_len {ls ss : List Int} : (liftL ls ss).length = ls.length := by unfold liftL; rw [List.length_map, List.length_zipIdx]
theorem liftC_le {ss : List Int} {k : Nat} : liftC ss k ≤ ss.length := List.length_filter_le _ _
theorem liftL_le {ls ss : List Int} {t : Int} (h : ∀ l ∈ ls, l ≤ t) : ∀ l ∈ liftL ls ss, l ≤ t + (ss.length : Int) := by
  intro l hl
  unfold liftL at hl
  obtain ⟨p, hp, rfl⟩ := List.mem_map.mp hl
  have h1 := h _ (List.mem_of_getElem? (List.mem_zipIdx_iff_getElem?.mp hp))
  have h2 := liftC_le (ss := ss) (k := p.2)
  omega
end Pf

namespace Pf
open PySem PySem.Spec PyProof.Rows L2
/-! ### how many sheets bear each record -/
def shD (rs : List (Int × Str)) : List (Str × Int) := rs.foldl (fun d r => dput d r.2 ((dget d r.2).getD 0 + 1)) []
theorem shD_snoc {rs : List (Int × Str)} {r : Int × Str} : shD (rs ++ [r]) = dput (shD rs) r.2 ((dget (shD rs) r.2).getD 0 + 1) := by
  unfold shD
  rw [List.foldl_append]; rfl
theorem shD_take {rs : List (Int × Str)} {i : Nat} {r : Int × Str} (h : rs[i]? = some r) : shD (rs.take (i + 1)) = dput (shD (rs.take i)) r.2 ((dget (shD (rs.take i)) r.2).getD 0 + 1) := by rw [take_snoc' h, shD_snoc]
def cntR (rs : List (Int × Str)) (z : Str) : Nat := (rs.filter fun r => decide (r.2 = z)).length
theorem cntR_snoc {rs : List (Int × Str)} {r : Int × Str} {z : Str} : cntR (rs ++ [r]) z = cntR rs z + if r.2 = z then 1 else 0 := by
  unfold cntR
  rw [List.filter_append, List.length_append]
  by_cases h : r.2 = z
  · rw [if_pos h, List.filter_cons_of_pos (by simpa using h)]; rfl
  · rw [if_neg h, List.filter_cons_of_neg (by simpa using h)]; rfl
theorem cntR_none {rs : List (Int × Str)} {z : Str} (h : z ∉ rs.map Prod.snd) : cntR rs z = 0 := by
  unfold cntR
  rw [List.length_eq_zero_iff, List.filter_eq_nil_iff]
  intro r hr e
  exact h (List.mem_map.mpr ⟨r, hr, by simpa using e⟩)
theorem shD_get (rs : List (Int × Str)) (z : Str) : dget (shD rs) z = if z ∈ rs.map Prod.snd then some (cntR rs z : Int) else none := by
  refine snoc_ind (p := fun rs => dget (shD rs) z = if z ∈ rs.map Prod.snd then some (cntR rs z : Int) else none) (by simp [shD, dget]) (fun rs r ih => ?_) rs
  rw [shD_snoc, dget_put, cntR_snoc, List.map_append]
  by_cases hz : z = r.2
  · subst hz
    rw [if_pos rfl, if_pos (by simp), if_pos rfl, ih]
    split
    · simp
    · rename_i h
      rw [cntR_none h]; rfl
  · rw [if_neg hz, ih, show (if r.2 = z then 1 else 0) = 0 from if_neg fun e => hz e.symm]
    by_cases hm : z ∈ rs.map Prod.snd
    · rw [if_pos hm, if_pos (List.mem_append_left _ hm)]; rfl
    · rw [if_neg hm, if_neg]
      simp only [List.mem_append, List.map_cons, List.map_nil, List.mem_singleton, not_or]
      exact ⟨hm, hz⟩
theorem shD_nodup (rs : List (Int × Str)) : ((shD rs).map Prod.fst).Nodup :=
  snoc_ind (p := fun rs => ((shD rs).map Prod.fst).Nodup) (by simp [shD]) (fun rs r ih => by rw [shD_snoc]; exact dput_nodup ih) rs
theorem shD_mem {rs : List (Int × Str)} {z : Str} : z ∈ (shD rs).map Prod.fst ↔ z ∈ rs.map Prod.snd := by
  rw [← dget_mem, shD_get]
  split
  · rename_i h; simp [h]
  · rename_i h; simp only [Option.isSome_none, Bool.false_eq_true, false_iff]; exact h
theorem shD_len {rs : List (Int × Str)} : (shD rs).length ≤ rs.length := by
  have := nodup_le (shD_nodup rs) fun z hz => shD_mem.mp hz
  rwa [List.length_map, List.length_map] at this
/-- the records, each once, in order -/
def recsI (rs : List (Int × Str)) : List Str := sortS ((shD rs).map Prod.fst)
theorem recsI_mem {rs : List (Int × Str)} {z : Str} : z ∈ recsI rs ↔ z ∈ rs.map Prod.snd := sortS_mem.trans shD_mem
theorem recsI_nodup {rs : List (Int × Str)} : (recsI rs).Nodup := (sortS_perm _).nodup_iff.mpr (shD_nodup rs)
theorem recsI_len {rs : List (Int × Str)} : (recsI rs).length ≤ rs.length := by
  unfold recsI
  rw [sortS_len, List.length_map]; exact shD_len
theorem recsI_eq {rs : List (Int × Str)} {c : List Str} (h1 : c.Nodup) (h2 : c.Pairwise sle') (h3 : ∀ z, z ∈ c ↔ z ∈ rs.map Prod.snd) : c = recsI rs :=
  sortedS_one ((List.perm_ext_iff_of_nodup h1 recsI_nodup).mpr fun z => (h3 z).trans recsI_mem.symm) h2 (sortS_pw _)
theorem recsI_pos {rs : List (Int × Str)} (h : 0 < rs.length) : 0 < (recsI rs).length := by
  obtain ⟨r, hr⟩ := List.length_pos_iff_exists_mem.mp h
  exact List.length_pos_of_mem (recsI_mem.mpr (List.mem_map_of_mem (f := Prod.snd) hr))
/-- one more of a sorted list's members -/
theorem dedup_step {l c : List Str} {i : Nat} {a : Str} (hl : l.Pairwise sle') (ha : l[i]? = some a) (hn : c.Nodup) (hp : c.Pairwise sle') (hm : ∀ z, z ∈ c ↔ z ∈ l.take i) :
    (c = [] → (c ++ [a]).Nodup ∧ (c ++ [a]).Pairwise sle' ∧ ∀ z, z ∈ c ++ [a] ↔ z ∈ l.take (i + 1)) ∧ (c ≠ [] → if gx c ((c.length : Int) - 1) = a then (∀ z, z ∈ c ↔ z ∈ l.take (i + 1)) else (c ++ [a]).Nodup ∧ (c ++ [a]).Pairwise sle' ∧ ∀ z, z ∈ c ++ [a] ↔ z ∈ l.take (i + 1)) := by
  have hle : ∀ z ∈ c, sle' z a := fun z hz => by
    have hz := (hm z).mp hz
    obtain ⟨j, hj⟩ := List.mem_iff_getElem?.mp hz
    rw [List.getElem?_take] at hj
    split at hj
    · rename_i hji
      obtain ⟨h1, h2⟩ := List.getElem?_eq_some_iff.mp hj
      obtain ⟨h3, h4⟩ := List.getElem?_eq_some_iff.mp ha
      have := List.pairwise_iff_getElem.mp hl j i h1 h3 hji
      rwa [h2, h4] at this
    · cases hj
  have key : a ∉ c → (c ++ [a]).Nodup ∧ (c ++ [a]).Pairwise sle' ∧ ∀ z, z ∈ c ++ [a] ↔ z ∈ l.take (i + 1) := fun hna => by
    refine ⟨?_, ?_, fun z => ?_⟩
    · rw [List.nodup_append]
      exact ⟨hn, by simp, fun x hx y hy e => by rw [List.mem_singleton.mp hy] at e; exact hna (e ▸ hx)⟩
    · rw [List.pairwise_append]
      exact ⟨hp, by simp, fun x hx y hy => by rw [List.mem_singleton.mp hy]; exact hle x hx⟩
    · rw [take_snoc' ha, List.mem_append, List.mem_append, hm]
  refine ⟨fun e => key (by rw [e]; simp), fun hc => ?_⟩
  have hcl : 0 < c.length := List.length_pos_iff.mpr hc
  split
  · rename_i e
    intro z
    rw [take_snoc' ha, List.mem_append, ← hm]
    refine ⟨.inl, fun h => ?_⟩
    rcases h with h | h
    · exact h
    · rw [List.mem_singleton.mp h, ← e]
      exact gx_mem ⟨by omega, by omega⟩
  · rename_i e
    refine key fun hac => e ?_
    refine sle_anti (hle _ (gx_mem ⟨by omega, by omega⟩)) ?_
    obtain ⟨j, hj⟩ := List.mem_iff_getElem?.mp hac
    obtain ⟨h1, h2⟩ := List.getElem?_eq_some_iff.mp hj
    rw [show ((c.length : Int) - 1) = ((c.length - 1 : Nat) : Int) by omega, gx_get (by omega)]
    by_cases hjl : j = c.length - 1
    · subst hjl
      rw [h2]; exact sle_refl a
    · have := List.pairwise_iff_getElem.mp hp j (c.length - 1) h1 (by omega) (by omega)
      rwa [h2] at this
end Pf
namespace Pf
open PySem PySem.Spec PyProof.Rows L2
theorem aq_fSortDI {ks : List Key} {ys : List P} {d : List (Str × Int)} [h : ED P.int ks ys d] {Q : P → Prop} : (fSortD [.dct ks ys] Q) = ((d.map Prod.fst).length < 64 ∧ (∀ z ∈ d.map Prod.fst, SOk z) ∧ Q (sl (sortS (d.map Prod.fst)))) := aq_fSortD (enc := P.int)
theorem aq_retO0 {D : PEnds} {x : P} {r : PEnv} : wRetO 0 D (some (.o, x) :: r) = D.rt x := rfl
theorem aq_retO1 {D : PEnds} {x : P} {a0 : Option (Mo × P)} {r : PEnv} : wRetO 1 D (a0 :: some (.o, x) :: r) = D.rt x := rfl
theorem aq_retO2 {D : PEnds} {x : P} {a0 a1 : Option (Mo × P)} {r : PEnv} : wRetO 2 D (a0 :: a1 :: some (.o, x) :: r) = D.rt x := rfl
theorem aq_retO3 {D : PEnds} {x : P} {a0 a1 a2 : Option (Mo × P)} {r : PEnv} : wRetO 3 D (a0 :: a1 :: a2 :: some (.o, x) :: r) = D.rt x := rfl
theorem aq_retO4 {D : PEnds} {x : P} {a0 a1 a2 a3 : Option (Mo × P)} {r : PEnv} : wRetO 4 D (a0 :: a1 :: a2 :: a3 :: some (.o, x) :: r) = D.rt x := rfl
theorem aq_retO5 {D : PEnds} {x : P} {a0 a1 a2 a3 a4 : Option (Mo × P)} {r : PEnv} : wRetO 5 D (a0 :: a1 :: a2 :: a3 :: a4 :: some (.o, x) :: r) = D.rt x := rfl
theorem aq_retO6 {D : PEnds} {x : P} {a0 a1 a2 a3 a4 a5 : Option (Mo × P)} {r : PEnv} : wRetO 6 D (a0 :: a1 :: a2 :: a3 :: a4 :: a5 :: some (.o, x) :: r) = D.rt x := rfl
theorem aq_retO7 {D : PEnds} {x : P} {a0 a1 a2 a3 a4 a5 a6 : Option (Mo × P)} {r : PEnv} : wRetO 7 D (a0 :: a1 :: a2 :: a3 :: a4 :: a5 :: a6 :: some (.o, x) :: r) = D.rt x := rfl
theorem aq_retO8 {D : PEnds} {x : P} {a0 a1 a2 a3 a4 a5 a6 a7 : Option (Mo × P)} {r : PEnv} : wRetO 8 D (a0 :: a1 :: a2 :: a3 :: a4 :: a5 :: a6 :: a7 :: some (.o, x) :: r) = D.rt x := rfl
end Pf
namespace Pf
open PySem PySem.Spec PyProof.Rows L2
theorem sheetsI_rg {rs : List (Int × Str)} {z : Str} : (rgI 0 rs.length).filter (fun a => decide ((gx rs a).2 = z)) = sheetsI rs z := by
  have h := range_zip (fun i => decide ((gx rs i).2 = z)) (fun i _ => i) rs 0
  rw [List.map_id'] at h
  refine h.trans ?_
  unfold sheetsI
  congr 1
  refine List.filter_congr fun p hp => ?_
  have := List.mem_zipIdx_iff_getElem?.mp hp
  rw [gx_nn (by omega), Int.toNat_natCast, this]
  rfl
end Pf
namespace Pf
open PySem PySem.Spec PyProof.Rows L2
theorem cutS_len {z : Str} {lo hi : Option Int} : (cutS z lo hi).length ≤ z.length := by
  have e : (cutS z lo hi).cps.toList = (z.cps.toList.drop (HT.sIx z.length 0 lo)).take (HT.sIx z.length z.length hi - HT.sIx z.length 0 lo) := by unfold cutS; rfl
  show (cutS z lo hi).cps.toList.length ≤ z.cps.toList.length
  rw [e, List.length_take, List.length_drop]
  omega
theorem app_len {a b : Str} : (a ++ b).length = a.length + b.length := by
  show (a.cps ++ b.cps).size = _
  rw [Array.size_append]; rfl
theorem one_len {c : Nat} : (⟨#[c]⟩ : Str).length = 1 := rfl
end Pf
namespace Pf
open PySem PySem.Spec PyProof.Rows L2
theorem fil_f {α : Type} {l : List α} : l.filter (fun _ => false) = [] := by simp
theorem okR_of {rs : List (Int × Str)} (h : 0 < rs.length) (hr : ∀ r ∈ rs, isRec r.2 = true) : okR rs :=
  ⟨fun e => by rw [e] at h; exact absurd h (by decide), by rw [fb_none fun j q2 hq2 => hr q2 (List.mem_of_getElem? hq2)]; decide⟩
end Pf

namespace Pf
open PySem PySem.Spec PyProof.Rows L2
/-! ### low ends of the sheets no sharper -/
def ownI (ls : List Int) (s : Int) : Int := lowI (ls.filter fun l => decide (l ≤ s))
theorem cntB_fil {ls : List Int} {l s : Int} (h : l ≤ s) : cntB (ls.filter fun l => decide (l ≤ s)) l = cntB ls l := by
  unfold cntB
  rw [List.filter_filter]
  congr 2
  refine List.filter_congr fun x _ => ?_
  rw [Bool.eq_iff_iff, Bool.and_eq_true, decide_eq_true_eq, decide_eq_true_eq]
  exact ⟨fun h => h.1, fun h2 => ⟨h2, by omega⟩⟩
theorem ownI_of {ls : List Int} {s m : Int} (h1 : ∃ l ∈ ls, l ≤ s ∧ m = l - cntB ls l) (h2 : ∀ l ∈ ls, l ≤ s → l - cntB ls l ≤ m) : ownI ls s = m := by
  refine lowI_eq ⟨?_, fun l hl => ?_⟩
  · obtain ⟨l, hl, hs, e⟩ := h1
    exact ⟨l, List.mem_filter.mpr ⟨hl, decide_eq_true hs⟩, by rw [cntB_fil hs]; exact e⟩
  · obtain ⟨hl, hs⟩ := List.mem_filter.mp hl
    have hs := of_decide_eq_true hs
    rw [cntB_fil hs]
    exact h2 l hl hs
theorem ownI_is {ls : List Int} {s : Int} (h : s ∈ ls) : (∃ l ∈ ls, l ≤ s ∧ ownI ls s = l - cntB ls l) ∧ ∀ l ∈ ls, l ≤ s → l - cntB ls l ≤ ownI ls s := by
  have hm : s ∈ ls.filter fun l => decide (l ≤ s) := List.mem_filter.mpr ⟨h, decide_eq_true (Int.le_refl s)⟩
  obtain ⟨⟨l, hl, e⟩, h2⟩ := lowI_is (List.length_pos_of_mem hm)
  obtain ⟨hl, hs⟩ := List.mem_filter.mp hl
  have hs := of_decide_eq_true hs
  refine ⟨⟨l, hl, hs, by rw [cntB_fil hs] at e; exact e⟩, fun l hl hs => ?_⟩
  have := h2 l (List.mem_filter.mpr ⟨hl, decide_eq_true hs⟩)
  rwa [cntB_fil hs] at this
theorem ownI_b {ls : List Int} {s : Int} (h : s ∈ ls) : ownI ls s ≤ s ∧ s - cntB ls s ≤ ownI ls s := by
  obtain ⟨⟨l, hl, hs, e⟩, h2⟩ := ownI_is h
  have := cntB_nn (ls := ls) (l := l)
  exact ⟨by omega, h2 s h (Int.le_refl s)⟩
theorem cntB_len {ls : List Int} {l : Int} : cntB ls l ≤ (ls.length : Int) := by
  unfold cntB
  have := List.length_filter_le (fun x => decide (x < l)) ls
  omega
theorem cntB_perm' {ls ms : List Int} (h : ls.Perm ms) (l : Int) : cntB ls l = cntB ms l := by
  unfold cntB
  rw [(h.filter _).length_eq]
theorem ownI_perm {ls ms : List Int} (h : ls.Perm ms) (s : Int) : ownI ls s = ownI ms s := lowI_perm (h.filter _)
/-- the best of the heights from b up to b + j -/
def topI (ls : List Int) (b : Int) : Nat → Int
  | 0 => b
  | j + 1 => max (topI ls b j) (b + (j : Int) + 1 - cntB ls (b + (j : Int) + 1))
theorem topI_ge {ls : List Int} {b : Int} (hb : ∀ l ∈ ls, b ≤ l) : ∀ (j i : Nat), i ≤ j → b + (i : Int) - cntB ls (b + (i : Int)) ≤ topI ls b j
  | 0, i, h => by
    obtain rfl : i = 0 := by omega
    have := cntB_nn (ls := ls) (l := b + ((0 : Nat) : Int))
    show _ ≤ b
    omega
  | j + 1, i, h => by
    unfold topI
    by_cases hi : i = j + 1
    · subst hi
      have e : b + ((j + 1 : Nat) : Int) = b + (j : Int) + 1 := by omega
      rw [e]; omega
    · have := topI_ge hb j i (by omega)
      omega
theorem topI_mem {ls : List Int} {b : Int} (hb : ∀ l ∈ ls, b ≤ l) : ∀ j : Nat, ∃ i : Nat, i ≤ j ∧ topI ls b j = b + (i : Int) - cntB ls (b + (i : Int))
  | 0 => ⟨0, Nat.le_refl _, by
    have : cntB ls (b + ((0 : Nat) : Int)) = 0 := by
      unfold cntB
      have : ls.filter (fun x => decide (x < b + ((0 : Nat) : Int))) = [] := by
        rw [List.filter_eq_nil_iff]
        intro x hx e
        have := hb x hx
        have := of_decide_eq_true e
        omega
      rw [this]; rfl
    rw [this]
    show b = _
    omega⟩
  | j + 1 => by
    unfold topI
    obtain ⟨i, hi, e⟩ := topI_mem hb j
    rcases Int.le_total (topI ls b j) (b + (j : Int) + 1 - cntB ls (b + (j : Int) + 1)) with h | h
    · refine ⟨j + 1, Nat.le_refl _, ?_⟩
      have e : b + ((j + 1 : Nat) : Int) = b + (j : Int) + 1 := by omega
      rw [e]; omega
    · exact ⟨i, by omega, by omega⟩
theorem topI_own {ls : List Int} {b s : Int} (hb : ∀ l ∈ ls, b ≤ l) (hs : s ∈ ls) : topI ls b (s - b).toNat = ownI ls s := by
  have hbs := hb s hs
  refine (ownI_of ?_ fun l hl hls => ?_).symm
  · obtain ⟨i, hi, e⟩ := topI_mem hb (s - b).toNat
    have hm : s ∈ ls.filter fun l => decide (b + (i : Int) ≤ l) := List.mem_filter.mpr ⟨hs, decide_eq_true (by omega)⟩
    have hm2 := minI_mem (List.length_pos_of_mem hm)
    have hm3 := minI_le hm
    generalize hM : minI (ls.filter fun l => decide (b + (i : Int) ≤ l)) = m at *
    obtain ⟨h1, h2⟩ := List.mem_filter.mp hm2
    have h2 := of_decide_eq_true h2
    refine ⟨m, h1, hm3, ?_⟩
    have hc : cntB ls m = cntB ls (b + (i : Int)) := by
      unfold cntB
      congr 2
      refine List.filter_congr fun x hx => ?_
      rw [Bool.eq_iff_iff, decide_eq_true_eq, decide_eq_true_eq]
      refine ⟨fun h => ?_, fun h => by omega⟩
      by_cases hq : b + (i : Int) ≤ x
      · have := minI_le (l := ls.filter fun l => decide (b + (i : Int) ≤ l)) (List.mem_filter.mpr ⟨hx, decide_eq_true hq⟩)
        rw [hM] at this
        omega
      · omega
    have hg := topI_ge hb (s - b).toNat (m - b).toNat (by have := hb m h1; omega)
    rw [show b + (((m - b).toNat : Nat) : Int) = m by have := hb m h1; omega] at hg
    omega
  · have hg := topI_ge hb (s - b).toNat (l - b).toNat (by have := hb l hl; omega)
    rwa [show b + (((l - b).toNat : Nat) : Int) = l by have := hb l hl; omega] at hg
/-! ### deeds left -/
def leftI (ls : List Int) : Int := (ls.map fun l => capI l (ownI ls l) 1 - 1).sum
theorem capI_1 {l e : Int} (h : e ≤ l) : capI l e 1 = 2 ^ (l - e).toNat := by
  unfold capI
  rw [if_neg (by omega)]; rfl
theorem leftI_perm {ls ms : List Int} (h : ls.Perm ms) : leftI ls = leftI ms := by
  unfold leftI
  have e : (ls.map fun l => capI l (ownI ls l) 1 - 1) = ls.map fun l => capI l (ownI ms l) 1 - 1 := List.map_congr_left fun l _ => by rw [ownI_perm h]
  rw [e]
  exact perm_sum (h.map _)
theorem two_pos (n : Nat) : (1 : Int) ≤ 2 ^ n := pow_ge1 (w := 1) (by decide) n
theorem two_mono {m n : Nat} (h : m ≤ n) : (2 : Int) ^ m ≤ 2 ^ n := pow_mono (w := 1) (by decide) h
theorem two_cnt : ∀ (n : Nat) (ls : List Int), ls.length = n → (ls.map fun l => (2 : Int) ^ (cntB ls l).toNat).sum ≤ 2 ^ n - 1 ∧ (ls.Nodup → (ls.map fun l => (2 : Int) ^ (cntB ls l).toNat).sum = 2 ^ n - 1)
  | 0, ls, h => by
    obtain rfl := List.length_eq_zero_iff.mp h
    simp
  | n + 1, ls, h => by
    have hm := maxI_mem (l := ls) (by omega)
    have hp := List.perm_cons_erase hm
    have hle : (ls.erase (maxI ls)).length = n := by rw [List.length_erase_of_mem hm, h]; rfl
    obtain ⟨i1, i2⟩ := two_cnt n (ls.erase (maxI ls)) hle
    have hc : ∀ l, l ≤ maxI ls → cntB ls l = cntB (ls.erase (maxI ls)) l := fun l hl => by
      rw [cntB_perm' hp]
      show ((List.filter _ (_ :: _)).length : Int) = _
      rw [List.filter_cons_of_neg (by simpa using hl)]; rfl
    have e1 : (ls.map fun l => (2 : Int) ^ (cntB ls l).toNat).sum = 2 ^ (cntB ls (maxI ls)).toNat + ((ls.erase (maxI ls)).map fun l => (2 : Int) ^ (cntB (ls.erase (maxI ls)) l).toNat).sum := by
      rw [perm_sum (hp.map _), List.map_cons, List.sum_cons]
      congr 2
      refine List.map_congr_left fun l hl => ?_
      rw [hc l (le_maxI (List.mem_of_mem_erase hl))]
    have hcm := hc _ (Int.le_refl (maxI ls))
    have hcl := cntB_len (ls := ls.erase (maxI ls)) (l := maxI ls)
    have hp2 : (2 : Int) ^ (n + 1) = 2 ^ n * 2 := Int.pow_succ ..
    rw [e1]
    refine ⟨?_, fun hn => ?_⟩
    · have := two_mono (m := (cntB ls (maxI ls)).toNat) (n := n) (by omega)
      omega
    · have hn2 : (ls.erase (maxI ls)).Nodup := hn.erase _
      have e2 : cntB (ls.erase (maxI ls)) (maxI ls) = n := by
        unfold cntB
        rw [List.filter_eq_self.mpr fun x hx => ?_, hle]
        have h1 := le_maxI (List.mem_of_mem_erase hx)
        have h2 : x ≠ maxI ls := fun e => by
          rw [e] at hx
          exact hn.not_mem_erase hx
        exact decide_eq_true (by omega)
      rw [i2 hn2, hcm, e2, Int.toNat_natCast]
      omega
theorem leftI_le {ls : List Int} : leftI ls ≤ 2 ^ ls.length - (ls.length : Int) - 1 := by
  have h := (two_cnt _ ls rfl).1
  have key : ∀ ms : List Int, (∀ l ∈ ms, l ∈ ls) → (ms.map fun l => capI l (ownI ls l) 1 - 1).sum ≤ (ms.map fun l => (2 : Int) ^ (cntB ls l).toNat).sum - (ms.length : Int) := fun ms => by
    induction ms with
    | nil => intro _; simp
    | cons m ms ih =>
      intro hm
      have ih := ih fun l hl => hm l (List.mem_cons_of_mem _ hl)
      obtain ⟨h1, h2⟩ := ownI_b (hm m List.mem_cons_self)
      rw [List.map_cons, List.map_cons, List.sum_cons, List.sum_cons, capI_1 h1, List.length_cons]
      have := two_mono (m := (m - ownI ls m).toNat) (n := (cntB ls m).toNat) (by omega)
      omega
  have := key ls fun l hl => hl
  unfold leftI
  omega
theorem ownI_nodup {ls : List Int} {s : Int} (hn : ls.Nodup) (hs : s ∈ ls) : ownI ls s = s - cntB ls s := by
  refine ownI_of ⟨s, hs, Int.le_refl s, rfl⟩ fun l hl hls => ?_
  have e : cntB ls s = cntB ls l + ((ls.filter fun x => decide (l ≤ x) && decide (x < s)).length : Int) := by
    unfold cntB
    clear hn hs hl
    induction ls with
    | nil => rfl
    | cons x ls ih =>
      rw [List.filter_cons, List.filter_cons, List.filter_cons]
      by_cases h1 : x < l
      · have h2 : ¬ l ≤ x := by omega
        have h3 : x < s := by omega
        simp only [h1, h2, h3, decide_true, decide_false, Bool.false_and, if_true, if_false, List.length_cons, Bool.false_eq_true]
        omega
      · have h2 : l ≤ x := by omega
        by_cases h3 : x < s
        · simp only [h1, h2, h3, decide_true, decide_false, Bool.true_and, if_true, if_false, List.length_cons, Bool.false_eq_true]
          omega
        · simp only [h1, h2, h3, decide_true, decide_false, Bool.true_and, if_true, if_false, Bool.false_eq_true]
          omega
  have hle : (ls.filter fun x => decide (l ≤ x) && decide (x < s)).length ≤ (rgI l (s - l).toNat).length := nodup_le (hn.filter _) fun x hx => by
    obtain ⟨_, h⟩ := List.mem_filter.mp hx
    simp only [Bool.and_eq_true, decide_eq_true_eq] at h
    exact rgI_mem.mpr ⟨h.1, by omega⟩
  rw [rgI_len] at hle
  omega
theorem leftI_nodup {ls : List Int} (hn : ls.Nodup) : leftI ls = 2 ^ ls.length - (ls.length : Int) - 1 := by
  have h := (two_cnt _ ls rfl).2 hn
  have key : ∀ ms : List Int, (∀ l ∈ ms, l ∈ ls) → (ms.map fun l => capI l (ownI ls l) 1 - 1).sum = (ms.map fun l => (2 : Int) ^ (cntB ls l).toNat).sum - (ms.length : Int) := fun ms => by
    induction ms with
    | nil => intro _; simp
    | cons m ms ih =>
      intro hm
      have ih := ih fun l hl => hm l (List.mem_cons_of_mem _ hl)
      have h1 := (ownI_b (hm m List.mem_cons_self)).1
      have h2 := ownI_nodup hn (hm m List.mem_cons_self)
      rw [List.map_cons, List.map_cons, List.sum_cons, List.sum_cons, capI_1 h1, List.length_cons, h2, show m - (m - cntB ls m) = cntB ls m by omega]
      omega
  have := key ls fun l hl => hl
  unfold leftI
  omega
theorem nodup_of_take {ls : List Int} (h : ∀ (k : Nat) (x : Int), ls[k]? = some x → x ∉ ls.take k) : ls.Nodup := by
  have key : ∀ n : Nat, n ≤ ls.length → (ls.take n).Nodup := fun n => by
    induction n with
    | zero => intro _; simp
    | succ n ih =>
      intro hn
      have e : ls[n]? = some ls[n] := List.getElem?_eq_getElem (by omega)
      rw [take_snoc' e, List.nodup_append]
      exact ⟨ih (by omega), by simp, fun x hx y hy q => by rw [List.mem_singleton.mp hy] at q; rw [q] at hx; exact h n _ e hx⟩
  have := key ls.length (Nat.le_refl _)
  rwa [List.take_length] at this
end Pf
namespace Pf
open PySem PySem.Spec PyProof.Rows L2
theorem rgI_gx {α : Type} [Inhabited α] {ls : List α} : (rgI 0 ls.length).map (gx ls) = ls := by
  have h := range_zip (fun _ => true) (fun _ a => a) ls 0
  simp only [Int.natCast_zero, Int.sub_zero] at h
  rw [List.filter_eq_self.mpr (by simp), List.filter_eq_self.mpr (by simp), List.zipIdx_map_fst] at h
  exact h
end Pf
namespace Pf
open PySem PySem.Spec PyProof.Rows L2
theorem gx_rev {α : Type} [Inhabited α] {l : List α} {a : Int} (h0 : 0 ≤ a) (h1 : a < (l.length : Int)) : gx l.reverse a = gx l ((l.length : Int) - 1 - a) := by
  rw [gx_nn h0, gx_nn (by omega), List.getElem?_reverse (by omega), show l.length - 1 - a.toNat = ((l.length : Int) - 1 - a).toNat by omega]
end Pf

namespace Pf
open PySem PySem.Spec PyProof.Rows L2
/-! ### deeds -/
def ascB (ts : List Int) : Bool := ((ts.zip (ts.drop 1)).map fun p => decide (p.1 < p.2)).all id
def inB (n : Nat) (is : List Int) : Bool := (is.map fun i => decide (0 ≤ i ∧ i < (n : Int))).all id
def wfB (n : Nat) (s : Int) (ts : List Int) : Bool := if ts = [] then false else if ascB ts = true then inB n (s :: ts) else false
def alB (rs : List (Int × Str)) (s : Int) (ts : List Int) (w : Int) : Bool := if w < (ts.length : Int) then false else if wfB rs.length s ts = true then (ts.map fun t => decide ((gx rs t).1 < (gx rs s).1)).all id else false
theorem inB_iff {n : Nat} {is : List Int} : inB n is = true ↔ ∀ i ∈ is, 0 ≤ i ∧ i < (n : Int) := by
  unfold inB
  rw [List.all_eq_true]
  refine ⟨fun h i hi => ?_, fun h b hb => ?_⟩
  · have := h _ (List.mem_map.mpr ⟨i, hi, rfl⟩)
    exact of_decide_eq_true this
  · obtain ⟨i, hi, rfl⟩ := List.mem_map.mp hb
    exact decide_eq_true (h i hi)
theorem wfB_in {n : Nat} {s : Int} {ts : List Int} (h : wfB n s ts = true) : (0 ≤ s ∧ s < (n : Int)) ∧ ∀ i ∈ ts, 0 ≤ i ∧ i < (n : Int) := by
  unfold wfB at h
  split at h
  · cases h
  · split at h
    · have h := inB_iff.mp h
      exact ⟨h s List.mem_cons_self, fun i hi => h i (List.mem_cons_of_mem _ hi)⟩
    · cases h
end Pf
namespace Pf
open PySem PySem.Spec PyProof.Rows L2
section
variable {K : PySem.W.Frag} {W : WX} {ro : Bool}
theorem wkd_zipT {ok : Hp → Hp → Prop} {a b : Addr} {vs ws : List V} {xs ys : List P} (hg : ∀ F1 H1, ok F1 H1 → SqT K H1 a vs ∧ SqT K H1 b ws ∧ RL K F1 vs xs ∧ RL K F1 ws ys ∧ Same F1 H1) (hl : vs.length = xs.length) (hl' : ws.length = ys.length) : Wkd K ok (RZ.ItzT K a b) (zipP xs ys) := by
  have hw : Walk (RZ.ItzT K a b) (zipP xs ys).length (fun H => SqT K H a vs ∧ SqT K H b ws) (YPair (fun i => vs[i]?) (fun i => ws[i]?)) := by
    have hn : (zipP xs ys).length = min vs.length ws.length := by rw [zipP_len, ← hl, ← hl']
    rw [hn]
    refine ⟨fun i H hi q => ?_, fun H q => ⟨vs, ws, q.1, q.2, by omega⟩, fun i H v H2 hi q y => ?_⟩
    · have h1 : i < vs.length := by omega
      have h2 : i < ws.length := by omega
      exact ⟨vs, ws, vs[i], ws[i], q.1, q.2, List.getElem?_eq_getElem h1, List.getElem?_eq_getElem h2⟩
    · obtain ⟨T, x, z, h1, h2, h3, h4, h5⟩ := y
      exact ⟨T, x, z, h1, h2, h3, h4 vs q.1, h5 ws q.2⟩
  refine ⟨_, _, hw, fun F1 H1 o => ⟨(hg F1 H1 o).1, (hg F1 H1 o).2.1⟩, fun i F1 H1 v H2 hi o y => ?_⟩
  obtain ⟨T, u, w, rfl, n, rfl, e1, e2⟩ := y
  obtain ⟨_, _, r, r', s⟩ := hg F1 _ o
  obtain ⟨x, e, rx⟩ := r.get e1
  obtain ⟨y, e', ry⟩ := r'.get e2
  obtain ⟨F2, m, r2⟩ := pair_mv s n rx ry
  exact ⟨_, F2, zipP_at e e', m, r2⟩
/-- zip of two lists or of two tuples -/
def wIZA (a : WA) : WI := fun env Q X => a env (fun xs => match xs with
  | [.lst xs, .lst ys] => Q (zipP xs ys)
  | [.tup xs, .tup ys] => Q (zipP xs ys)
  | _ => False) X
theorem si_zipAc {m m' : Mo} {ta : TA} {a : WA} (h : SimA K W [m, m'] ta a) : SimIc K W (RZ.iZipA K ta) (wIZA a) := fun F0 H0 σ F H env Qp Xp Rr g hw hx q =>
  h F0 H0 σ F H env _ Xp _ g hw hx fun F1 H1 vs xs m1 r h1 => by
    obtain ⟨v, vs', x, xs', rfl, rfl, t, r'⟩ := AL.cons r
    obtain ⟨v', x', rfl, rfl, t'⟩ := AL.one r'
    split at h1
    · rename_i ys zs e
      cases e
      obtain ⟨b, ws, rfl, hb, rl⟩ := Tp.lst m1.fh t
      obtain ⟨b', ws', rfl, hb', rl'⟩ := Tp.lst m1.fh t'
      exact ⟨_, _, _, _, rfl, .inl ⟨SqL.of hb, SqL.of hb', q F1 H1 _ _ m1 (wkd_zip (fun F2 H2 o => ⟨SqL.of (o.s _ _ hb), SqL.of (o.s _ _ hb'), rl.mono o.e.1, rl'.mono o.e.1, o.fh⟩) rl.len rl'.len) h1⟩⟩
    · rename_i ys zs e
      cases e
      obtain ⟨_, b, ws, e1, rfl, hb, rl, _⟩ := onTup_of (Q := fun _ => True) m1.fh t trivial
      cases e1
      obtain ⟨_, b', ws', e2, rfl, hb', rl', _⟩ := onTup_of (Q := fun _ => True) m1.fh t' trivial
      cases e2
      exact ⟨_, _, _, _, rfl, .inr ⟨SqT.of (m1.fh _ _ hb), SqT.of (m1.fh _ _ hb'), q F1 H1 _ _ m1 (wkd_zipT (fun F2 H2 o => ⟨SqT.of (o.fh _ _ (o.e.1 _ _ hb)), SqT.of (o.fh _ _ (o.e.1 _ _ hb')), rl.mono o.e.1, rl'.mono o.e.1, o.fh⟩) rl.len rl'.len) h1⟩⟩
    · exact h1.elim
theorem ap_wIZAl {a : WA} {env : PEnv} {Q : List P → Prop} {X : XP} : (wIZA a env Q X) = (a env (fun xs => match xs with | [.lst xs, .lst ys] => Q (zipP xs ys) | [.tup xs, .tup ys] => Q (zipP xs ys) | _ => False) X) := rfl
end
end Pf
namespace Pf
open PySem PySem.Spec PyProof.Rows L2
section
variable {K : PySem.W.Frag} {W : WX}
theorem si_zipA {ta : TA} {a : WA} (h : SimA K W [.v, .v] ta a) : SimI K W (RZ.iZipA K ta) (wIZA a) := fun F0 H0 σ F H env Qp Xp Rr g hw hx q =>
  h F0 H0 σ F H env _ Xp _ g hw hx fun F1 H1 vs xs m1 r h1 => by
    obtain ⟨v, vs', x, xs', rfl, rfl, t, r'⟩ := AL.v1 r
    obtain ⟨v', vs', x', xs', rfl, rfl, t', r'⟩ := AL.v1 r'
    obtain ⟨rfl, rfl⟩ := AL.nil r'
    split at h1
    · rename_i ys zs e
      cases e
      cases t with
      | lst hf rl => cases t' with
        | lst hf' rl' => exact ⟨_, _, _, _, rfl, .inl ⟨SqL.of (m1.fh _ _ hf), SqL.of (m1.fh _ _ hf'), q F1 H1 _ _ m1 (wkd_zip (fun F2 H2 o => ⟨SqL.of (o.2.1 _ _ (o.1 _ _ hf)), SqL.of (o.2.1 _ _ (o.1 _ _ hf')), rl.mono o.1, rl'.mono o.1, o.2.1⟩) rl.len rl'.len) h1⟩⟩
    · rename_i ys zs e
      cases e
      cases t with
      | tup hf rl => cases t' with
        | tup hf' rl' => exact ⟨_, _, _, _, rfl, .inr ⟨SqT.of (m1.fh _ _ hf), SqT.of (m1.fh _ _ hf'), q F1 H1 _ _ m1 (wkd_zipT (fun F2 H2 o => ⟨SqT.of (o.2.1 _ _ (o.1 _ _ hf)), SqT.of (o.2.1 _ _ (o.1 _ _ hf')), rl.mono o.1, rl'.mono o.1, o.2.1⟩) rl.len rl'.len) h1⟩⟩
    · exact h1.elim
end
end Pf
namespace Pf
open PySem PySem.Spec PyProof.Rows L2
section
variable {K : PySem.W.Frag} {W : WX}
/-! ### items with stars among them -/
def SimAS (K : PySem.W.Frag) (W : WX) (t : TA) (w : WA) : Prop :=
  ∀ F0 H0 σ F H env Qp Xp Q, Good K F0 H0 σ F H env → w env Qp Xp → XOk K W σ F H Xp → (∀ F' H' vs xs, Mv F H F' H' → RL K F' vs xs → Qp xs → Q vs H') → t σ H Q
def onSeq (x : P) (Q : List P → Prop) : Prop := match x with
  | .tup xs => Q xs
  | .lst xs => Q xs
  | _ => False
def wStar (a : WE) (r : WA) : WA := fun env Q X => a env (fun x => onSeq x fun xs => r env (fun ys => Q (xs ++ ys)) X) X
theorem rl_app {F : Hp} {vs vs' : List V} {xs xs' : List P} (h : RL K F vs xs) (h' : RL K F vs' xs') : RL K F (vs ++ vs') (xs ++ xs') := by
  induction vs generalizing xs with
  | nil => cases h with | nil => exact h'
  | cons v vs ih => cases h with | cons a b => exact .cons a (ih b)
theorem sas_nil : SimAS K W tNil wNil := fun F0 H0 σ F H env Qp Xp Q g hw hx q => q F H [] [] g.mvr .nil hw
theorem sas_cons {t : TE} {r : TA} {w : WE} {wr : WA} (h : SE K W .V t w) (hr : SimAS K W r wr) : SimAS K W (tCons t r) (wCons w wr) :=
  fun F0 H0 σ F H env Qp Xp Q g hw hx q => h F0 H0 σ F H env _ Xp _ g hw hx fun F1 H1 v x m1 r1 h1 =>
    hr F0 H0 σ F1 H1 env _ Xp _ (g.mv m1) h1 (hx.mv m1) fun F2 H2 vs xs m2 r2 h2 => q F2 H2 (v :: vs) (x :: xs) (m1.trans m2) (.cons (R.mono m2.e.1 r1) r2) h2
theorem sas_star {t : TE} {r : TA} {w : WE} {wr : WA} (h : SE K W .C t w) (hr : SimAS K W r wr) : SimAS K W (StX.tStar K t r) (wStar w wr) :=
  fun F0 H0 σ F H env Qp Xp Q g hw hx q => h F0 H0 σ F H env _ Xp _ g hw hx fun F1 H1 v x m1 r1 h1 => by
    cases x with
    | tup xs =>
      obtain ⟨_, b, ws, e1, rfl, hb, rl, _⟩ := onTup_of (Q := fun _ => True) m1.fh r1 trivial
      cases e1
      exact ⟨b, ws, rfl, .inl (SqT.of (m1.fh _ _ hb)), hr F0 H0 σ F1 H1 env _ Xp _ (g.mv m1) h1 (hx.mv m1) fun F2 H2 vs ys m2 r2 h2 => q F2 H2 _ _ (m1.trans m2) (rl_app (rl.mono m2.e.1) r2) h2⟩
    | lst xs =>
      obtain ⟨b, ws, rfl, hb, rl⟩ := Tp.lst m1.fh r1
      exact ⟨b, ws, rfl, .inr (SqL.of hb), hr F0 H0 σ F1 H1 env _ Xp _ (g.mv m1) h1 (hx.mv m1) fun F2 H2 vs ys m2 r2 h2 => q F2 H2 _ _ (m1.trans m2) (rl_app (rl.mono m2.e.1) r2) h2⟩
    | _ => exact h1.elim
theorem se_tupS {t : TA} {w : WA} (h : SimAS K W t w) : SE K W .V (tTup t) (wTup w) :=
  fun F0 H0 σ F H env Qp Xp Q g hw hx q => h F0 H0 σ F H env _ Xp _ g hw hx fun F1 H1 vs xs m1 r h1 => by
    refine ⟨by rw [r.len]; exact h1.1, fun p np => ?_⟩
    have m2 := mv_frz (o := .tup vs) m1.fh np
    exact q _ _ _ _ (m1.trans m2) (R.tup upd_same (r.mono m2.e.1)) h1.2
theorem se_lstS {t : TA} {w : WA} (h : SimAS K W t w) : SE K W .O (tLst t) (wLst w) :=
  fun F0 H0 σ F H env Qp Xp Q g hw hx q => h F0 H0 σ F H env _ Xp _ g hw hx fun F1 H1 vs xs m1 r h1 => by
    refine ⟨by rw [r.len]; exact h1.1, fun p np => ?_⟩
    have m2 := mv_new (o := .lst vs) m1.fh np
    exact q _ _ _ (.lst xs) (m1.trans m2) (.inl ⟨p, _, rfl, m1.s.free np, same_free m1.fh np, upd_same, vs, rfl, r⟩) h1.2
theorem ap_star {a : WE} {r : WA} {env : PEnv} {Q : List P → Prop} {X : XP} : (wStar a r env Q X) = (a env (fun x => onSeq x fun xs => r env (fun ys => Q (xs ++ ys)) X) X) := rfl
theorem ap_onSeqT {xs : List P} {Q : List P → Prop} : (onSeq (.tup xs) Q) = Q xs := rfl
theorem ap_onSeqL {xs : List P} {Q : List P → Prop} : (onSeq (.lst xs) Q) = Q xs := rfl
end
end Pf
namespace Pf
open PySem PySem.Spec PyProof.Rows L2
/-- the sheets is are worn to r -/
def setR (rs : List (Int × Str)) (r : Int × Str) : List Int → List (Int × Str)
  | [] => rs
  | i :: is => setR (rs.set i.toNat r) r is
def aftR (rs : List (Int × Str)) (s : Int) (ts : List Int) : List (Int × Str) := setR rs ((gx rs s).1 - 1, (gx rs s).2) (s :: ts)
theorem setR_len {rs : List (Int × Str)} {r : Int × Str} {is : List Int} : (setR rs r is).length = rs.length := by
  induction is generalizing rs with
  | nil => rfl
  | cons i is ih => unfold setR; rw [ih, List.length_set]
theorem setR_rc {rs : List (Int × Str)} {r : Int × Str} {is : List Int} (h : ∀ q ∈ rs, isRec q.2 = true) (hr : isRec r.2 = true) : ∀ q ∈ setR rs r is, isRec q.2 = true := by
  induction is generalizing rs with
  | nil => exact h
  | cons i is ih =>
    unfold setR
    refine ih fun q hq => ?_
    rcases List.mem_or_eq_of_mem_set hq with hq | rfl
    · exact h q hq
    · exact hr
theorem setR_snoc {rs : List (Int × Str)} {r : Int × Str} {is : List Int} {i : Int} : setR rs r (is ++ [i]) = (setR rs r is).set i.toNat r := by
  induction is generalizing rs with
  | nil => rfl
  | cons j is ih => rw [List.cons_append]; unfold setR; rw [ih]
end Pf
namespace Pf
open PySem PySem.Spec PyProof.Rows L2
theorem wfB_pos {n : Nat} {s : Int} {ts : List Int} (h : wfB n s ts = true) : 0 < ts.length := by
  unfold wfB at h
  split at h
  · cases h
  · rename_i h2
    exact List.length_pos_iff.mpr h2
theorem alB_iff {rs : List (Int × Str)} {s w : Int} {ts : List Int} : alB rs s ts w = true ↔ wfB rs.length s ts = true ∧ (ts.length : Int) ≤ w ∧ ∀ t ∈ ts, (gx rs t).1 < (gx rs s).1 := by
  unfold alB
  by_cases h : w < (ts.length : Int)
  · rw [if_pos h]
    exact ⟨fun h => (by cases h), fun q => absurd q.2.1 (by omega)⟩
  rw [if_neg h]
  by_cases h2 : wfB rs.length s ts = true
  · rw [if_pos h2, List.all_eq_true]
    refine ⟨fun q => ⟨h2, by omega, fun t ht => of_decide_eq_true (q _ (List.mem_map.mpr ⟨t, ht, rfl⟩))⟩, fun q b hb => ?_⟩
    obtain ⟨t, ht, rfl⟩ := List.mem_map.mp hb
    exact decide_eq_true (q.2.2 t ht)
  · rw [if_neg h2]
    exact ⟨fun h => (by cases h), fun q => absurd q.1 h2⟩
theorem alB_no {rs : List (Int × Str)} {s w : Int} {ts : List Int} (h : ¬ (wfB rs.length s ts = true ∧ (ts.length : Int) ≤ w ∧ ∀ t ∈ ts, (gx rs t).1 < (gx rs s).1)) : alB rs s ts w = false := by
  cases e : alB rs s ts w with
  | true => exact absurd (alB_iff.mp e) h
  | false => rfl
end Pf
namespace Pf
open PySem PySem.Spec PyProof.Rows L2
theorem ascB_iff {ts : List Int} : ascB ts = true ↔ ∀ j : Nat, j + 1 < ts.length → gx ts (j : Int) < gx ts ((j : Int) + 1) := by
  unfold ascB
  rw [List.all_eq_true]
  have hz : ∀ j : Nat, j + 1 < ts.length → (ts.zip (ts.drop 1))[j]? = some (gx ts (j : Int), gx ts ((j : Int) + 1)) := fun j hj => by
    have e1 : ts[j]? = some (gx ts (j : Int)) := by rw [gx_get (by omega), List.getElem?_eq_getElem (by omega)]
    have e2 : (ts.drop 1)[j]? = some (gx ts ((j : Int) + 1)) := by
      rw [List.getElem?_drop, show ((j : Int) + 1) = ((1 + j : Nat) : Int) by omega, gx_get (by omega), List.getElem?_eq_getElem (by omega)]
    exact List.getElem?_zip_eq_some.mpr ⟨e1, e2⟩
  refine ⟨fun h j hj => ?_, fun h b hb => ?_⟩
  · exact of_decide_eq_true (h _ (List.mem_map.mpr ⟨_, List.mem_of_getElem? (hz j hj), rfl⟩))
  · obtain ⟨p, hp, rfl⟩ := List.mem_map.mp hb
    obtain ⟨j, hj⟩ := List.mem_iff_getElem?.mp hp
    have hl := (List.getElem?_eq_some_iff.mp hj).1
    rw [List.length_zip, List.length_drop] at hl
    rw [hz j (by omega)] at hj
    obtain rfl := Option.some.inj hj
    exact decide_eq_true (h j (by omega))
theorem wfB_iff {n : Nat} {s : Int} {ts : List Int} : wfB n s ts = true ↔ 0 < ts.length ∧ ascB ts = true ∧ ∀ i ∈ s :: ts, 0 ≤ i ∧ i < (n : Int) := by
  unfold wfB
  by_cases h : ts = []
  · rw [if_pos h]
    exact ⟨fun h => (by cases h), fun q => by rw [h] at q; exact absurd q.1 (by decide)⟩
  rw [if_neg h]
  by_cases h2 : ascB ts = true
  · rw [if_pos h2, inB_iff]
    exact ⟨fun q => ⟨List.length_pos_iff.mpr h, h2, q⟩, fun q => q.2.2⟩
  · rw [if_neg h2]
    exact ⟨fun h => (by cases h), fun q => absurd q.2.1 h2⟩
end Pf
namespace Pf
open PySem PySem.Spec PyProof.Rows L2
theorem rgI_pw {a : Int} {n : Nat} : (rgI a n).Pairwise (· < ·) := by
  unfold rgI
  rw [List.pairwise_map]
  exact List.pairwise_lt_range.imp fun h => by omega
end Pf

namespace Pf
open PySem PySem.Spec PyProof.Rows L2
/-! ### a deed with one target and the deeds left -/
theorem cntB_mono {ls : List Int} {a b : Int} (h : a ≤ b) : cntB ls a ≤ cntB ls b := by
  induction ls with
  | nil => exact Int.le_refl _
  | cons x ls ih =>
    rw [cntB_cons, cntB_cons]
    by_cases h1 : x < a
    · rw [if_pos h1, if_pos (by omega)]; omega
    · rw [if_neg h1]; split <;> omega
theorem cntB_same {ls : List Int} {a b : Int} (h : a ≤ b) (hn : ∀ x ∈ ls, x < b → x < a) : cntB ls a = cntB ls b := by
  unfold cntB
  congr 2
  refine List.filter_congr fun x hx => ?_
  rw [Bool.eq_iff_iff, decide_eq_true_eq, decide_eq_true_eq]
  exact ⟨fun h => by omega, hn x hx⟩
theorem topI_succ {ls : List Int} {b : Int} {j : Nat} : topI ls b (j + 1) = max (topI ls b j) (b + (j : Int) + 1 - cntB ls (b + (j : Int) + 1)) := rfl
section
variable {rs : List Int} {s t b : Int}
theorem cnt_old {h : Int} : cntB (s :: t :: rs) h = cntB rs h + (if t < h then 1 else 0) + if s < h then 1 else 0 := by rw [cntB_cons, cntB_cons]; omega
theorem cnt_new {h : Int} : cntB ((s - 1) :: (s - 1) :: rs) h = cntB rs h + (if s ≤ h then 1 else 0) + if s ≤ h then 1 else 0 := by
  rw [cntB_cons, cntB_cons]
  by_cases e : s ≤ h
  · rw [if_pos e, if_pos (by omega)]; omega
  · rw [if_neg e, if_neg (by omega)]; omega
theorem top_lo (h : t < s) : ∀ (j : Nat), b + (j : Int) ≤ s - 1 → topI (s :: t :: rs) b j ≤ topI ((s - 1) :: (s - 1) :: rs) b j
  | 0, _ => Int.le_refl _
  | j + 1, hj => by
    have ih := top_lo h j (by omega)
    rw [topI_succ, topI_succ, cnt_old, cnt_new, if_neg (by omega : ¬ s ≤ b + (j : Int) + 1), if_neg (by omega : ¬ s < b + (j : Int) + 1)]
    split <;> omega
theorem top_mid (h : t < s) (hb : b ≤ t) (hr : ∀ x ∈ rs, b ≤ x) {j : Nat} (hj : b + (j : Int) = s - 1) : topI (s :: t :: rs) b (j + 1) ≤ topI ((s - 1) :: (s - 1) :: rs) b j := by
  have h1 := top_lo (rs := rs) h j (by omega : b + (j : Int) ≤ s - 1)
  have h2 := topI_ge (ls := (s - 1) :: (s - 1) :: rs) (b := b) (fun l hl => by
    rcases List.mem_cons.mp hl with rfl | hl
    · omega
    rcases List.mem_cons.mp hl with rfl | hl
    · omega
    exact hr l hl) j j (Nat.le_refl _)
  rw [hj, cnt_new, if_neg (by omega : ¬ s ≤ s - 1)] at h2
  have h3 := cntB_mono (ls := rs) (a := s - 1) (b := s) (by omega)
  rw [topI_succ, hj, cnt_old, show s - 1 + 1 = s by omega, if_pos h, if_neg (by omega : ¬ s < s)]
  omega
theorem top_hi (h : t < s) (hb : b ≤ t) (hr : ∀ x ∈ rs, b ≤ x) {j : Nat} (hj : b + (j : Int) = s - 1) : ∀ d : Nat, topI (s :: t :: rs) b (j + 1 + d) ≤ topI ((s - 1) :: (s - 1) :: rs) b (j + 1 + d)
  | 0 => by
    have := top_mid h hb hr hj
    rw [Nat.add_zero, topI_succ (ls := (s - 1) :: (s - 1) :: rs)]
    omega
  | d + 1 => by
    have ih := top_hi h hb hr hj d
    rw [show j + 1 + (d + 1) = (j + 1 + d) + 1 by omega, topI_succ, topI_succ, cnt_old, cnt_new, if_pos (by omega : s ≤ b + ((j + 1 + d : Nat) : Int) + 1), if_pos (by omega : s < b + ((j + 1 + d : Nat) : Int) + 1), if_pos (by omega : t < b + ((j + 1 + d : Nat) : Int) + 1)]
    omega
theorem own_deed (h : t < s) : (∀ x ∈ rs, ownI (s :: t :: rs) x ≤ ownI ((s - 1) :: (s - 1) :: rs) x) ∧ ownI (s :: t :: rs) s ≤ ownI ((s - 1) :: (s - 1) :: rs) (s - 1) := by
  have hm : ∀ l ∈ s :: t :: rs, minI (s :: t :: rs) ≤ l := fun l hl => minI_le hl
  generalize minI (s :: t :: rs) = b at *
  have hs := hm s List.mem_cons_self
  have ht := hm t (List.mem_cons_of_mem _ List.mem_cons_self)
  have hr : ∀ x ∈ rs, b ≤ x := fun x hx => hm x (List.mem_cons_of_mem _ (List.mem_cons_of_mem _ hx))
  have hm2 : ∀ l ∈ (s - 1) :: (s - 1) :: rs, b ≤ l := fun l hl => by
    rcases List.mem_cons.mp hl with rfl | hl
    · omega
    rcases List.mem_cons.mp hl with rfl | hl
    · omega
    exact hr l hl
  have hj : b + (((s - 1 - b).toNat : Nat) : Int) = s - 1 := by omega
  refine ⟨fun x hx => ?_, ?_⟩
  · have hbx := hr x hx
    rw [← topI_own hm (List.mem_cons_of_mem _ (List.mem_cons_of_mem _ hx)), ← topI_own hm2 (List.mem_cons_of_mem _ (List.mem_cons_of_mem _ hx))]
    by_cases hq : x ≤ s - 1
    · exact top_lo h _ (by omega)
    · have := top_hi h ht hr hj (x - s).toNat
      rwa [show (s - 1 - b).toNat + 1 + (x - s).toNat = (x - b).toNat by omega] at this
  · rw [← topI_own hm List.mem_cons_self, ← topI_own hm2 List.mem_cons_self]
    have := top_mid h ht hr hj
    rwa [show (s - 1 - b).toNat + 1 = (s - b).toNat by omega] at this
/-! a near deed over a sheet of the bottom -/
theorem near_new (hr : ∀ x ∈ rs, x = t ∨ s ≤ x) : ∀ j : Nat, t + (j : Int) ≤ s - 1 → topI ((s - 1) :: (s - 1) :: rs) t j = max t (t + (j : Int) - cntB rs s)
  | 0, _ => by
    have := cntB_nn (ls := rs) (l := s)
    show t = _
    omega
  | j + 1, hj => by
    have ih := near_new hr j (by omega)
    have e := cntB_same (ls := rs) (a := t + (j : Int) + 1) (b := s) (by omega) fun x hx hlt => by have := hr x hx; omega
    rw [topI_succ, ih, cnt_new, if_neg (by omega : ¬ s ≤ t + (j : Int) + 1), e]
    omega
theorem near_old (h : t < s) (hr : ∀ x ∈ rs, x = t ∨ s ≤ x) : ∀ j : Nat, t + (j : Int) ≤ s → topI (s :: t :: rs) t j = max t (t + (j : Int) - cntB rs s - 1)
  | 0, _ => by
    have := cntB_nn (ls := rs) (l := s)
    show t = _
    omega
  | j + 1, hj => by
    have ih := near_old h hr j (by omega)
    have e := cntB_same (ls := rs) (a := t + (j : Int) + 1) (b := s) (by omega) fun x hx hlt => by have := hr x hx; omega
    rw [topI_succ, ih, cnt_old, if_neg (by omega : ¬ s < t + (j : Int) + 1), if_pos (by omega : t < t + (j : Int) + 1), e]
    omega
theorem near_hi (h : t < s) (hr : ∀ x ∈ rs, x = t ∨ s ≤ x) {j : Nat} (hj : t + (j : Int) = s - 1) : ∀ d : Nat, topI ((s - 1) :: (s - 1) :: rs) t (j + 1 + d) = topI (s :: t :: rs) t (j + 1 + d)
  | 0 => by
    rw [Nat.add_zero, near_old h hr _ (by omega), topI_succ, near_new hr _ (by omega), hj, cnt_new, if_pos (by omega : s ≤ s - 1 + 1), show s - 1 + 1 = s by omega]
    omega
  | d + 1 => by
    have ih := near_hi h hr hj d
    rw [show j + 1 + (d + 1) = (j + 1 + d) + 1 by omega, topI_succ, topI_succ, ih, cnt_new (s := s), cnt_old (s := s) (t := t), if_pos (by omega : s ≤ t + ((j + 1 + d : Nat) : Int) + 1), if_pos (by omega : s < t + ((j + 1 + d : Nat) : Int) + 1), if_pos (by omega : t < t + ((j + 1 + d : Nat) : Int) + 1)]
theorem own_near (h : t < s) (hr : ∀ x ∈ rs, x = t ∨ s ≤ x) : (∀ x ∈ rs, ownI ((s - 1) :: (s - 1) :: rs) x = ownI (s :: t :: rs) x) ∧ ownI ((s - 1) :: (s - 1) :: rs) (s - 1) = ownI (s :: t :: rs) s ∧ ownI (s :: t :: rs) t = t := by
  have hm : ∀ l ∈ s :: t :: rs, t ≤ l := fun l hl => by
    rcases List.mem_cons.mp hl with rfl | hl
    · omega
    rcases List.mem_cons.mp hl with rfl | hl
    · omega
    have := hr l hl
    omega
  have hm2 : ∀ l ∈ (s - 1) :: (s - 1) :: rs, t ≤ l := fun l hl => by
    rcases List.mem_cons.mp hl with rfl | hl
    · omega
    rcases List.mem_cons.mp hl with rfl | hl
    · omega
    have := hr l hl
    omega
  have hj : t + (((s - 1 - t).toNat : Nat) : Int) = s - 1 := by omega
  refine ⟨fun x hx => ?_, ?_, ?_⟩
  · rw [← topI_own hm (List.mem_cons_of_mem _ (List.mem_cons_of_mem _ hx)), ← topI_own hm2 (List.mem_cons_of_mem _ (List.mem_cons_of_mem _ hx))]
    rcases hr x hx with rfl | hq
    · rw [show (x - x).toNat = 0 by omega]; rfl
    · have := near_hi h hr hj (x - s).toNat
      rwa [show (s - 1 - t).toNat + 1 + (x - s).toNat = (x - t).toNat by omega] at this
  · rw [← topI_own hm List.mem_cons_self, ← topI_own hm2 List.mem_cons_self, near_old h hr _ (by omega), near_new hr _ (by omega)]
    omega
  · rw [← topI_own hm (List.mem_cons_of_mem _ List.mem_cons_self), show (t - t).toNat = 0 by omega]; rfl
end
theorem sum_le2 {α : Type} {f g : α → Int} {l : List α} (h : ∀ x ∈ l, f x ≤ g x) : (l.map f).sum ≤ (l.map g).sum := by
  induction l with
  | nil => exact Int.le_refl _
  | cons x l ih =>
    rw [List.map_cons, List.map_cons, List.sum_cons, List.sum_cons]
    have := ih fun y hy => h y (List.mem_cons_of_mem _ hy)
    have := h x List.mem_cons_self
    omega
theorem leftI_2 {a c : Int} {rs : List Int} : leftI (a :: c :: rs) = (2 ^ (a - ownI (a :: c :: rs) a).toNat - 1) + ((2 ^ (c - ownI (a :: c :: rs) c).toNat - 1) + (rs.map fun l => (2 : Int) ^ (l - ownI (a :: c :: rs) l).toNat - 1).sum) := by
  have e : leftI (a :: c :: rs) = ((a :: c :: rs).map fun l => (2 : Int) ^ (l - ownI (a :: c :: rs) l).toNat - 1).sum := by
    unfold leftI
    congr 1
    refine List.map_congr_left fun l hl => ?_
    rw [capI_1 (ownI_b hl).1]
  rw [e, List.map_cons, List.map_cons, List.sum_cons, List.sum_cons]
theorem two_half {s o : Int} (h : o ≤ s - 1) : (2 : Int) ^ (s - o).toNat = 2 * 2 ^ (s - 1 - o).toNat := by
  rw [show (s - o).toNat = (s - 1 - o).toNat + 1 by omega, Int.pow_succ]
  omega
theorem left_deed {rs : List Int} {s t : Int} (h : t < s) : leftI ((s - 1) :: (s - 1) :: rs) + 1 ≤ leftI (s :: t :: rs) := by
  obtain ⟨h1, h2⟩ := own_deed (rs := rs) h
  rw [leftI_2, leftI_2]
  have h3 := (ownI_b (ls := (s - 1) :: (s - 1) :: rs) (s := s - 1) List.mem_cons_self).1
  have h4 := two_half h3
  have h5 := two_mono (m := (s - ownI ((s - 1) :: (s - 1) :: rs) (s - 1)).toNat) (n := (s - ownI (s :: t :: rs) s).toNat) (by omega)
  have h6 := two_pos (t - ownI (s :: t :: rs) t).toNat
  have h7 : (rs.map fun l => (2 : Int) ^ (l - ownI ((s - 1) :: (s - 1) :: rs) l).toNat - 1).sum ≤ (rs.map fun l => (2 : Int) ^ (l - ownI (s :: t :: rs) l).toNat - 1).sum := sum_le2 fun x hx => by
    have := h1 x hx
    have := two_mono (m := (x - ownI ((s - 1) :: (s - 1) :: rs) x).toNat) (n := (x - ownI (s :: t :: rs) x).toNat) (by omega)
    omega
  omega
theorem left_near {rs : List Int} {s t : Int} (h : t < s) (hr : ∀ x ∈ rs, x = t ∨ s ≤ x) : leftI ((s - 1) :: (s - 1) :: rs) + 1 = leftI (s :: t :: rs) := by
  obtain ⟨h1, h2, h3⟩ := own_near h hr
  rw [leftI_2, leftI_2]
  have h4 := (ownI_b (ls := (s - 1) :: (s - 1) :: rs) (s := s - 1) List.mem_cons_self).1
  have h5 := two_half h4
  have h7 : (rs.map fun l => (2 : Int) ^ (l - ownI ((s - 1) :: (s - 1) :: rs) l).toNat - 1) = (rs.map fun l => (2 : Int) ^ (l - ownI (s :: t :: rs) l).toNat - 1) := List.map_congr_left fun x hx => by rw [h1 x hx]
  rw [h7, h3, show (t - t).toNat = 0 by omega, Int.pow_zero]
  rw [h2] at h5 ⊢
  omega
theorem left_level {ls : List Int} {a : Int} (h : ∀ l ∈ ls, l = a) : leftI ls = 0 := by
  have key : ∀ ms : List Int, (∀ l ∈ ms, l ∈ ls) → (ms.map fun l => capI l (ownI ls l) 1 - 1).sum = 0 := fun ms => by
    induction ms with
    | nil => intro _; rfl
    | cons m ms ih =>
      intro hm
      have hmm := hm m List.mem_cons_self
      obtain ⟨h1, h2⟩ := ownI_b hmm
      have hc : cntB ls m = 0 := by
        unfold cntB
        rw [List.filter_eq_nil_iff.mpr fun x hx e => by
          have := h x hx
          have := h m hmm
          have := of_decide_eq_true e
          omega]
        rfl
      rw [List.map_cons, List.sum_cons, ih fun l hl => hm l (List.mem_cons_of_mem _ hl), capI_1 h1, show (m - ownI ls m).toNat = 0 by omega]
      rfl
  exact key ls fun l hl => hl
theorem left_nn {ls : List Int} : 0 ≤ leftI ls := by
  have key : ∀ ms : List Int, (∀ l ∈ ms, l ∈ ls) → 0 ≤ (ms.map fun l => capI l (ownI ls l) 1 - 1).sum := fun ms => by
    induction ms with
    | nil => intro _; exact Int.le_refl _
    | cons m ms ih =>
      intro hm
      have h1 := (ownI_b (hm m List.mem_cons_self)).1
      have h2 := ih fun l hl => hm l (List.mem_cons_of_mem _ hl)
      have h3 := two_pos (m - ownI ls m).toNat
      rw [List.map_cons, List.sum_cons, capI_1 h1]
      omega
  exact key ls fun l hl => hl
/-! ### two places written -/
theorem set_perm1 {α : Type} {l : List α} {i : Nat} (hi : i < l.length) (a : α) : (l.set i a).Perm (a :: l.eraseIdx i) := by
  induction l generalizing i with
  | nil => exact absurd hi (Nat.not_lt_zero _)
  | cons x l ih =>
    cases i with
    | zero => exact List.Perm.refl _
    | succ i =>
      rw [List.set_cons_succ, List.eraseIdx_cons_succ]
      exact ((ih (by simpa using hi)).cons x).trans (List.Perm.swap _ _ _)
theorem set_perm2 {α : Type} {l : List α} {i j : Nat} (hi : i < l.length) (hj : j < l.length) (hij : i ≠ j) : ∃ r : List α, ∀ a b, ((l.set i a).set j b).Perm (a :: b :: r) := by
  induction l generalizing i j with
  | nil => exact absurd hi (Nat.not_lt_zero _)
  | cons x l ih =>
    cases i with
    | zero =>
      cases j with
      | zero => exact absurd rfl hij
      | succ j =>
        refine ⟨l.eraseIdx j, fun a b => ?_⟩
        rw [List.set_cons_zero, List.set_cons_succ]
        exact (set_perm1 (by simpa using hj) b).cons a
    | succ i =>
      cases j with
      | zero =>
        refine ⟨l.eraseIdx i, fun a b => ?_⟩
        rw [List.set_cons_succ, List.set_cons_zero]
        exact ((set_perm1 (by simpa using hi) a).cons b).trans (List.Perm.swap _ _ _)
      | succ j =>
        obtain ⟨r, h⟩ := ih (i := i) (j := j) (by simpa using hi) (by simpa using hj) (by omega)
        refine ⟨x :: r, fun a b => ?_⟩
        rw [List.set_cons_succ, List.set_cons_succ]
        exact ((h a b).cons x).trans ((List.Perm.swap _ _ _).trans ((List.Perm.swap _ _ _).cons a))
theorem set_perm3 {l : List Int} {i j : Nat} {a b : Int} (hi : l[i]? = some a) (hj : l[j]? = some b) (hij : i ≠ j) : ∃ r : List Int, l.Perm (a :: b :: r) ∧ ∀ x y, ((l.set i x).set j y).Perm (x :: y :: r) := by
  obtain ⟨hi', ei⟩ := List.getElem?_eq_some_iff.mp hi
  obtain ⟨hj', ej⟩ := List.getElem?_eq_some_iff.mp hj
  obtain ⟨r, h⟩ := set_perm2 hi' hj' hij
  refine ⟨r, ?_, h⟩
  have e := h a b
  rwa [← ei, List.set_getElem_self, ← ej, List.set_getElem_self, ei, ej] at e
/-- one deed with one target: the sheets' levels ahead and behind -/
theorem aftR_perm {rs : List (Int × Str)} {s t : Int} (h : alB rs s [t] 1 = true) : ∃ r : List Int, (rs.map Prod.fst).Perm ((gx rs s).1 :: (gx rs t).1 :: r) ∧ ((aftR rs s [t]).map Prod.fst).Perm (((gx rs s).1 - 1) :: ((gx rs s).1 - 1) :: r) ∧ (gx rs t).1 < (gx rs s).1 := by
  obtain ⟨h1, _, h3⟩ := alB_iff.mp h
  have hb := (wfB_iff.mp h1).2.2
  have hs := hb s List.mem_cons_self
  have ht := hb t (List.mem_cons_of_mem _ List.mem_cons_self)
  have hlt := h3 t List.mem_cons_self
  have hne : s.toNat ≠ t.toNat := fun e => by
    have e : s = t := by omega
    rw [e] at hlt
    omega
  have g : ∀ k : Int, 0 ≤ k → k < (rs.length : Int) → (rs.map Prod.fst)[k.toNat]? = some (gx rs k).1 := fun k h0 h1 => by
    rw [List.getElem?_map, gx_nn h0, List.getElem?_eq_getElem (by omega)]; rfl
  obtain ⟨r, p1, p2⟩ := set_perm3 (g s hs.1 hs.2) (g t ht.1 ht.2) hne
  refine ⟨r, p1, ?_, hlt⟩
  have e : (aftR rs s [t]).map Prod.fst = ((rs.map Prod.fst).set s.toNat ((gx rs s).1 - 1)).set t.toNat ((gx rs s).1 - 1) := by
    unfold aftR setR setR setR
    rw [List.map_set, List.map_set]
  rw [e]
  exact p2 _ _
theorem left_aft {rs : List (Int × Str)} {s t : Int} (h : alB rs s [t] 1 = true) : leftI ((aftR rs s [t]).map Prod.fst) + 1 ≤ leftI (rs.map Prod.fst) := by
  obtain ⟨r, p1, p2, hlt⟩ := aftR_perm h
  rw [leftI_perm p1, leftI_perm p2]
  exact left_deed hlt
theorem left_aft_near {rs : List (Int × Str)} {s t : Int} (h : alB rs s [t] 1 = true) (hr : ∀ l ∈ rs.map Prod.fst, l < (gx rs s).1 → l = (gx rs t).1) : leftI ((aftR rs s [t]).map Prod.fst) + 1 = leftI (rs.map Prod.fst) := by
  obtain ⟨r, p1, p2, hlt⟩ := aftR_perm h
  rw [leftI_perm p1, leftI_perm p2]
  refine left_near hlt fun x hx => ?_
  by_cases hq : x < (gx rs s).1
  · exact .inl (hr x (p1.mem_iff.mpr (List.mem_cons_of_mem _ (List.mem_cons_of_mem _ hx))) hq)
  · exact .inr (by omega)
theorem aft_b {rs : List (Int × Str)} {s t lo hi : Int} (h : alB rs s [t] 1 = true) (hb : ∀ l ∈ rs.map Prod.fst, lo ≤ l ∧ l ≤ hi) : ∀ l ∈ (aftR rs s [t]).map Prod.fst, lo ≤ l ∧ l ≤ hi := fun l hl => by
  obtain ⟨r, p1, p2, hlt⟩ := aftR_perm h
  have h1 := hb _ (p1.mem_iff.mpr List.mem_cons_self)
  have h2 := hb _ (p1.mem_iff.mpr (List.mem_cons_of_mem _ List.mem_cons_self))
  rcases List.mem_cons.mp (p2.mem_iff.mp hl) with rfl | hl
  · omega
  rcases List.mem_cons.mp hl with rfl | hl
  · omega
  exact hb _ (p1.mem_iff.mpr (List.mem_cons_of_mem _ (List.mem_cons_of_mem _ hl)))
/-! ### logs -/
def aftL (rs : List (Int × Str)) : List (Int × List Int) → List (Int × Str)
  | [] => rs
  | d :: ds => aftL (aftR rs d.1 d.2) ds
def logOk (rs : List (Int × Str)) (w : Int) : List (Int × List Int) → Prop
  | [] => True
  | d :: ds => alB rs d.1 d.2 w = true ∧ logOk (aftR rs d.1 d.2) w ds
theorem aftR_len {rs : List (Int × Str)} {s : Int} {ts : List Int} : (aftR rs s ts).length = rs.length := setR_len
theorem aftL_len {ds : List (Int × List Int)} : ∀ {rs : List (Int × Str)}, (aftL rs ds).length = rs.length := by
  induction ds with
  | nil => intro rs; rfl
  | cons d ds ih => intro rs; exact ih.trans aftR_len
theorem aftL_snoc {d : Int × List Int} {ds : List (Int × List Int)} : ∀ {rs : List (Int × Str)}, aftL rs (ds ++ [d]) = aftR (aftL rs ds) d.1 d.2 := by
  induction ds with
  | nil => intro rs; rfl
  | cons e ds ih => intro rs; exact ih
theorem logOk_snoc {w : Int} {d : Int × List Int} {ds : List (Int × List Int)} : ∀ {rs : List (Int × Str)}, logOk rs w (ds ++ [d]) ↔ logOk rs w ds ∧ alB (aftL rs ds) d.1 d.2 w = true := by
  induction ds with
  | nil => intro rs; exact ⟨fun h => ⟨trivial, h.1⟩, fun h => ⟨h.2, trivial⟩⟩
  | cons e ds ih => intro rs; exact ⟨fun h => ⟨⟨h.1, (ih.mp h.2).1⟩, (ih.mp h.2).2⟩, fun h => ⟨h.1.1, ih.mpr ⟨h.1.2, h.2⟩⟩⟩
theorem logOk_at {w : Int} {ds : List (Int × List Int)} {k : Nat} {d : Int × List Int} : ∀ {rs : List (Int × Str)}, logOk rs w ds → ds[k]? = some d → alB (aftL rs (ds.take k)) d.1 d.2 w = true := by
  induction ds generalizing k with
  | nil => intro rs _ e; cases e
  | cons e ds ih =>
    intro rs h hk
    cases k with
    | zero => obtain rfl := Option.some.inj hk; exact h.1
    | succ k => exact ih h.2 hk
theorem aftR_rc {rs : List (Int × Str)} {s w : Int} {ts : List Int} (h : alB rs s ts w = true) (hr : ∀ r ∈ rs, isRec r.2 = true) : ∀ r ∈ aftR rs s ts, isRec r.2 = true := by
  have hs := (wfB_iff.mp (alB_iff.mp h).1).2.2 s List.mem_cons_self
  exact setR_rc hr (show isRec (gx rs s).2 = true from hr _ (gx_mem ⟨by omega, hs.2⟩))
end Pf
namespace Pf
open PySem PySem.Spec PyProof.Rows L2
/-! ### while -/
section
variable {cc : WT} {b : WS} {D : PEnds} {env : PEnv}
theorem whA (ts : List Nat) (k : Nat) (m : Mo) {β : Type} (f : β → P) (mu : β → Nat) (I : β → Prop) (a0 : β) (h0 : I a0) (he : Any ts (env.set k (some (m, f a0))) env)
    (hs : ∀ c e, I c → Any ts (env.set k (some (m, f c))) e → cc e (fun t => if t = true then b { D with nx := fun e3 => ∃ c2, mu c2 < mu c ∧ I c2 ∧ Any ts (env.set k (some (m, f c2))) e3, ct := fun e3 => ∃ c2, mu c2 < mu c ∧ I c2 ∧ Any ts (env.set k (some (m, f c2))) e3, bk := D.nx } e else D.nx e) (D.ex e)) : wWhile cc b D env := by
  refine ⟨fun n e => ∃ c, n = mu c ∧ I c ∧ Any ts (env.set k (some (m, f c))) e, ⟨_, a0, rfl, h0, he⟩, ?_⟩
  rintro n e ⟨c, rfl, h1, h2⟩
  have e1 : (fun e2 => ∃ m', m' < mu c ∧ ∃ c2, m' = mu c2 ∧ I c2 ∧ Any ts (env.set k (some (m, f c2))) e2) = fun e3 => ∃ c2, mu c2 < mu c ∧ I c2 ∧ Any ts (env.set k (some (m, f c2))) e3 := by
    funext e2
    refine propext ⟨?_, ?_⟩
    · rintro ⟨_, hm, c2, rfl, h⟩
      exact ⟨c2, hm, h⟩
    · rintro ⟨c2, hm, h⟩
      exact ⟨_, hm, c2, rfl, h⟩
  rw [e1]
  exact hs c e h1 h2
theorem whA2 (ts : List Nat) (k k2 : Nat) (m m2 : Mo) {β γ : Type} (f : β → P) (f2 : γ → P) (mu : β → γ → Nat) (I : β → γ → Prop) (a0 : β) (b0 : γ) (h0 : I a0 b0) (he : Any ts ((env.set k (some (m, f a0))).set k2 (some (m2, f2 b0))) env)
    (hs : ∀ c d e, I c d → Any ts ((env.set k (some (m, f c))).set k2 (some (m2, f2 d))) e → cc e (fun t => if t = true then b { D with nx := fun e3 => ∃ c2 d2, mu c2 d2 < mu c d ∧ I c2 d2 ∧ Any ts ((env.set k (some (m, f c2))).set k2 (some (m2, f2 d2))) e3, ct := fun e3 => ∃ c2 d2, mu c2 d2 < mu c d ∧ I c2 d2 ∧ Any ts ((env.set k (some (m, f c2))).set k2 (some (m2, f2 d2))) e3, bk := D.nx } e else D.nx e) (D.ex e)) : wWhile cc b D env := by
  refine ⟨fun n e => ∃ c d, n = mu c d ∧ I c d ∧ Any ts ((env.set k (some (m, f c))).set k2 (some (m2, f2 d))) e, ⟨_, a0, b0, rfl, h0, he⟩, ?_⟩
  rintro n e ⟨c, d, rfl, h1, h2⟩
  have e1 : (fun e2 => ∃ m', m' < mu c d ∧ ∃ c2 d2, m' = mu c2 d2 ∧ I c2 d2 ∧ Any ts ((env.set k (some (m, f c2))).set k2 (some (m2, f2 d2))) e2) = fun e3 => ∃ c2 d2, mu c2 d2 < mu c d ∧ I c2 d2 ∧ Any ts ((env.set k (some (m, f c2))).set k2 (some (m2, f2 d2))) e3 := by
    funext e2
    refine propext ⟨?_, ?_⟩
    · rintro ⟨_, hm, c2, d2, rfl, h⟩
      exact ⟨c2, d2, hm, h⟩
    · rintro ⟨c2, d2, hm, h⟩
      exact ⟨_, hm, c2, d2, rfl, h⟩
  rw [e1]
  exact hs c d e h1 h2
end
end Pf
namespace Pf
open PySem PySem.Spec PyProof.Rows L2
/-- a log -/
abbrev lgP (ds : List (Int × List Int)) : P := .lst (ds.map ddP)
end Pf
namespace Pf
open PySem PySem.Spec PyProof.Rows L2
/-- a deed with one target is allowed -/
theorem al_one {rs : List (Int × Str)} {s t : Int} (hs : 0 ≤ s ∧ s < (rs.length : Int)) (ht : 0 ≤ t ∧ t < (rs.length : Int)) (h : (gx rs t).1 < (gx rs s).1) : alB rs s [t] 1 = true := by
  refine alB_iff.mpr ⟨wfB_iff.mpr ⟨by show 0 < 1; decide, ascB_iff.mpr fun j hj => absurd hj (by show ¬ j + 1 < 1; omega), fun i hi => ?_⟩, by show (1 : Int) ≤ 1; decide, fun i hi => ?_⟩
  · simp only [List.mem_cons, List.not_mem_nil, or_false] at hi
    rcases hi with rfl | rfl
    · exact hs
    · exact ht
  · rw [List.mem_singleton.mp hi]
    exact h
theorem aftR_fst {rs : List (Int × Str)} {s t : Int} : (aftR rs s [t]).map Prod.fst = ((rs.map Prod.fst).set s.toNat ((gx rs s).1 - 1)).set t.toNat ((gx rs s).1 - 1) := by
  unfold aftR setR setR setR
  rw [List.map_set, List.map_set]
theorem gx_fst {rs : List (Int × Str)} {k : Int} (h0 : 0 ≤ k) (h1 : k < (rs.length : Int)) : gx (rs.map Prod.fst) k = (gx rs k).1 := gx_map ⟨by omega, h1⟩
theorem gx_idx {ls : List Int} {x : Int} (h : x ∈ ls) : (ls.idxOf x) < ls.length ∧ gx ls (ls.idxOf x : Nat) = x := by
  have hl := List.idxOf_lt_length_of_mem h
  refine ⟨hl, ?_⟩
  rw [gx_get hl]
  exact List.getElem_idxOf hl
end Pf

namespace Pf
open PySem PySem.Spec PyProof.Rows L2
/-! ### xs[i] += n -/
section
variable {X : Cx}
theorem get_list : PGet X (rIxL X.K) := by
  intro pins s σ H x y v u Q I rx ry h
  obtain ⟨p, xs, i, z, rfl, rfl, hq, he, q⟩ := h
  cases rx
  obtain ⟨t, rfl⟩ := ry
  obtain ⟨its, r, pl, hz⟩ := I.list hq
  obtain ⟨j, h1, h2, h3, h4, h5⟩ := atI_get he
  obtain ⟨w, ew, rw'⟩ := r.get h2
  have hl := r.length
  have hn := line63
  have fin : EP X pins σ Q w s := ⟨z, H, I, rw', q⟩
  by_cases h0 : 0 ≤ i
  · have hj : i.toNat = j := by
      rw [seqIndex_of h0 h5] at h1
      exact Option.some.inj h1
    exact wpAny_getItem_list pl.isList h0 (by omega) (by rw [hj]; simpa using ew) fin
  · have hj : (i + (its.toArray.size : Int)).toNat = j := by
      rw [seqIndex_neg (by omega) h4] at h1
      rw [List.size_toArray, ← hl]
      exact Option.some.inj h1
    exact wpAny_getItem_list_neg pl.isList (by omega) (by rw [List.size_toArray, ← hl]; exact h4) (by omega) (by rw [hj]; simpa using ew) fin
end
section
variable {K : PySem.W.Frag} {W : WX} {ro : Bool}
/-- the item at k -/
def augAt (xs : List P) (k : Int) (Q : Nat → P → Prop) : Prop := ∃ j, ixN xs.length k = some j ∧ ∃ x, xs[j]? = some x ∧ Q j x
def wAugS (i : Nat) (f : Int → Int → Int) (wi w : WE) : WS := fun D env => ownL env i fun xs => wi env (fun y => onInt y fun k => augAt xs k fun j x => w env (fun z => onInt x fun a => onInt z fun b => D.nx (env.set i (some (.o, .lst (xs.set j (.int (f a b))))))) (D.ex env)) (D.ex env)
theorem ss_augS {i : Nat} {ti te : TE} {wi w : WE} {f : Int → Int → Int} (hi : SE K W .C ti wi) (h : SE K W .C te w) : SS K W ro (tAugS (tVar i) ti te (rIxL K) (ipI f) rSetL) (wAugS i f wi w) := fun F0 H0 σ F H env Dp D g hw d x => by
  obtain ⟨xs, a, vs, e, hs, ha, r, hw⟩ := ownL_of g hw
  refine ⟨.ref a, hs, ?_⟩
  refine hi F0 H0 σ F H env _ _ _ g hw (x.x g) fun F1 H1 u z m rz q => ?_
  obtain ⟨k, rfl, rfl, j, hj, xx, hx, q⟩ := onInt_of rz q
  have g1 := g.mv m
  have r1 := r.mono m.e.1
  have ha1 := m.s _ _ ha
  obtain ⟨v0, ev0, rv0⟩ := r1.get' hx
  have hat : atI vs k = some v0 := by unfold atI; rw [r1.len, hj]; exact ev0
  refine ⟨a, vs, k, v0, rfl, rfl, SqL.of ha1, hat, ?_⟩
  refine h F0 H0 σ F1 H1 env _ _ _ g1 q (x.x g1) fun F2 H2 w2 z2 m2 rz2 q2 => ?_
  obtain ⟨a1, e1, rfl, q2⟩ := onInt_of (show Tp K F2 H2 v0 xx from .inl (R.mv m2 rv0)) q2
  obtain ⟨b1, e2, rfl, q2⟩ := onInt_of rz2 q2
  subst e1 e2
  refine ⟨a1, b1, rfl, rfl, ?_⟩
  exact ⟨a, vs, k, j, rfl, rfl, m2.s _ _ ha1, by rw [r1.len]; exact hj, d.1 σ F2 _ _ ((g1.mv m2).put e hs (.l ((r1.mono m2.e.1).set (R.int _) j))) q2⟩
theorem ap_augS {i : Nat} {f : Int → Int → Int} {wi w : WE} {D : PEnds} {env : PEnv} : (wAugS i f wi w D env) = (ownL env i fun xs => wi env (fun y => onInt y fun k => augAt xs k fun j x => w env (fun z => onInt x fun a => onInt z fun b => D.nx (env.set i (some (.o, .lst (xs.set j (.int (f a b))))))) (D.ex env)) (D.ex env)) := rfl
/-- an item of a list of ints -/
theorem aq_aug {xs : List P} {ns : List Int} [h : ML xs Int P.int ns] {k : Int} {Q : Nat → P → Prop} : (augAt xs k Q) = (ixOk ns.length k ∧ Q (ixj ns.length k) (.int (gx ns k))) := by
  rw [h.eq]
  unfold augAt
  rw [List.length_map]
  refine propext ⟨?_, fun ⟨h, q⟩ => ?_⟩
  · rintro ⟨j, hj, x, hx, q⟩
    obtain ⟨h1, rfl⟩ := ixN_some.mp hj
    refine ⟨h1, ?_⟩
    rw [List.getElem?_map] at hx
    unfold gx
    cases e : ns[ixj ns.length k]? with
    | none => rw [e] at hx; cases hx
    | some n => rw [e] at hx; cases hx; exact q
  · refine ⟨_, ixN_some.mpr ⟨h, rfl⟩, _, ?_, q⟩
    rw [List.getElem?_map]
    have hl : ixj ns.length k < ns.length := by unfold ixj; unfold ixOk at h; split <;> omega
    unfold gx
    rw [List.getElem?_eq_getElem hl]
    rfl
end
/-! ### isinstance(e, (C, D, ..)), e a caught error of none of these classes -/
section
variable {K : PySem.W.Frag}
def rIsDL (K : PySem.W.Frag) (a : Addr) (cls : Value) (d : Option Addr) : List V → Hp → VK → Prop := fun xs H Q => ∃ (D dd : Addr) (fs : List (Str × V)) (tp : Addr) (cs : List V) (us : List Value) (b : Bool), xs = [.ref a, .ref tp] ∧ cls = .ref D ∧ d = some dd ∧ H dd = some (.xd fs) ∧ ExcC K D ∧ H tp = some (.tup cs) ∧ Paired ClsV cs us ∧ PySem.W.kitAny K (.ref D) us = some b ∧ Q (.bl b) H
theorem call_isDL {X : Cx} {a : Addr} {oe : Obj} {cls : Value} {d : Option Addr} {pn : List (Addr × Obj)} (hz : Zc cls d oe) (hf : ∃ vs, oe.data = .fields vs) : CallR (X.suite a ((a, oe) :: pn)) (.builtin "isinstance") (rIsDL X.K a cls d) := by
  intro pins s σ H xs us Q I r h
  obtain ⟨D, dd, fs, tp, cs, ws, b, rfl, rfl, rfl, hd, C, hT, hcv, e, q⟩ := h
  cases r with
  | cons rx rr =>
    cases rr with
    | cons rt rr =>
      cases rr
      cases rx
      cases rt
      obtain ⟨hget, _⟩ := I.pin (a, oe) (List.mem_append.mpr (.inl List.mem_cons_self))
      obtain ⟨vs, hv⟩ := hf
      have hx : ObjOk X.prog X.w H s.heap dd (.xd fs) := I.hok dd _ hd
      obtain ⟨mA, hns, _⟩ := hx
      obtain ⟨od, ho, _⟩ := lookIn_ns hns
      have J : PySem.W.InstAt s.heap a oe D (some od) := ⟨hget, hz.1, by unfold PySem.W.notCls; rw [hv] <;> rfl, by rw [hz.2]; exact ho⟩
      obtain ⟨_, its, rv, o, h1, h2, n, h3⟩ := (show ObjOk X.prog X.w H s.heap tp (.tup cs) from I.hok tp _ hT)
      have e3 := ClsV.all hcv rv
      subst e3
      obtain ⟨oc, od2, dt, sl⟩ := o
      simp only at h2 h3
      subst h2 h3
      exact PySem.W.kia_tup (PySem.W.pf_kitD C.hg C.hk C.hs C.hd C.ha C.hn C.ht C.hm) I.kIn J h1 e (fun z => nomatch z) fun tk => ⟨.bl b, H, I.kept (t' := tk) fun _ _ z => z, rfl, q⟩
/-- the class D is none of Cs -/
def KNone (K : PySem.W.Frag) (D : Addr) : List Addr → Prop
  | [] => True
  | C :: Cs => PySem.W.kitOne K (.ref D) (.ref C) = some false ∧ KNone K D Cs
theorem kn_nil {D : Addr} : KNone K D [] := trivial
theorem kn_cons {D C : Addr} {Cs : List Addr} (h : PySem.W.kitOne K (.ref D) (.ref C) = some false) (r : KNone K D Cs) : KNone K D (C :: Cs) := ⟨h, r⟩
theorem KNone.any {D : Addr} : ∀ {Cs : List Addr}, KNone K D Cs → PySem.W.kitAny K (.ref D) (Cs.map Value.ref) = some false
  | [], _ => rfl
  | C :: Cs, h => by
    rw [List.map_cons]
    unfold PySem.W.kitAny
    rw [h.1]
    exact KNone.any h.2
theorem clsV_refs : ∀ Cs : List Addr, Paired ClsV (Cs.map V.ref) (Cs.map Value.ref)
  | [] => .nil
  | C :: Cs => .cons (.own C) (clsV_refs Cs)
def fIsDL (a : Addr) (d : Option Addr) (C : Addr) (Cs : List Addr) : PFn := fun xs Q => ∃ ns ys, xs = [.exc a d C ns ys, .tup (Cs.map P.adr)] ∧ ns ≠ [] ∧ Q (.bl false)
theorem RL.adrs {F : Hp} : ∀ {Cs : List Addr} {vs : List V}, RL K F vs (Cs.map P.adr) → vs = Cs.map V.ref
  | [], _, h => by cases h; rfl
  | C :: Cs, _, h => by
    cases h with
    | cons r rr => cases r; rw [RL.adrs rr]; rfl
theorem cs_isDL {a C : Addr} {Cs : List Addr} {d : Option Addr} {m m' : Mo} (E : ExcC K C) (hk : KNone K C Cs) : CallS K .V [m, m'] (rIsDL K a (.ref C) d) (fIsDL a d C Cs) := fun F H vs xs Qp Q s r ⟨ns, ys, e, hn, h⟩ q => by
  obtain ⟨v, vs', x, xs', rfl, rfl, t, r'⟩ := AL.cons r
  obtain ⟨v', x', rfl, rfl, t'⟩ := AL.one r'
  cases e
  obtain ⟨_, b, ws, e1, rfl, hb, rl, _⟩ := onTup_of (Q := fun _ => True) s t' trivial
  cases e1
  have ew := RL.adrs rl
  subst ew
  rcases t with t | ⟨_, _, _, _, c⟩
  · cases t with
    | exc0 => exact absurd rfl hn
    | exc1 hf e1 e2 rl => exact ⟨C, _, _, _, _, _, false, rfl, rfl, rfl, s _ _ hf, E, s _ _ hb, clsV_refs Cs, hk.any, q F H _ _ (.refl s) (R.bl _) h⟩
  · exact c.elim
theorem ap_isDL {a C : Addr} {d : Option Addr} {Cs : List Addr} {zs : List P} {n : Str} {ns : List Str} {ys : List P} {Q : P → Prop} : (fIsDL a d C Cs [.exc a d C (n :: ns) ys, .tup zs] Q) = (zs = Cs.map P.adr ∧ Q (.bl false)) :=
  propext ⟨fun ⟨_, _, e, _, q⟩ => by cases e; exact ⟨rfl, q⟩, fun ⟨e, q⟩ => ⟨_, _, by rw [e], by simp, q⟩⟩
end
end Pf
namespace Pf
open PySem PySem.Spec PyProof.Rows L2
theorem adrs_nil : (([] : List P) = List.map P.adr []) = True := eq_true rfl
theorem adrs_cons {a : Addr} {zs : List P} {Cs : List Addr} : (P.adr a :: zs = List.map P.adr (a :: Cs)) = (zs = List.map P.adr Cs) := by
  rw [List.map_cons]
  exact propext ⟨fun e => (List.cons.inj e).2, fun e => by rw [e]⟩
end Pf
namespace Pf
open PySem PySem.Spec PyProof.Rows L2
/-- * by a short left factor -/
def CMulL (i _ : Int) : Prop := i.natAbs < 2 ^ 63
theorem CMulL.ok {i j : Int} (h : CMulL i j) : IntMulOk i j := by
  refine IntMulOk.of_left ?_
  have h2 : i.natAbs.log2 < 63 := by
    by_cases hz : i.natAbs = 0
    · rw [hz]; decide
    · exact (Nat.log2_lt hz).mpr h
  unfold Builtin.Int.intBits
  split <;> omega
theorem op_mulL {X : Cx} : OpR X (binaryOp .Mult) (rI CMulL fun i j => .int (i * j)) := opI fun _ _ _ _ _ _ _ hc q => mul_int q hc.ok
end Pf
namespace Pf
open PySem PySem.Spec PyProof.Rows L2
section
variable {K : PySem.W.Frag} {W : WX}
/-- enumerate of a name's list -/
def wIEv (i : Nat) : WI := fun env Q X => wILv i env (fun xs => Q (enumP xs)) X
theorem si_enumV (i : Nat) : SimI K W (iEnum K (tCons (tVar i) tNil)) (wIEv i) := fun F0 H0 σ F H env Qp Xp Rr g hw hx q => by
  unfold wIEv wILv at hw
  split at hw
  · rename_i xs e
    obtain ⟨v, hs, s⟩ := g.slot i _ _ e
    cases s with
    | lst hf r => exact ⟨_, hs, _, _, rfl, SqL.of (g.fh _ _ hf), q F H _ _ g.mvr (wkd_enum (fun F2 H2 o => ⟨SqL.of (o.2.1 _ _ (o.1 _ _ hf)), r.mono o.1, o.2.1⟩) r.len) hw⟩
  · rename_i xs e
    obtain ⟨v, hs, s⟩ := g.slot i _ _ e
    rcases s with s | ⟨a, o, rfl, ha, vs, rfl, r⟩
    · cases s with
      | lst hf r => exact ⟨_, hs, _, _, rfl, SqL.of (g.fh _ _ hf), q F H _ _ g.mvr (wkd_enum (fun F2 H2 o => ⟨SqL.of (o.2.1 _ _ (o.1 _ _ hf)), r.mono o.1, o.2.1⟩) r.len) hw⟩
    · exact ⟨_, hs, _, _, rfl, SqL.of (g.hh _ _ ha), q F H _ _ g.mvr (wkd_enum (fun F2 H2 o => ⟨SqL.of (o.2.2 _ _ ha), r.mono o.1, o.2.1⟩) r.len) hw⟩
  · exact hw.elim
theorem ap_wIEv {i : Nat} {env : PEnv} {Q : List P → Prop} {X : XP} : (wIEv i env Q X) = (wILv i env (fun xs => Q (enumP xs)) X) := rfl
end
end Pf

namespace Pf
open PySem PySem.Spec PyProof.Rows L2
abbrev iil (m : List (Int × Int)) : P := .lst (m.map iiP)
instance (priority := high) ml_iis {l : List (Int × Int)} : ML (l.map iiP) (Int × Int) iiP l := ⟨rfl⟩
/-! ### well-formed logs, marks -/
def gdB (n : Nat) (d : Int × List Int) : Bool := if d.1 ∈ d.2 then false else wfB n d.1 d.2
theorem gdB_iff {n : Nat} {d : Int × List Int} : gdB n d = true ↔ d.1 ∉ d.2 ∧ wfB n d.1 d.2 = true := by
  unfold gdB
  by_cases h : d.1 ∈ d.2
  · rw [if_pos h]; exact ⟨fun h => (by cases h), fun q => absurd h q.1⟩
  · rw [if_neg h]; exact ⟨fun q => ⟨h, q⟩, fun q => q.2⟩
theorem gdB_in {n : Nat} {d : Int × List Int} (h : gdB n d = true) : (0 ≤ d.1 ∧ d.1 < (n : Int)) ∧ ∀ i ∈ d.2, 0 ≤ i ∧ i < (n : Int) := wfB_in (gdB_iff.mp h).2
/-- the first deed that is not well-formed stands at k -/
def badAt (n : Nat) (ds : List (Int × List Int)) (k : Nat) : Prop := (∃ d, ds[k]? = some d ∧ gdB n d = false) ∧ ∀ (j : Nat) d, j < k → ds[j]? = some d → gdB n d = true
theorem asc_mid {xs ys : List Int} {a b : Int} (h : ascB (xs ++ a :: b :: ys) = true) : a < b := by
  have h := ascB_iff.mp h xs.length (by simp only [List.length_append, List.length_cons]; omega)
  rwa [gx_get (by simp only [List.length_append, List.length_cons]; omega), show ((xs.length : Int) + 1) = ((xs.length + 1 : Nat) : Int) by omega, gx_get (by simp only [List.length_append, List.length_cons]; omega), List.getElem_append_right (by omega), List.getElem_append_right (by omega), List.getElem_of_eq (by rfl : (a :: b :: ys) = a :: b :: ys), show (a :: b :: ys)[xs.length - xs.length]'(by simp) = a by simp, show (a :: b :: ys)[xs.length + 1 - xs.length]'(by simp) = b by simp [Nat.add_sub_cancel_left]] at h
def setI (m : List (Int × Int)) (r : Int × Int) : List Int → List (Int × Int)
  | [] => m
  | i :: is => setI (m.set i.toNat r) r is
theorem setI_len {m : List (Int × Int)} {r : Int × Int} {is : List Int} : (setI m r is).length = m.length := by
  induction is generalizing m with
  | nil => rfl
  | cons i is ih => unfold setI; rw [ih, List.length_set]
theorem setI_snoc {m : List (Int × Int)} {r : Int × Int} {is : List Int} {i : Int} : setI m r (is ++ [i]) = (setI m r is).set i.toNat r := by
  induction is generalizing m with
  | nil => rfl
  | cons j is ih => rw [List.cons_append]; unfold setI; rw [ih]
theorem setI_get {m : List (Int × Int)} {r : Int × Int} {is : List Int} (h : ∀ i ∈ is, 0 ≤ i ∧ i < (m.length : Int)) {j : Int} (h0 : 0 ≤ j) (h1 : j < (m.length : Int)) : gx (setI m r is) j = if j ∈ is then r else gx m j := by
  induction is generalizing m with
  | nil => rw [if_neg (by simp)]; rfl
  | cons i is ih =>
    have hi := h i List.mem_cons_self
    unfold setI
    rw [ih (fun k hk => by rw [List.length_set]; exact h k (List.mem_cons_of_mem _ hk)) (by rw [List.length_set]; exact h1)]
    by_cases hj : j ∈ is
    · rw [if_pos hj, if_pos (List.mem_cons_of_mem _ hj)]
    · rw [if_neg hj, gx_nn h0, gx_nn h0]
      by_cases e : j = i
      · subst e
        rw [if_pos List.mem_cons_self, List.getElem?_set_self (by omega)]
        rfl
      · rw [if_neg (fun q => (List.mem_cons.mp q).elim e hj), List.getElem?_set_ne (by omega)]
def mkA (m : List (Int × Int)) (d : Int × List Int) : List (Int × Int) := setI m ((gx m d.1).1, (gx m d.1).2 + 1) (d.1 :: d.2)
def mk0 (n : Nat) : List (Int × Int) := (rgI 0 n).map fun i => (i, 0)
def markL (n : Nat) (ds : List (Int × List Int)) : List (Int × Int) := ds.foldl mkA (mk0 n)
theorem mk0_len {n : Nat} : (mk0 n).length = n := by unfold mk0; rw [List.length_map, rgI_len]
theorem mkA_len {m : List (Int × Int)} {d : Int × List Int} : (mkA m d).length = m.length := setI_len
theorem markL_snoc {n : Nat} {ds : List (Int × List Int)} {d : Int × List Int} : markL n (ds ++ [d]) = mkA (markL n ds) d := by unfold markL; rw [List.foldl_append]; rfl
theorem markL_len {n : Nat} {ds : List (Int × List Int)} : (markL n ds).length = n := by
  unfold markL
  have key : ∀ m : List (Int × Int), (ds.foldl mkA m).length = m.length := by
    induction ds with
    | nil => intro m; rfl
    | cons d ds ih => intro m; rw [List.foldl_cons, ih, mkA_len]
  rw [key, mk0_len]
/-- a sheet followed back over one deed -/
def stepB (d : Int × List Int) (p : Int × Int) : Int × Int := if p.1 = d.1 ∨ p.1 ∈ d.2 then (d.1, p.2 + 1) else p
def backL (ds : List (Int × List Int)) (j : Int) : Int × Int := ds.foldr stepB (j, 0)
theorem back_shift {ds : List (Int × List Int)} {c w : Int} : ds.foldr stepB (c, w + 1) = ((ds.foldr stepB (c, w)).1, (ds.foldr stepB (c, w)).2 + 1) := by
  induction ds with
  | nil => rfl
  | cons d ds ih =>
    rw [List.foldr_cons, List.foldr_cons, ih]
    generalize ds.foldr stepB (c, w) = p
    unfold stepB
    by_cases h : p.1 = d.1 ∨ p.1 ∈ d.2
    · rw [if_pos h, if_pos h]
    · rw [if_neg h, if_neg h]
theorem back_snoc {ds : List (Int × List Int)} {d : Int × List Int} {j : Int} : backL (ds ++ [d]) j = if j = d.1 ∨ j ∈ d.2 then ((backL ds d.1).1, (backL ds d.1).2 + 1) else backL ds j := by
  unfold backL
  rw [List.foldr_append, List.foldr_cons, List.foldr_nil]
  conv => lhs; unfold stepB
  show ds.foldr stepB (if j = d.1 ∨ j ∈ d.2 then (d.1, 0 + 1) else (j, 0)) = _
  split
  · exact back_shift
  · rfl
theorem mark_back {n : Nat} {ds : List (Int × List Int)} (h : ∀ d ∈ ds, gdB n d = true) {j : Int} (h0 : 0 ≤ j) (h1 : j < (n : Int)) : gx (markL n ds) j = backL ds j := by
  have key : ∀ k : Nat, k ≤ ds.length → ∀ j : Int, 0 ≤ j → j < (n : Int) → gx (markL n (ds.take k)) j = backL (ds.take k) j := fun k => by
    induction k with
    | zero =>
      intro _ j h0 h1
      show gx (mk0 n) j = (j, 0)
      unfold mk0
      rw [gx_map ⟨by rw [rgI_len]; omega, by rw [rgI_len]; omega⟩, gx_rg h0 h1]
      rw [Int.zero_add]
    | succ k ih =>
      intro hk j h0 h1
      have e : ds[k]? = some ds[k] := List.getElem?_eq_getElem (by omega)
      have hd := gdB_in (h _ (List.mem_of_getElem? e))
      rw [take_snoc' e, markL_snoc, back_snoc]
      unfold mkA
      rw [setI_get (fun i hi => by
        rw [markL_len]
        rcases List.mem_cons.mp hi with rfl | hi
        · exact hd.1
        · exact hd.2 i hi) h0 (by rw [markL_len]; exact h1), ih (by omega) _ hd.1.1 hd.1.2]
      by_cases hj : j = ds[k].1 ∨ j ∈ ds[k].2
      · rw [if_pos hj, if_pos (List.mem_cons.mpr hj)]
      · rw [if_neg hj, if_neg (fun q => hj (List.mem_cons.mp q)), ih (by omega) _ h0 h1]
  have := key ds.length (Nat.le_refl _) j h0 h1
  rwa [List.take_length] at this
theorem back_in {n : Nat} {ds : List (Int × List Int)} (h : ∀ d ∈ ds, gdB n d = true) {j : Int} (h0 : 0 ≤ j) (h1 : j < (n : Int)) : 0 ≤ (backL ds j).1 ∧ (backL ds j).1 < (n : Int) := by
  unfold backL
  induction ds with
  | nil => exact ⟨h0, h1⟩
  | cons d ds ih =>
    have ih := ih fun d hd => h d (List.mem_cons_of_mem _ hd)
    have hd := (gdB_in (h d List.mem_cons_self)).1
    rw [List.foldr_cons]
    generalize ds.foldr stepB (j, 0) = p at *
    unfold stepB
    split
    · exact hd
    · exact ih
theorem back_nn {ds : List (Int × List Int)} {j : Int} : 0 ≤ (backL ds j).2 ∧ (backL ds j).2 ≤ (ds.length : Int) := by
  unfold backL
  induction ds with
  | nil => exact ⟨Int.le_refl _, Int.le_refl _⟩
  | cons d ds ih =>
    rw [List.foldr_cons, List.length_cons]
    generalize ds.foldr stepB (j, 0) = p at *
    unfold stepB
    split
    · show 0 ≤ p.2 + 1 ∧ p.2 + 1 ≤ _
      omega
    · omega
theorem mark_all {n : Nat} {ds : List (Int × List Int)} (h : ∀ d ∈ ds, gdB n d = true) : markL n ds = (rgI 0 n).map (backL ds) := by
  have e := rgI_gx (ls := markL n ds)
  rw [markL_len] at e
  rw [← e]
  refine List.map_congr_left fun j hj => ?_
  have hj := rgI_mem.mp hj
  exact mark_back h (by omega) (by omega)
/-- how many sheets go back to each -/
def shL (n : Nat) (ms : List (Int × Int)) : List Int := ms.foldl (fun s p => s.set p.1.toNat (gx s p.1 + 1)) (List.replicate n 0)
theorem shL_len {n : Nat} {ms : List (Int × Int)} : (shL n ms).length = n := by
  unfold shL
  have key : ∀ s : List Int, (ms.foldl (fun s p => s.set p.1.toNat (gx s p.1 + 1)) s).length = s.length := by
    induction ms with
    | nil => intro s; rfl
    | cons p ms ih => intro s; rw [List.foldl_cons, ih, List.length_set]
  rw [key, List.length_replicate]
theorem shL_snoc {n : Nat} {ms : List (Int × Int)} {p : Int × Int} : shL n (ms ++ [p]) = (shL n ms).set p.1.toNat (gx (shL n ms) p.1 + 1) := by unfold shL; rw [List.foldl_append]; rfl
end Pf
namespace Pf
open PySem PySem.Spec PyProof.Rows L2
theorem asc_pw {ts : List Int} (h : ts.Pairwise (· < ·)) : ascB ts = true := ascB_iff.mpr fun j hj => by
  rw [gx_get (by omega), show ((j : Int) + 1) = ((j + 1 : Nat) : Int) by omega, gx_get hj]
  exact List.pairwise_iff_getElem.mp h j (j + 1) (by omega) hj (by omega)
theorem gd_of {n : Nat} {s : Int} {ts : List Int} (hs : 0 ≤ s ∧ s < (n : Int)) (h0 : 0 < ts.length) (hp : ts.Pairwise (· < ·)) (h : ∀ i ∈ ts, (0 ≤ i ∧ i < (n : Int)) ∧ i ≠ s) : gdB n (s, ts) = true :=
  gdB_iff.mpr ⟨fun hm => (h _ hm).2 rfl, wfB_iff.mpr ⟨h0, asc_pw hp, fun i hi => by
    rcases List.mem_cons.mp hi with rfl | hi
    · exact hs
    · exact (h i hi).1⟩⟩
theorem gd_no {n : Nat} {s : Int} {ts : List Int} (h : s ∈ ts ∨ ¬ (0 ≤ s ∧ s < (n : Int)) ∨ ts = [] ∨ ascB ts = false ∨ ∃ i ∈ ts, ¬ (0 ≤ i ∧ i < (n : Int))) : gdB n (s, ts) = false := by
  cases e : gdB n (s, ts) with
  | false => rfl
  | true =>
    exfalso
    obtain ⟨h1, h2⟩ := gdB_iff.mp e
    obtain ⟨h3, h4, h5⟩ := wfB_iff.mp h2
    rcases h with h | h | rfl | h | ⟨i, hi, h⟩
    · exact h1 h
    · exact h (h5 s List.mem_cons_self)
    · exact absurd h3 (Nat.lt_irrefl 0)
    · rw [h] at h4; cases h4
    · exact h (h5 i (List.mem_cons_of_mem _ hi))
end Pf
namespace Pf
open PySem PySem.Spec PyProof.Rows L2
theorem bad_ins {n : Nat} {xs ys : List (Int × List Int)} {x : Int × List Int} (h : ∀ d ∈ xs, gdB n d = true) (hx : gdB n x = false) : badAt n (xs ++ [x] ++ ys) xs.length := by
  rw [List.append_assoc]
  refine ⟨⟨x, by rw [List.getElem?_append_right (Nat.le_refl _), Nat.sub_self]; rfl, hx⟩, fun j d hj e => ?_⟩
  rw [List.getElem?_append_left hj] at e
  exact h d (List.mem_of_getElem? e)
theorem bad_keep {n k l : Nat} {c : List (Int × List Int)} {y : Int × List Int} (h : badAt n c k) (hl : k < l) : badAt n (c.take l ++ [y] ++ c.drop l) k := by
  obtain ⟨⟨d, hd, hb⟩, h2⟩ := h
  have hk := (List.getElem?_eq_some_iff.mp hd).1
  have key : ∀ j : Nat, j ≤ k → (c.take l ++ [y] ++ c.drop l)[j]? = c[j]? := fun j hj => by
    rw [List.append_assoc, List.getElem?_append_left (by rw [List.length_take]; omega), List.getElem?_take_of_lt (by omega)]
  exact ⟨⟨d, by rw [key k (Nat.le_refl _)]; exact hd, hb⟩, fun j d hj e => h2 j d hj (by rw [← key j (by omega)]; exact e)⟩
theorem bad_uniq {n k j : Nat} {c : List (Int × List Int)} (h : badAt n c k) (h2 : badAt n c j) : j = k := by
  obtain ⟨⟨d, hd, hb⟩, h3⟩ := h
  obtain ⟨⟨e, he, hc⟩, h4⟩ := h2
  rcases Nat.lt_trichotomy j k with hl | hl | hl
  · have := h3 j e hl he; rw [this] at hc; cases hc
  · exact hl
  · have := h4 k d hl hd; rw [this] at hb; cases hb
theorem bad_not {n k : Nat} {c : List (Int × List Int)} (h : badAt n c k) (h2 : ∀ d ∈ c, gdB n d = true) : False := by
  obtain ⟨⟨d, hd, hb⟩, _⟩ := h
  have := h2 d (List.mem_of_getElem? hd)
  rw [this] at hb
  cases hb
end Pf

namespace Pf
open PySem PySem.Spec PyProof.Rows L2
/-! ### the ends of sheaves that are changed by one sheet -/
theorem lowI_hgt {ls : List Int} {h : Int} (h0 : 0 < ls.length) (hh : h ≤ maxI ls) : h - cntB ls h ≤ lowI ls := by
  have hm : maxI ls ∈ ls.filter fun l => decide (h ≤ l) := List.mem_filter.mpr ⟨maxI_mem h0, decide_eq_true hh⟩
  obtain ⟨h1, h2⟩ := List.mem_filter.mp (minI_mem (List.length_pos_of_mem hm))
  have h2 := of_decide_eq_true h2
  have e := cntB_same (ls := ls) h2 fun x hx hlt => by
    by_cases hq : h ≤ x
    · have := minI_le (l := ls.filter fun l => decide (h ≤ l)) (List.mem_filter.mpr ⟨hx, decide_eq_true hq⟩)
      omega
    · omega
  have := le_lowI h1
  omega
theorem lowI_over {ls : List Int} {x : Int} (h0 : 0 < ls.length) (h : maxI ls < x) : lowI ls ≤ lowI (ls ++ [x]) :=
  lowI_le' h0 fun l hl => by
    have h1 := le_lowI (ls := ls ++ [x]) (List.mem_append_left _ hl)
    have h2 := le_maxI hl
    rw [cntB_app, cntB_one, if_neg (by omega)] at h1
    omega
theorem lowI_under {ls : List Int} {x : Int} (h0 : 0 < ls.length) (h : x ≤ maxI ls) : lowI (ls ++ [x]) ≤ lowI ls :=
  lowI_le' (by rw [List.length_append]; omega) fun l hl => by
    rw [cntB_app, cntB_one]
    rcases List.mem_append.mp hl with hl | hl
    · have := le_lowI hl
      split <;> omega
    · have e := List.mem_singleton.mp hl
      rw [e, if_neg (by omega)]
      have := lowI_hgt h0 h
      omega
theorem maxI_cc {a b : Int} {r : List Int} (h : a ≤ b) : maxI (a :: r) ≤ maxI (b :: r) := by
  have hm := maxI_mem (l := a :: r) (by simp)
  rcases List.mem_cons.mp hm with e | hm
  · have := le_maxI (l := b :: r) List.mem_cons_self
    omega
  · exact le_maxI (List.mem_cons_of_mem _ hm)
theorem lowI_step {a : Int} {r : List Int} (s : Nat) : lowI (a :: r) ≤ lowI ((a + (s : Int)) :: r) ∧ lowI ((a + (s : Int)) :: r) ≤ lowI (a :: r) + (s : Int) := by
  have h0 : 0 < (a :: r).length := by simp
  have h1 : 0 < ((a + (s : Int)) :: r).length := by simp
  have hmx := maxI_cc (a := a) (b := a + (s : Int)) (r := r) (by omega)
  refine ⟨lowI_le' h0 fun l hl => ?_, lowI_le' h1 fun l hl => ?_⟩
  · have h2 := le_maxI hl
    have h3 := lowI_hgt h1 (h := l) (by omega)
    rw [cntB_cons] at h3 ⊢
    by_cases hq : a < l
    · rw [if_pos hq]
      split at h3 <;> omega
    · rw [if_neg hq]
      rw [if_neg (by omega)] at h3
      omega
  · have hx : l - (s : Int) ≤ maxI (a :: r) := by
      rcases List.mem_cons.mp hl with rfl | hl
      · have := le_maxI (l := a :: r) List.mem_cons_self
        omega
      · have := le_maxI (l := a :: r) (List.mem_cons_of_mem _ hl)
        omega
    have h3 := lowI_hgt h0 hx
    have h4 := cntB_mono (ls := r) (a := l - (s : Int)) (b := l) (by omega)
    rw [cntB_cons] at h3 ⊢
    by_cases hq : a + (s : Int) < l
    · rw [if_pos hq]
      rw [if_pos (by omega)] at h3
      omega
    · rw [if_neg hq]
      rw [if_neg (by omega)] at h3
      omega
theorem capS_cons {x e w : Int} {r : List Int} : capS (x :: r) e w = capI x e w + capS r e w := by
  unfold capS
  rw [List.map_cons, List.sum_cons]
theorem capS_over {ls : List Int} {e w : Int} (h : ∀ l ∈ ls, l < e) : capS ls e w = 0 := by
  induction ls with
  | nil => rfl
  | cons x ls ih =>
    rw [capS_cons, ih fun l hl => h l (List.mem_cons_of_mem _ hl)]
    unfold capI
    rw [if_pos (h x List.mem_cons_self)]
    rfl
theorem high_ge {ls : List Int} {e w : Int} (h0 : 0 < ls.length) (hw : 1 ≤ w) (h : (ls.length : Int) ≤ capS ls e w) : e ≤ highI ls w := by
  obtain ⟨h1, h2, h3⟩ := highI_is h0 hw
  by_cases hq : e ≤ highI ls w
  · exact hq
  by_cases hm : e ≤ maxI ls
  · have := h3 e (by omega) hm
    omega
  · have := capS_over (ls := ls) (e := e) (w := w) fun l hl => by have := le_maxI hl; omega
    omega
theorem high_reach {ls : List Int} {w : Int} (h0 : 0 < ls.length) (hw : 1 ≤ w) : (ls.length : Int) ≤ capS ls (highI ls w) w := (highI_is h0 hw).eq
theorem capI_sh {x e w s : Int} : capI (x + s) e w = capI x (e - s) w := by
  unfold capI
  by_cases h : x + s < e
  · rw [if_pos h, if_pos (by omega)]
  · rw [if_neg h, if_neg (by omega), show x + s - e = x - (e - s) by omega]
theorem high_step {a w : Int} {r : List Int} (hw : 1 ≤ w) (s : Nat) : highI (a :: r) w ≤ highI ((a + (s : Int)) :: r) w ∧ highI ((a + (s : Int)) :: r) w ≤ highI (a :: r) w + (s : Int) := by
  have h0 : 0 < (a :: r).length := by simp
  have h1 : 0 < ((a + (s : Int)) :: r).length := by simp
  have r0 := high_reach h0 hw
  have r1 := high_reach h1 hw
  rw [List.length_cons] at r0 r1
  refine ⟨high_ge h1 hw ?_, ?_⟩
  · have := capI_mono (e := highI (a :: r) w) hw (by omega : a ≤ a + (s : Int))
    rw [List.length_cons, capS_cons] at *
    omega
  · have : highI ((a + (s : Int)) :: r) w - (s : Int) ≤ highI (a :: r) w := high_ge h0 hw (by
      have key : ∀ l : List Int, capS l (highI ((a + (s : Int)) :: r) w) w ≤ capS l (highI ((a + (s : Int)) :: r) w - (s : Int)) w := fun l => by
        induction l with
        | nil => exact Int.le_refl _
        | cons x l ih =>
          rw [capS_cons, capS_cons, ← capI_sh]
          have := capI_mono (e := highI ((a + (s : Int)) :: r) w) hw (by omega : x ≤ x + (s : Int))
          omega
      have k := key r
      rw [capS_cons, capI_sh] at r1
      rw [List.length_cons, capS_cons]
      omega)
    omega
/-- one sheet taken out -/
theorem high_out {x w : Int} {r : List Int} (hw : 1 ≤ w) (h0 : 0 < r.length) (h : x ≤ highI (x :: r) w) : highI (x :: r) w ≤ highI r w := by
  refine high_ge h0 hw ?_
  have r0 := high_reach (ls := x :: r) (by simp) hw
  rw [List.length_cons, capS_cons] at r0
  have : capI x (highI (x :: r) w) w ≤ 1 := by
    unfold capI
    split
    · omega
    · rw [show (x - highI (x :: r) w).toNat = 0 by omega, Int.pow_zero]; omega
  omega
/-- the rows without the one at i -/
theorem out_zip {α : Type} [Inhabited α] {l : List α} {i : Nat} : ((l.zipIdx).filter fun p => decide (¬ (p.2 : Int) = (i : Int))).map Prod.fst = l.eraseIdx i := by
  have key : ∀ (l : List α) (k i : Nat), ((l.zipIdx k).filter fun p => decide (¬ (p.2 : Int) = ((k + i : Nat) : Int))).map Prod.fst = l.eraseIdx i := fun l => by
    induction l with
    | nil => intro k i; rfl
    | cons a l ih =>
      intro k i
      rw [List.zipIdx_cons]
      cases i with
      | zero =>
        rw [List.filter_cons_of_neg (by simp), List.eraseIdx_cons_zero, List.filter_eq_self.mpr fun p hp => ?_, List.zipIdx_map_fst]
        have := List.le_snd_of_mem_zipIdx hp
        exact decide_eq_true (by omega)
      | succ i =>
        rw [List.filter_cons_of_pos (p := fun p : α × Nat => decide (¬ (p.2 : Int) = ((k + (i + 1) : Nat) : Int))) (decide_eq_true (show ¬ ((k : Nat) : Int) = ((k + (i + 1) : Nat) : Int) by omega)), List.map_cons, List.eraseIdx_cons_succ]
        have := ih (k + 1) i
        rw [show k + 1 + i = k + (i + 1) by omega] at this
        rw [this]
  have := key l 0 i
  rwa [Nat.zero_add] at this
theorem out_rg {α : Type} [Inhabited α] {l : List α} {i : Nat} : ((rgI 0 l.length).filter fun k => decide (¬ k = (i : Int))).map (gx l) = l.eraseIdx i := by
  have h := range_zip (fun k => decide (¬ k = (i : Int))) (fun _ a => a) l 0
  simp only [Int.natCast_zero, Int.sub_zero] at h
  exact h.trans out_zip
theorem erase_perm {l : List Int} {i : Nat} {x : Int} (h : l[i]? = some x) : l.Perm (x :: l.eraseIdx i) := by
  obtain ⟨hi, e⟩ := List.getElem?_eq_some_iff.mp h
  have := set_perm1 hi x
  rwa [← e, List.set_getElem_self, e] at this
theorem eraseIdx_map {α β : Type} {f : α → β} {l : List α} {i : Nat} : (l.eraseIdx i).map f = (l.map f).eraseIdx i := by
  induction l generalizing i with
  | nil => rfl
  | cons a l ih =>
    cases i with
    | zero => rfl
    | succ i => rw [List.eraseIdx_cons_succ, List.map_cons, ih, List.map_cons, List.eraseIdx_cons_succ]
end Pf
namespace Pf
open PySem PySem.Spec PyProof.Rows L2
theorem cutS_hi {z : Str} {j : Int} (h : 0 ≤ j) : (cutS z none (some j)).cps.toList = z.cps.toList.take j.toNat := by
  have e : (cutS z none (some j)).cps.toList = cutL z.cps.toList none (some j) := by unfold cutS cutL; rfl
  rw [e, cutL_hi h]
theorem app_mem {a b : Str} {c : Nat} : c ∈ (a ++ b).cps.toList ↔ c ∈ a.cps.toList ∨ c ∈ b.cps.toList := by
  show c ∈ (a.cps ++ b.cps).toList ↔ _
  rw [Array.toList_append, List.mem_append]
theorem len_list {z : Str} : z.cps.toList.length = z.length := rfl
end Pf

namespace Pf
open PySem PySem.Spec PyProof.Rows L2
/-! ### dicts whose keys are tuples -/
def valT (ks : List (List Key)) (xs : List P) (k : List Key) : Option P := match ks, xs with
  | q :: ks, x :: xs => if q = k then some x else valT ks xs k
  | _, _ => none
def putTP (ks : List (List Key)) (xs : List P) (k : List Key) (x : P) : List (List Key) × List P :=
  if (ks.any fun q => decide (q = k)) = true then (ks, List.zipWith (fun q y => if q = k then x else y) ks xs) else (ks ++ [k], xs ++ [x])
def keyL : List P → Option (List Key)
  | [] => some []
  | x :: xs => match keyP x, keyL xs with
    | some k, some r => some (k :: r)
    | _, _ => none
section
variable {K : PySem.W.Frag} {W : WX} {ro : Bool}
theorem keyL_of {F : Hp} : ∀ {vs : List V} {xs : List P} {k : List Key}, RL K F vs xs → keyL xs = some k → vs = k.map kV
  | _, _, _, .nil, e => by cases e; rfl
  | _, _, k, .cons (x := x) (xs := xs) h r, e => by
    unfold keyL at e
    cases e1 : keyP x with
    | none => rw [e1] at e; cases e
    | some a =>
      cases e2 : keyL xs with
      | none => rw [e1, e2] at e; cases e
      | some b =>
        rw [e1, e2] at e
        cases e
        rw [keyP_of (H := F) (.inl h) e1, keyL_of r e2]
        rfl
theorem valT_zip {F : Hp} {k : List Key} : ∀ {ks : List (List Key)} {vs : List V} {xs : List P}, ks.length = vs.length → RL K F vs xs →
    (valT ks xs k = none → valV (ks.zip vs) k = none) ∧ ∀ x, valT ks xs k = some x → ∃ v, valV (ks.zip vs) k = some v ∧ R K F v x
  | [], vs, xs, l, r => by
    have e : vs = [] := List.eq_nil_of_length_eq_zero l.symm
    subst e
    cases r
    exact ⟨fun _ => rfl, fun x h => by cases h⟩
  | q :: ks, [], xs, l, r => by cases l
  | q :: ks, v :: vs, _, l, .cons (x := x) (xs := xs) h r => by
    have ih := valT_zip (k := k) (ks := ks) (by simpa using l) r
    by_cases hq : q = k
    · subst hq
      refine ⟨fun z => ?_, fun y z => ?_⟩
      · unfold valT at z; rw [if_pos rfl] at z; cases z
      · unfold valT at z; rw [if_pos rfl] at z; cases z
        exact ⟨v, by simp [valV], h⟩
    · refine ⟨fun z => ?_, fun y z => ?_⟩
      · unfold valT at z; rw [if_neg hq] at z
        have := ih.1 z
        unfold valV at this ⊢
        rw [List.zip_cons_cons, List.find?_cons_of_neg (by simpa using hq)]
        exact this
      · unfold valT at z; rw [if_neg hq] at z
        obtain ⟨w, e, rr⟩ := ih.2 y z
        refine ⟨w, ?_, rr⟩
        unfold valV at e ⊢
        rw [List.zip_cons_cons, List.find?_cons_of_neg (by simpa using hq)]
        exact e
theorem zipT_any {k : List Key} : ∀ {ks : List (List Key)} {vs : List V}, ks.length = vs.length → ((ks.zip vs).any fun kv => decide (kv.1 = k)) = (ks.any fun q => decide (q = k))
  | [], [], _ => rfl
  | q :: ks, v :: vs, l => by rw [List.zip_cons_cons, List.any_cons, List.any_cons, zipT_any (by simpa using l)]
theorem zipT_put {k : List Key} {w : V} : ∀ {ks : List (List Key)} {vs : List V}, ks.length = vs.length → (ks.zip vs).map (fun kv => if kv.1 = k then (kv.1, w) else kv) = ks.zip (List.zipWith (fun q y => if q = k then w else y) ks vs)
  | [], [], _ => rfl
  | q :: ks, v :: vs, l => by
    rw [List.zip_cons_cons, List.map_cons, List.zipWith_cons_cons, List.zip_cons_cons, zipT_put (by simpa using l)]
    by_cases h : q = k
    · simp [h]
    · simp [h]
theorem RL.putT {F : Hp} {k : List Key} {w : V} {x : P} (hr : R K F w x) : ∀ {ks : List (List Key)} {vs : List V} {xs : List P}, ks.length = vs.length → RL K F vs xs → RL K F (List.zipWith (fun q y => if q = k then w else y) ks vs) (List.zipWith (fun q y => if q = k then x else y) ks xs)
  | [], _, _, _, _ => by simp; exact .nil
  | q :: ks, v :: vs, _, l, .cons h r => by
    rw [List.zipWith_cons_cons, List.zipWith_cons_cons]
    refine .cons ?_ (RL.putT hr (by simpa using l) r)
    by_cases hq : q = k
    · rw [if_pos hq, if_pos hq]; exact hr
    · rw [if_neg hq, if_neg hq]; exact h
theorem putT_cell {F : Hp} {a : Addr} {ks : List (List Key)} {vs : List V} {xs : List P} {k : List Key} {w : V} {x : P} (l : ks.length = vs.length) (r : RL K F vs xs) (hr : R K F w x) :
    Cell K F a (.dT (putK (ks.zip vs) k w)) (.dtt (putTP ks xs k x).1 (putTP ks xs k x).2) := by
  unfold putK putTP
  rw [zipT_any l]
  by_cases h : (ks.any fun q => decide (q = k)) = true
  · rw [if_pos h, if_pos h, zipT_put l]
    exact ⟨_, rfl, by rw [List.length_zipWith, ← l, Nat.min_self], RL.putT hr l r⟩
  · rw [if_neg h, if_neg h]
    have e : ks.zip vs ++ [(k, w)] = (ks ++ [k]).zip (vs ++ [w]) := by rw [List.zip_append l]; rfl
    rw [e]
    exact ⟨_, rfl, by rw [List.length_append, List.length_append, l]; rfl, r.app (.cons hr .nil)⟩
def onDtt (x : P) (Q : List (List Key) → List P → Prop) : Prop := match x with
  | .dtt ks xs => Q ks xs
  | _ => False
theorem onDtt_of {F H : Hp} {v : V} {x : P} {Q : List (List Key) → List P → Prop} (s : Same F H) (r : Tp K F H v x) (h : onDtt x Q) : ∃ ks xs a vs, x = .dtt ks xs ∧ v = .ref a ∧ Rd H a (.dT (ks.zip vs)) ∧ ks.length = vs.length ∧ RL K F vs xs ∧ Q ks xs := by
  cases x with
  | dtt ks xs =>
    rcases r with r | ⟨a, o, rfl, ha, vs, e, l, r⟩
    · cases r with | dtt hd l r => exact ⟨ks, xs, _, _, rfl, rfl, Rd.same s hd, l, r, h⟩
    · subst e; exact ⟨ks, xs, a, vs, rfl, rfl, .inl ha, l, r, h⟩
  | _ => exact h.elim
def onKeyT (y : P) (Q : List Key → Prop) : Prop := match y with
  | .tup xs => ∃ k, keyL xs = some k ∧ Q k
  | _ => False
theorem onKeyT_of {F H : Hp} {v : V} {y : P} {Q : List Key → Prop} (s : Same F H) (r : Tp K F H v y) (h : onKeyT y Q) : ∃ k b, v = .ref b ∧ H b = some (.tup (k.map kV)) ∧ Q k := by
  cases y with
  | tup xs =>
    obtain ⟨k, e, h⟩ := h
    obtain ⟨_, b, ws, e1, rfl, hb, rl, _⟩ := onTup_of (Q := fun _ => True) s r trivial
    cases e1
    have := keyL_of rl e
    subst this
    exact ⟨k, b, rfl, s _ _ hb, h⟩
  | _ => exact h.elim
def wDGetT (d y : WE) : WE := fun env Q X => d env (fun x => y env (fun z => onDtt x fun ks xs => onKeyT z fun k => ∃ u, valT ks xs k = some u ∧ Q u) X) X
theorem se_dgetT {td ty : TE} {d y : WE} (hd : SE K W .C td d) (hy : SE K W .C ty y) : SE K W .V (tDGet td ty) (wDGetT d y) := fun F0 H0 σ F H env Qp Xp Q g hw hx q =>
  hd F0 H0 σ F H env _ Xp _ g hw hx fun F1 H1 v x m1 r1 h1 => hy F0 H0 σ F1 H1 env _ Xp _ (g.mv m1) h1 (hx.mv m1) fun F2 H2 w z m2 r2 h2 => by
    obtain ⟨ks, xs, a, vs, rfl, rfl, ha, l, r, h2⟩ := onDtt_of m2.fh (Tp.mv m2 r1) h2
    obtain ⟨k, b, rfl, hb, u, hu, h2⟩ := onKeyT_of m2.fh r2 h2
    obtain ⟨w, e, rr⟩ := (valT_zip (k := k) l r).2 u hu
    exact ⟨a, w, rfl, .inr ⟨_, k, b, ha, rfl, hb, e.symm⟩, q F2 H2 w u (m1.trans m2) rr h2⟩
def wDInT (n : Bool) (y d : WE) : WE := fun env Q X => y env (fun z => d env (fun x => onDtt x fun ks xs => onKeyT z fun k => Q (.bl (if n = true then !(valT ks xs k).isSome else (valT ks xs k).isSome))) X) X
theorem dinT_some {F : Hp} {ks : List (List Key)} {vs : List V} {xs : List P} {k : List Key} (l : ks.length = vs.length) (r : RL K F vs xs) : (valV (ks.zip vs) k).isSome = (valT ks xs k).isSome := by
  cases e : valT ks xs k with
  | none => rw [(valT_zip l r).1 e]; rfl
  | some x => obtain ⟨w, e, _⟩ := (valT_zip l r).2 x e; rw [e]; rfl
theorem se_dinT {td ty : TE} {d y : WE} (hy : SE K W .C ty y) (hd : SE K W .C td d) : SE K W .V (tDIn ty td) (wDInT false y d) := fun F0 H0 σ F H env Qp Xp Q g hw hx q =>
  hy F0 H0 σ F H env _ Xp _ g hw hx fun F1 H1 v x m1 r1 h1 => hd F0 H0 σ F1 H1 env _ Xp _ (g.mv m1) h1 (hx.mv m1) fun F2 H2 w z m2 r2 h2 => by
    obtain ⟨ks, xs, a, vs, rfl, rfl, ha, l, r, h2⟩ := onDtt_of m2.fh r2 h2
    obtain ⟨k, b, rfl, hb, h2⟩ := onKeyT_of m2.fh (Tp.mv m2 r1) h2
    refine ⟨a, _, rfl, .inr ⟨_, k, b, ha, rfl, hb, rfl⟩, q F2 H2 _ _ (m1.trans m2) (R.bl _) ?_⟩
    rw [dinT_some l r]; exact h2
theorem se_dninT {td ty : TE} {d y : WE} (hy : SE K W .C ty y) (hd : SE K W .C td d) : SE K W .V (tDNotIn ty td) (wDInT true y d) := fun F0 H0 σ F H env Qp Xp Q g hw hx q =>
  hy F0 H0 σ F H env _ Xp _ g hw hx fun F1 H1 v x m1 r1 h1 => hd F0 H0 σ F1 H1 env _ Xp _ (g.mv m1) h1 (hx.mv m1) fun F2 H2 w z m2 r2 h2 => by
    obtain ⟨ks, xs, a, vs, rfl, rfl, ha, l, r, h2⟩ := onDtt_of m2.fh r2 h2
    obtain ⟨k, b, rfl, hb, h2⟩ := onKeyT_of m2.fh (Tp.mv m2 r1) h2
    refine ⟨a, _, rfl, .inr ⟨_, k, b, ha, rfl, hb, rfl⟩, q F2 H2 _ _ (m1.trans m2) (R.bl _) ?_⟩
    rw [dinT_some l r]; exact h2
def ownDT (env : PEnv) (i : Nat) (Q : List (List Key) → List P → Prop) : Prop := match env[i]? with
  | some (some (.o, .dtt ks xs)) => Q ks xs
  | _ => False
theorem ownDT_of {F0 H0 F H : Hp} {σ : L2.St} {env : PEnv} {i : Nat} {Q : List (List Key) → List P → Prop} (g : Good K F0 H0 σ F H env) (h : ownDT env i Q) : ∃ ks xs a vs, env[i]? = some (some (.o, .dtt ks xs)) ∧ σ[i]? = some (some (.ref a)) ∧ H a = some (.dT (ks.zip vs)) ∧ ks.length = vs.length ∧ RL K F vs xs ∧ Q ks xs := by
  unfold ownDT at h
  split at h
  · rename_i ks xs e
    obtain ⟨v, hs, sl⟩ := g.slot i _ _ e
    rcases sl with ⟨a, o, rfl, ha, vs, rfl, l, r⟩ | sl
    · exact ⟨ks, xs, a, vs, e, hs, ha, l, r, h⟩
    · cases sl.1
  · exact h.elim
def wDPutT (i : Nat) (y w : WE) : WS := fun D env => ownDT env i fun ks xs => w env (fun x => y env (fun z => onKeyT z fun k => ks.length < sizeLine ∧ D.nx (env.set i (some (.o, .dtt (putTP ks xs k x).1 (putTP ks xs k x).2)))) (D.ex env)) (D.ex env)
theorem ss_dputT {i : Nat} {ty tv : TE} {y w : WE} (hv : SE K W .V tv w) (hy : SE K W .C ty y) : SS K W ro (sDPut (tVar i) ty tv) (wDPutT i y w) := fun F0 H0 σ F H env Dp D g hw d x => by
  obtain ⟨ks, xs, a, vs, e, hs, ha, l, r, hw⟩ := ownDT_of g hw
  refine hv F0 H0 σ F H env _ _ _ g hw (x.x g) fun F1 H1 v z m rz q => ⟨.ref a, hs, ?_⟩
  have g1 := g.mv m
  refine hy F0 H0 σ F1 H1 env _ _ _ g1 q (x.x g1) fun F2 H2 u z2 m2 rz2 q2 => ?_
  obtain ⟨k, b, rfl, hb, q2, q3⟩ := onKeyT_of m2.fh rz2 q2
  have hl : (ks.zip vs).length < sizeLine := by rw [List.length_zip, ← l, Nat.min_self]; exact q2
  have r2 := (r.mono m.e.1).mono m2.e.1
  exact ⟨a, _, rfl, DPut.t (m2.s _ _ (m.s _ _ ha)) hb hl, d.1 σ F2 _ _ ((g1.mv m2).put e hs (putT_cell l r2 (R.mv m2 rz))) q3⟩
def wDNewT : WE := fun _ Q _ => Q (.dtt [] [])
theorem se_dnewT : SE K W .O tDNewT wDNewT := fun F0 H0 σ F H env Qp Xp Q g hw hx q p np =>
  q F (upd H p (.dT [])) (.ref p) (.dtt [] []) (mv_new g.fh np) (.inl ⟨p, _, rfl, np, same_free g.fh np, upd_same, [], rfl, rfl, .nil⟩) hw
/-! walking -/
theorem ap_dgetT {d y : WE} {env : PEnv} {Q : P → Prop} {X : XP} : (wDGetT d y env Q X) = (d env (fun x => y env (fun z => onDtt x fun ks xs => onKeyT z fun k => ∃ u, valT ks xs k = some u ∧ Q u) X) X) := rfl
theorem ap_dinT {d y : WE} {env : PEnv} {Q : P → Prop} {X : XP} : (wDInT false y d env Q X) = (y env (fun z => d env (fun x => onDtt x fun ks xs => onKeyT z fun k => Q (.bl (valT ks xs k).isSome)) X) X) := rfl
theorem ap_dninT {d y : WE} {env : PEnv} {Q : P → Prop} {X : XP} : (wDInT true y d env Q X) = (y env (fun z => d env (fun x => onDtt x fun ks xs => onKeyT z fun k => Q (.bl !(valT ks xs k).isSome)) X) X) := rfl
theorem ap_onDtt {ks : List (List Key)} {xs : List P} {Q : List (List Key) → List P → Prop} : (onDtt (.dtt ks xs) Q) = Q ks xs := rfl
theorem ap_dputT {i : Nat} {y w : WE} {D : PEnds} {env : PEnv} : (wDPutT i y w D env) = (ownDT env i fun ks xs => w env (fun x => y env (fun z => onKeyT z fun k => ks.length < sizeLine ∧ D.nx (env.set i (some (.o, .dtt (putTP ks xs k x).1 (putTP ks xs k x).2)))) (D.ex env)) (D.ex env)) := rfl
theorem ap_ownDT {env : PEnv} {i : Nat} {Q : List (List Key) → List P → Prop} : (ownDT env i Q) = (match env[i]? with | some (some (.o, .dtt ks xs)) => Q ks xs | _ => False) := rfl
theorem ap_dnewT {env : PEnv} {Q : P → Prop} {X : XP} : (wDNewT env Q X) = Q (.dtt [] []) := rfl
/-- the key of a row -/
abbrev kR (r : Int × Str) : List Key := [Sum.inl r.1, Sum.inr r.2]
theorem aq_keyR {a : Int} {z : Str} {Q : List Key → Prop} : (onKeyT (.tup [.int a, .str z]) Q) = Q (kR (a, z)) :=
  propext ⟨fun ⟨k, e, h⟩ => by cases e; exact h, fun h => ⟨_, rfl, h⟩⟩
end
end Pf
namespace Pf
open PySem PySem.Spec PyProof.Rows L2
theorem kR_inj {q r : Int × Str} (h : kR q = kR r) : q = r := by
  obtain ⟨a, b⟩ := q
  obtain ⟨c, d⟩ := r
  simp only [kR, List.cons.injEq, Sum.inl.injEq, Sum.inr.injEq, and_true] at h
  rw [h.1, h.2]
theorem valT_rows {r : Int × Str} : ∀ (l : List (Int × Str)) (lo : Int), valT (l.map kR) ((rgI lo l.length).map P.int) (kR r) = if r ∈ l then some (.int (lo + (l.idxOf r : Nat))) else none
  | [], lo => rfl
  | q :: l, lo => by
    have ih := valT_rows (r := r) l (lo + 1)
    rw [List.map_cons, List.length_cons, rgI_succ, List.map_cons]
    unfold valT
    by_cases h : q = r
    · subst h
      rw [if_pos rfl, if_pos List.mem_cons_self, List.idxOf_cons_self]
      simp
    · rw [if_neg fun e => h (kR_inj e), ih]
      by_cases hm : r ∈ l
      · rw [if_pos hm, if_pos (List.mem_cons_of_mem _ hm), show (q :: l).idxOf r = l.idxOf r + 1 from by rw [List.idxOf_cons, beq_eq_false_iff_ne.mpr h]; rfl]
        congr 2
        omega
      · rw [if_neg hm, if_neg fun e => (List.mem_cons.mp e).elim (fun e => h e.symm) hm]
theorem rgI_app {n : Nat} : rgI 0 (n + 1) = rgI 0 n ++ [(n : Int)] := by
  unfold rgI
  rw [List.range_succ, List.map_append, List.map_singleton, Int.zero_add]
theorem putT_rows {r : Int × Str} {l : List (Int × Str)} (h : r ∉ l) : putTP (l.map kR) ((rgI 0 l.length).map P.int) (kR r) (.int (l.length : Int)) = ((l ++ [r]).map kR, (rgI 0 (l.length + 1)).map P.int) := by
  unfold putTP
  rw [if_neg, rgI_app, List.map_append, List.map_append]
  · rfl
  · intro e
    obtain ⟨k, hk, e⟩ := List.any_eq_true.mp e
    obtain ⟨q, hq, rfl⟩ := List.mem_map.mp hk
    have := kR_inj (of_decide_eq_true e)
    rw [this] at hq
    exact h hq
end Pf
namespace Pf
open PySem PySem.Spec PyProof.Rows L2
/-! ### rows in a list of rows -/
theorem units65 {k : Nat} {A : Around} (r : Room k A) : A.units + 65 < cLine := by have := r.un; omega
section
variable {K : PySem.W.Frag}
def fInD (n : Bool) : PF2 := fun x y Q => shP x = true ∧ shP y = true ∧ ∃ xs, y = .lst xs ∧ Q (.bl (if n then !(toDs xs).any (fun z => PyData.eqv z (toD x)) else (toDs xs).any fun z => PyData.eqv z (toD x)))
theorem os_inD : OpS K .V (rInD K) (fInD false) := fun F H v w x y Qp Q s r r' ⟨h1, h2, xs, e, h⟩ q => by
  subst e
  obtain ⟨a, b⟩ := shP_of s r h1
  obtain ⟨a', b'⟩ := shP_of s r' h2
  rw [toD] at a' b'
  exact ⟨_, _, a, a', b, b', q F H _ _ (.refl s) (R.bl _) h⟩
theorem os_ninD : OpS K .V (rNotInD K) (fInD true) := fun F H v w x y Qp Q s r r' ⟨h1, h2, xs, e, h⟩ q => by
  subst e
  obtain ⟨a, b⟩ := shP_of s r h1
  obtain ⟨a', b'⟩ := shP_of s r' h2
  rw [toD] at a' b'
  exact ⟨_, _, a, a', b, b', q F H _ _ (.refl s) (R.bl _) h⟩
theorem shP_row (r : Int × Str) : shP (rowP r) = true := by
  obtain ⟨a, b⟩ := r
  unfold shP
  rw [Bool.and_eq_true]
  refine ⟨rfl, decide_eq_true ?_⟩
  simp [rowP, toD, toDs, PyData.depth, PyData.depthAll]
theorem any_row (r : Int × Str) : ∀ l : List (Int × Str), ((toDs (l.map rowP)).any fun z => PyData.eqv z (toD (rowP r))) = decide (r ∈ l)
  | [] => rfl
  | q :: l => by
    rw [List.map_cons, toDs, List.any_cons, any_row r l, eqv_row, Bool.eq_iff_iff]
    simp only [Bool.or_eq_true, decide_eq_true_eq, List.mem_cons]
    exact ⟨fun h => h.imp Eq.symm id, fun h => h.imp Eq.symm id⟩
theorem aq_inD {xs : List P} {l : List (Int × Str)} {x : P} {r : Int × Str} [h : ML xs (Int × Str) rowP l] [v : VE rowP x r] {Q : P → Prop} : (fInD false x (.lst xs) Q) = Q (.bl (decide (r ∈ l))) := by
  rw [v.eq, h.eq]
  unfold fInD
  refine propext ⟨fun ⟨_, _, ys, e, q⟩ => ?_, fun q => ⟨shP_row r, sh_rl, _, rfl, ?_⟩⟩
  · cases e
    rwa [if_neg (by decide), any_row] at q
  · rwa [if_neg (by decide), any_row]
theorem aq_ninD {xs : List P} {l : List (Int × Str)} {x : P} {r : Int × Str} [h : ML xs (Int × Str) rowP l] [v : VE rowP x r] {Q : P → Prop} : (fInD true x (.lst xs) Q) = Q (.bl !decide (r ∈ l)) := by
  rw [v.eq, h.eq]
  unfold fInD
  refine propext ⟨fun ⟨_, _, ys, e, q⟩ => ?_, fun q => ⟨shP_row r, sh_rl, _, rfl, ?_⟩⟩
  · cases e
    rwa [if_pos rfl, any_row] at q
  · rwa [if_pos rfl, any_row]
end
end Pf

namespace Pf
open PySem PySem.Spec PyProof.Rows L2
/-! ### ranges in names -/
section
variable {X : Cx}
theorem cr_range1 : CallR X (.type "range") (fun vs H Q => ∃ j, vs = [V.int j] ∧ ∀ p, H p = none → Q (.ref p) (upd H p (.rng 0 j))) := by
  intro pins s σ H vs us Q I r h
  obtain ⟨j, rfl, q⟩ := h
  cases r with
  | cons rj rr =>
    cases rr
    obtain ⟨u, rfl⟩ := rj
    refine call_range_1 ⟨.ref s.heap.objs.size, upd H s.heap.objs.size (.rng 0 j), I.laid (t' := s.toks + 2) (fun b o e => Heap.get?_push_of_some _ e) (Nat.le_refl _) ?_, rfl, q _ (I.hok.fresh (Nat.le_refl _))⟩
    exact ⟨_, _, _, Heap.get?_push_size _ rfl⟩
def iRngV (te : TE) : TI := fun σ H R => te σ H fun x H1 => ∃ a lo hi, x = .ref a ∧ H1 a = some (.rng lo hi) ∧ (-(2 ^ 62) ≤ lo ∧ lo < 2 ^ 62 ∧ -(2 ^ 62) ≤ hi ∧ hi < 2 ^ 62) ∧ R (Itr lo (hi - lo).toNat) H1
theorem pi_rngV {tg e : Expr} {te : TE} (he : PE X e te) : PI X tg e (iRngV te) := by
  refine ⟨fun pins s σ H R I h => ?_⟩
  refine thn (he.run pins s σ H _ I h) fun v s1 ⟨x, H1, I1, r1, a, lo, hi, ex, ha, ⟨h1, h2, h3, h4⟩, q⟩ => ?_
  subst ex
  cases r1
  obtain ⟨t, u, w, hg⟩ := (show ObjOk X.prog X.w H1 s1.heap a (.rng lo hi) from I1.hok a _ ha)
  refine wpAny_pyIter_range (r := a) (a := lo) (b := hi) (c := 1) (t := t) (u := u) (v := w) hg (small_one h1 h2 h3 h4) ?_
  refine ⟨s1.heap.objs.size, [s1.heap.objs.size], _, _, H1, rfl, I1.kept (t' := s1.toks) fun b o e => Heap.get?_push_of_some _ e, turn_range _ lo (hi - lo).toNat, ?_, fun b hb => ?_, q⟩
  · have e1 : lo + ((0 : Nat) : Int) * 1 = lo := by simp
    have e2 : (((hi - lo).toNat : Nat) : Int) - ((0 : Nat) : Int) = Builtin.Range.rangeSize lo hi 1 := by rw [rangeSize_one]; split <;> omega
    show IsRangeIter _ _ (lo + ((0 : Nat) : Int) * 1) ((((hi - lo).toNat : Nat) : Int) - ((0 : Nat) : Int)) 1
    rw [e1, e2]
    exact Heap.get?_push_size _ rfl
  · have e : b = s1.heap.objs.size := by simpa using hb
    subst e
    exact I1.fpOk (Nat.le_refl _) (I1.hok.fresh (Nat.le_refl _))
end
section
variable {K : PySem.W.Frag} {W : WX}
def fRng1 : PFn := fun xs Q => ∃ j : Int, xs = [.int j] ∧ Q (.rng 0 j)
theorem cs_rng1 {m : Mo} : CallS K .V [m] (fun vs H Q => ∃ j, vs = [V.int j] ∧ ∀ p, H p = none → Q (.ref p) (upd H p (.rng 0 j))) fRng1 := fun F H vs xs Qp Q s r ⟨j, e, h⟩ q => by
  subst e
  obtain ⟨v, x, rfl, ex, t⟩ := AL.one r
  cases ex
  obtain rfl := t.int
  refine ⟨j, rfl, fun p np => ?_⟩
  have m2 := mv_frz (o := .rng 0 j) s np
  exact q _ _ _ _ m2 (R.rng upd_same) h
def wIRv (i : Nat) : WI := fun env Q _ => match env[i]? with
  | some (some (.v, .rng lo hi)) => (-(2 ^ 62) ≤ lo ∧ lo < 2 ^ 62 ∧ -(2 ^ 62) ≤ hi ∧ hi < 2 ^ 62) ∧ Q (rng lo (hi - lo).toNat)
  | _ => False
theorem si_rngV (i : Nat) : SimI K W (iRngV (tVar i)) (wIRv i) := fun F0 H0 σ F H env Qp Xp Rr g hw hx q => by
  unfold wIRv at hw
  split at hw
  · rename_i lo hi e
    obtain ⟨v, hs, s⟩ := g.slot i _ _ e
    cases s with
    | rng hf => exact ⟨_, hs, _, lo, hi, rfl, g.fh _ _ hf, hw.1, q F H _ _ g.mvr (wkd_rng fun _ _ o => o.2.1) hw.2⟩
  · exact hw.elim
theorem ap_wIRv {i : Nat} {env : PEnv} {Q : List P → Prop} {X : XP} : (wIRv i env Q X) = (match env[i]? with | some (some (.v, .rng lo hi)) => (-(2 ^ 62) ≤ lo ∧ lo < 2 ^ 62 ∧ -(2 ^ 62) ≤ hi ∧ hi < 2 ^ 62) ∧ Q (rng lo (hi - lo).toNat) | _ => False) := rfl
theorem ap_fRng1 {j : Int} {Q : P → Prop} : (fRng1 [.int j] Q) = Q (.rng 0 j) := propext ⟨fun ⟨_, e, q⟩ => by cases e; exact q, fun q => ⟨_, rfl, q⟩⟩
/-! ### is, is not of bools -/
def fIsB (n : Bool) : PF2 := fun x y Q => ∃ a b : Bool, x = .bl a ∧ y = .bl b ∧ Q (.bl (if n = true then !decide (a = b) else decide (a = b)))
theorem os_isB : OpS K .V rIsB (fIsB false) := fun F H v w x y Qp Q s r r' ⟨a, b, e1, e2, h⟩ q => by
  subst e1 e2
  obtain rfl := r.bl
  obtain rfl := r'.bl
  exact ⟨a, b, rfl, rfl, q F H _ _ (.refl s) (R.bl _) h⟩
theorem os_nisB : OpS K .V rNotB (fIsB true) := fun F H v w x y Qp Q s r r' ⟨a, b, e1, e2, h⟩ q => by
  subst e1 e2
  obtain rfl := r.bl
  obtain rfl := r'.bl
  exact ⟨a, b, rfl, rfl, q F H _ _ (.refl s) (R.bl _) h⟩
theorem ap_isB {a b : Bool} {Q : P → Prop} : (fIsB false (.bl a) (.bl b) Q) = Q (.bl (decide (a = b))) := propext ⟨fun ⟨_, _, e1, e2, q⟩ => by cases e1; cases e2; exact q, fun q => ⟨_, _, rfl, rfl, q⟩⟩
theorem ap_nisB {a b : Bool} {Q : P → Prop} : (fIsB true (.bl a) (.bl b) Q) = Q (.bl !decide (a = b)) := propext ⟨fun ⟨_, _, e1, e2, q⟩ => by cases e1; cases e2; exact q, fun q => ⟨_, _, rfl, rfl, q⟩⟩
end
end Pf
namespace Pf
open PySem PySem.Spec PyProof.Rows L2
section
variable {K : PySem.W.Frag} {W : WX}
/-! ### [elt for x in xs for y in ys] -/
theorem Good.off {F0 H0 F H : Hp} {σ : L2.St} {env : PEnv} {D : Addr} {o : HO} (g : Good K F0 H0 σ F H env) (nf : F D = none) (nh : H0 D = none) (no : ∀ (i : Nat) x a, env[i]? = some (some (Mo.o, x)) → σ[i]? = some (some (.ref a)) → scB x = false → a ≠ D) : Good K F0 H0 σ F (upd H D o) env where
  fh := fun b u e => by rw [upd_ne (ne_of_none e nf)]; exact g.fh _ _ e
  hh := fun b u e => by rw [upd_ne (ne_of_none e nh)]; exact g.hh _ _ e
  e := g.e
  len := g.len
  slot := fun i m x h => by
    obtain ⟨v, hs, sl⟩ := g.slot i m x h
    refine ⟨v, hs, ?_⟩
    cases m with
    | v => exact sl
    | b => exact sl
    | o =>
      rcases sl with ⟨a, u, rfl, ha, c⟩ | sl
      · refine .inl ⟨a, u, rfl, ?_, c⟩
        have hsc : scB x = false := by
          cases e : scB x with
          | false => rfl
          | true => exact (sc_nocell e c).elim
        rw [upd_ne (no i x a h hs hsc)]
        exact ha
      · exact .inr sl
  own := g.own
  dis := g.dis
def OwnSub (e env : PEnv) : Prop := ∀ (i : Nat) x, e[i]? = some (some (Mo.o, x)) → env[i]? = some (some (Mo.o, x))
def NoOwn (gw : P → PEnv → (PEnv → Prop) → Prop) : Prop := ∀ x env kp, gw x env kp → gw x env fun e => kp e ∧ OwnSub e env
theorem noOwn_n {i : Nat} : NoOwn (wgN i) := fun x env kp h => ⟨h, fun j y hj => by
  rcases get_set_some hj with ⟨_, e, _⟩ | ⟨_, e⟩
  · cases e
  · exact e⟩
theorem wipeP_some {env : PEnv} {z : Mo × P} {i : Nat} : ∀ {vs : List Nat}, (wipeP env vs)[i]? = some (some z) → i ∉ vs
  | [], _ => List.not_mem_nil
  | v :: vs, h => by
    obtain ⟨hne, h2⟩ := get_set_none (env := wipeP env vs) h
    intro hm
    rcases List.mem_cons.mp hm with rfl | hm
    · exact hne rfl
    · exact wipeP_some h2 hm
def wLc2 (wi : WI) (g : P → PEnv → (PEnv → Prop) → Prop) (tt : WT) (wi1 : WI) (g1 : P → PEnv → (PEnv → Prop) → Prop) (tt1 : WT) (te : WE) (vs vs1 : List Nat) : WE := fun env Q X => wi env (fun xs => ∃ Inv : Nat → List P → Prop, Inv 0 [] ∧
  (∀ i x acc, xs[i]? = some x → Inv i acc → g x (wipeP env vs) fun e => tt e (fun b => if b = true then wi1 e (fun ys => ∃ Inv1 : Nat → List P → Prop, Inv1 0 acc ∧
    (∀ j y acc1, ys[j]? = some y → Inv1 j acc1 → g1 y (wipeP e vs1) fun e1 => tt1 e1 (fun b1 => if b1 = true then te e1 (fun z => acc1.length < sizeLine ∧ Inv1 (j + 1) (acc1 ++ [z])) noX' else Inv1 (j + 1) acc1) noX') ∧
    ∀ acc1, Inv1 ys.length acc1 → Inv (i + 1) acc1) noX' else Inv (i + 1) acc) noX') ∧
  ∀ acc, Inv xs.length acc → Q (.lst acc)) X
theorem se_lc2 {ts vs ts1 vs1 : List Nat} {wi wi1 : TI} {a a1 : WI} {g g1 : TG} {gw gw1 : P → PEnv → (PEnv → Prop) → Prop} {tt tt1 : TT} {te : TE} {wt wt1 : WT} {we : WE} (hi : SimIc K W wi a) (hg : SimG K ts g gw) (nn : NoOwn gw) (ht : ST K noW tt wt)
    (hi1 : SimI K noW wi1 a1) (hg1 : SimG K ts1 g1 gw1) (ht1 : ST K noW tt1 wt1) (he : SE K noW .V te we) (hv : ∀ t, t ∈ ts → t ∈ vs) (hv1 : ∀ t, t ∈ ts1 → t ∈ vs1) :
    SE K W .O (tLc2 wi g tt wi1 g1 tt1 te vs vs1) (wLc2 a gw wt a1 gw1 wt1 we vs vs1) := fun F0 H0 σ F H env Qp Xp Q gd hw hx q => by
  refine hi F0 H0 σ F H env _ Xp _ gd hw hx fun F1 H1 J xs m wk h D nD => ?_
  obtain ⟨Iv, h0, hs, hd⟩ := h
  have g1' := (gd.mv m).wipe vs
  obtain ⟨G, Y, w, okG, okY⟩ := wk
  have keep : ∀ {F' H' o}, Mv F1 H1 F' H' → F' D = none → Mv F1 H1 F' (upd H' D o) := fun m' n' =>
    ⟨m'.e, fun b u e => by rw [upd_ne (ne_of_none e nD)]; exact m'.s _ _ e, same_put m'.fh n'⟩
  have nh0 : H0 D = none := by
    cases e : H0 D with
    | none => rfl
    | some o => have := g1'.hh _ _ e; rw [nD] at this; cases this
  refine ⟨fun i k H' => k = xs.length - i ∧ i ≤ xs.length ∧ ∃ F' acc ws, Mv F1 H1 F' H' ∧ F' D = none ∧ H' D = some (.lst ws) ∧ RL K F' ws acc ∧ Iv i acc, ⟨_, rfl, Nat.zero_le _, F1, [], [], mv_new m.fh nD, same_free m.fh nD, upd_same, .nil, h0⟩, ?_⟩
  rintro i k H' ⟨rfl, hi2, F', acc, ws, m', nf, hD, r, hI⟩
  have gH := okG F' H' m'
  by_cases hlt : i < xs.length
  · refine .inr ⟨w.goes i H' hlt gH, fun H' => ∃ F' acc ws, Mv F1 H1 F' H' ∧ F' D = none ∧ H' D = some (.lst ws) ∧ RL K F' ws acc ∧ Iv (i + 1) acc, fun H'' p => ⟨xs.length - (i + 1), by omega, rfl, hlt, p⟩, fun v H2 y => ?_⟩
    have y := w.yields i H' v H2 hlt gH y
    obtain ⟨y, F2, ey, m2, r2⟩ := okY i F' H' v H2 hlt m' y
    refine hg F0 H0 (wipe σ vs) F2 H2 (wipeP env vs) v y _ _ ((g1'.mv m').mv m2) r2 (nn _ _ _ (hs i y acc ey hI)) fun σ3 e3 g3 o3 ⟨h3, sub⟩ => ⟨wipe_off o3 hv, ?_⟩
    have own3 : ∀ (i : Nat) x a, e3[i]? = some (some (Mo.o, x)) → σ3[i]? = some (some (.ref a)) → scB x = false → a ≠ D := fun i x a he hs hsc e => by
      have h1 := sub i x he
      have h2 : i ∉ ts := fun hm => wipeP_some h1 (hv i hm)
      rw [o3.2 i h2] at hs
      obtain ⟨v, hv2, sl⟩ := g1'.slot i _ x h1
      rw [hs] at hv2
      cases hv2
      rcases sl with ⟨a', o, e1, ha, _⟩ | sl
      · cases e1
        rw [e, nD] at ha
        cases ha
      · rw [hsc] at sl; cases sl.1
    refine ht F0 H0 σ3 F2 H2 e3 _ _ _ g3 h3 noX_ok fun F3 H3 b m3 h4 => ?_
    have m13 := (m'.trans m2).trans m3
    have n3 : F3 D = none := ((m2.trans m3).e.2 _ _ hD).trans nf
    have hD3 := (m2.trans m3).s _ _ hD
    have r3 := r.mono (m2.trans m3).e.1
    cases b with
    | false =>
      rw [if_neg Bool.false_ne_true] at h4 ⊢
      exact ⟨F3, acc, ws, m13, n3, hD3, r3, h4⟩
    | true =>
      rw [if_pos rfl] at h4 ⊢
      refine hi1 F0 H0 σ3 F3 H3 e3 _ _ _ (g3.mv m3) h4 noX_ok fun F4 H4 J1 ys m4 wk1 h5 => ?_
      obtain ⟨Iv1, k0, ks, kd⟩ := h5
      obtain ⟨G1, Y1, w1, okG1, okY1⟩ := wk1
      have g4 := (g3.mv m3).mv m4
      refine ⟨fun j k H' => k = ys.length - j ∧ j ≤ ys.length ∧ ∃ F' acc ws, Mv F1 H1 F' H' ∧ F' D = none ∧ H' D = some (.lst ws) ∧ RL K F' ws acc ∧ Good K F0 H0 σ3 F' H' e3 ∧ Same F4 F' ∧ Iv1 j acc, ⟨_, rfl, Nat.zero_le _, F4, acc, ws, m13.trans m4, (m4.e.2 _ _ hD3).trans n3, m4.s _ _ hD3, r3.mono m4.e.1, g4, Same.refl _, k0⟩, ?_⟩
      rintro j k H5 ⟨rfl, hj, F5, acc5, ws5, m5, nf5, hD5, r5, g5, s45, hI5⟩
      have gH1 := okG1 F5 H5 ⟨s45, g5.fh, g5.hh⟩
      by_cases hjl : j < ys.length
      · refine .inr ⟨w1.goes j H5 hjl gH1, fun H' => ∃ F' acc ws, Mv F1 H1 F' H' ∧ F' D = none ∧ H' D = some (.lst ws) ∧ RL K F' ws acc ∧ Good K F0 H0 σ3 F' H' e3 ∧ Same F4 F' ∧ Iv1 (j + 1) acc, fun H'' p => ⟨ys.length - (j + 1), by omega, rfl, hjl, p⟩, fun v6 H6 y6 => ?_⟩
        have y6 := w1.yields j H5 v6 H6 hjl gH1 y6
        obtain ⟨y7, F6, ey6, m6, r6⟩ := okY1 j F5 H5 v6 H6 hjl ⟨s45, g5.fh, g5.hh⟩ y6
        refine hg1 F0 H0 (wipe σ3 vs1) F6 H6 (wipeP e3 vs1) v6 y7 _ _ ((g5.mv m6).wipe vs1) r6 (ks j y7 acc5 ey6 hI5) fun σ7 e7 g7 o7 h7 => ⟨wipe_off o7 hv1, ?_⟩
        refine ht1 F0 H0 σ7 F6 H6 e7 _ _ _ g7 h7 noX_ok fun F8 H8 b1 m8 h8 => ?_
        have m58 := m6.trans m8
        have n8 : F8 D = none := (m58.e.2 _ _ hD5).trans nf5
        have hD8 := m58.s _ _ hD5
        have r8 := r5.mono m58.e.1
        cases b1 with
        | false =>
          rw [if_neg Bool.false_ne_true] at h8 ⊢
          exact ⟨F8, acc5, ws5, m5.trans m58, n8, hD8, r8, g5.mv m58, s45.trans m58.e.1, h8⟩
        | true =>
          rw [if_pos rfl] at h8 ⊢
          refine he F0 H0 σ7 F8 H8 e7 _ _ _ (g7.mv m8) h8 noX_ok fun F9 H9 u z m9 r9 h9 => ?_
          have n9 : F9 D = none := (m9.e.2 _ _ hD8).trans n8
          exact ⟨ws5, m9.s _ _ hD8, by rw [r8.len]; exact h9.1, F9, acc5 ++ [z], ws5 ++ [u], keep ((m5.trans m58).trans m9) n9, n9, upd_same, (r8.mono m9.e.1).app (.cons r9 .nil), ((g5.mv m58).mv m9).off n9 nh0 own3, s45.trans (m58.e.1.trans m9.e.1), h9.2⟩
      · have e : j = ys.length := by omega
        subst e
        exact .inl ⟨w1.stops H5 gH1, F5, acc5, ws5, m5, nf5, hD5, r5, kd acc5 hI5⟩
  · have e : i = xs.length := by omega
    subst e
    exact .inl ⟨w.stops H' gH, q F' H' (.ref D) (.lst acc) (m.trans m') (.inl ⟨D, _, rfl, m.s.free nD, nf, hD, .l r⟩) (hd acc hI)⟩
end
end Pf
namespace Pf
open PySem PySem.Spec PyProof.Rows L2
abbrev BkI : Type := Shared → Hp → Addr → List (Str × Addr) → List Addr → TI
def allI (wi : BkI) : TI := fun σ H R => ∀ (s : Shared) (Hb : Hp) (C : Addr) (cl : List (Str × Addr)) (fp : List Addr), wi s Hb C cl fp σ H R
section
variable {K : PySem.W.Frag} {W : WX}
theorem si_all {wi : BkI} {w : WI} (h : ∀ s Hb C cl fp, SimI K W (wi s Hb C cl fp) w) : SimI K W (allI wi) w := fun F0 H0 σ F H env Qp Xp Rr g hw hx q s Hb C cl fp => h s Hb C cl fp F0 H0 σ F H env Qp Xp Rr g hw hx q
end
section
variable {X : Cx} {elt tg iter tg1 iter1 : Expr} {ifs ifs1 : List Expr} {scope : Scope} {own : List (Str × Nat)} {pos : Pos} {wi : TI} {vs1 : List Nat}
theorem pe_lc2X {g g1 : BkG} {tt tt1 : BkT} {te : BkE} {wi1 : BkI} (hc : X.calm = true) (hN : X.N.Nodup) (hi : PI X tg iter wi) (ok : BlkOk X.N X.env.scope scope own) (hv : ∀ i ∈ vs1, i ∈ own.map (·.2))
    (hg : ∀ s H C cl fp, PG (X.blk s H scope (compEnvC scope cl C X.env) fp) tg (g s H C cl fp)) (ht : ∀ s H C cl fp, PTs (X.blk s H scope (compEnvC scope cl C X.env) fp) ifs (tt s H C cl fp))
    (hi1 : ∀ s H C cl fp, PI (X.blk s H scope (compEnvC scope cl C X.env) fp) tg1 iter1 (wi1 s H C cl fp))
    (hg1 : ∀ s H C cl fp, PG (X.blk s H scope (compEnvC scope cl C X.env) fp) tg1 (g1 s H C cl fp)) (ht1 : ∀ s H C cl fp, PTs (X.blk s H scope (compEnvC scope cl C X.env) fp) ifs1 (tt1 s H C cl fp)) (he : ∀ s H C cl fp, PE (X.blk s H scope (compEnvC scope cl C X.env) fp) elt (te s H C cl fp))
    (hs : ∀ x, foldedSetIterable iter X.env x = pure x := by intro _; rfl) (hs1 : ∀ env x, foldedSetIterable iter1 env x = pure x := by intro _ _; rfl) : PE X (.ListComp elt [⟨tg, iter, ifs, 0⟩, ⟨tg1, iter1, ifs1, 0⟩] scope pos) (tLc2 wi (allG g) (allT tt) (allI wi1) (allG g1) (allT tt1) (allE te) (own.map (·.2)) vs1) :=
  pe_lc2 hc hN hi ok hv (fun s H C cl fp => ⟨fun pins s1 σ H1 v u Q I r h => (hg s H C cl fp).run pins s1 σ H1 v u Q I r (h s H C cl fp)⟩)
    (fun s H C cl fp => ⟨fun pins s1 σ H1 Q I h => (ht s H C cl fp).run pins s1 σ H1 Q I (h s H C cl fp)⟩)
    (fun s H C cl fp => ⟨fun pins s1 σ H1 Q I h => (hi1 s H C cl fp).run pins s1 σ H1 Q I (h s H C cl fp)⟩)
    (fun s H C cl fp => ⟨fun pins s1 σ H1 v u Q I r h => (hg1 s H C cl fp).run pins s1 σ H1 v u Q I r (h s H C cl fp)⟩)
    (fun s H C cl fp => ⟨fun pins s1 σ H1 Q I h => (ht1 s H C cl fp).run pins s1 σ H1 Q I (h s H C cl fp)⟩)
    (fun s H C cl fp => ⟨fun pins s1 σ H1 Q I h => (he s H C cl fp).run pins s1 σ H1 Q I (h s H C cl fp)⟩) hs hs1
variable {i : Nat} {y : Str} {py spos : Pos}
theorem ps_setLc2X {g g1 : BkG} {tt tt1 : BkT} {te : BkE} {wi1 : BkI} (hc : X.calm = true) (hN : X.N.Nodup) (hy : X.N[i]? = some y) (hyl : X.env.scope.names.lookup y = some .local) (hsw : swapsWith (.ListComp elt [⟨tg, iter, ifs, 0⟩, ⟨tg1, iter1, ifs1, 0⟩] scope pos) (some (.Name y py)) spos.line X.env = pure true) (hi : PI X tg iter wi) (ok : BlkOk X.N X.env.scope scope own) (hv : ∀ i ∈ vs1, i ∈ own.map (·.2))
    (hg : ∀ s H C cl fp, PG (X.blk s H scope (compEnvC scope cl C X.env) fp) tg (g s H C cl fp)) (ht : ∀ s H C cl fp, PTs (X.blk s H scope (compEnvC scope cl C X.env) fp) ifs (tt s H C cl fp))
    (hi1 : ∀ s H C cl fp, PI (X.blk s H scope (compEnvC scope cl C X.env) fp) tg1 iter1 (wi1 s H C cl fp))
    (hg1 : ∀ s H C cl fp, PG (X.blk s H scope (compEnvC scope cl C X.env) fp) tg1 (g1 s H C cl fp)) (ht1 : ∀ s H C cl fp, PTs (X.blk s H scope (compEnvC scope cl C X.env) fp) ifs1 (tt1 s H C cl fp)) (he : ∀ s H C cl fp, PE (X.blk s H scope (compEnvC scope cl C X.env) fp) elt (te s H C cl fp))
    (hs : ∀ x, foldedSetIterable iter X.env x = pure x := by intro _; rfl) (hs1 : ∀ env x, foldedSetIterable iter1 env x = pure x := by intro _ _; rfl) : PS X (.Assign [.Name y py] (.ListComp elt [⟨tg, iter, ifs, 0⟩, ⟨tg1, iter1, ifs1, 0⟩] scope pos) spos) (tAsg (tLc2 wi (allG g) (allT tt) (allI wi1) (allG g1) (allT tt1) (allE te) (own.map (·.2)) vs1) (gName i)) :=
  ps_setLc2 hc hN hy hyl hsw hi ok hv (fun s H C cl fp => ⟨fun pins s1 σ H1 v u Q I r h => (hg s H C cl fp).run pins s1 σ H1 v u Q I r (h s H C cl fp)⟩)
    (fun s H C cl fp => ⟨fun pins s1 σ H1 Q I h => (ht s H C cl fp).run pins s1 σ H1 Q I (h s H C cl fp)⟩)
    (fun s H C cl fp => ⟨fun pins s1 σ H1 Q I h => (hi1 s H C cl fp).run pins s1 σ H1 Q I (h s H C cl fp)⟩)
    (fun s H C cl fp => ⟨fun pins s1 σ H1 v u Q I r h => (hg1 s H C cl fp).run pins s1 σ H1 v u Q I r (h s H C cl fp)⟩)
    (fun s H C cl fp => ⟨fun pins s1 σ H1 Q I h => (ht1 s H C cl fp).run pins s1 σ H1 Q I (h s H C cl fp)⟩)
    (fun s H C cl fp => ⟨fun pins s1 σ H1 Q I h => (he s H C cl fp).run pins s1 σ H1 Q I (h s H C cl fp)⟩) hs hs1
end
def Lc2B (xs : List P) (g : P → PEnv → (PEnv → Prop) → Prop) (tt : WT) (wi1 : WI) (g1 : P → PEnv → (PEnv → Prop) → Prop) (tt1 : WT) (te : WE) (vs vs1 : List Nat) (env : PEnv) (Q : P → Prop) : Prop := ∃ Inv : Nat → List P → Prop, Inv 0 [] ∧
  (∀ i x acc, xs[i]? = some x → Inv i acc → g x (wipeP env vs) fun e => tt e (fun b => if b = true then wi1 e (fun ys => ∃ Inv1 : Nat → List P → Prop, Inv1 0 acc ∧
    (∀ j y acc1, ys[j]? = some y → Inv1 j acc1 → g1 y (wipeP e vs1) fun e1 => tt1 e1 (fun b1 => if b1 = true then te e1 (fun z => acc1.length < sizeLine ∧ Inv1 (j + 1) (acc1 ++ [z])) noX' else Inv1 (j + 1) acc1) noX') ∧
    ∀ acc1, Inv1 ys.length acc1 → Inv (i + 1) acc1) noX' else Inv (i + 1) acc) noX') ∧
  ∀ acc, Inv xs.length acc → Q (.lst acc)
theorem ap_lc2 {wi wi1 : WI} {g g1 : P → PEnv → (PEnv → Prop) → Prop} {tt tt1 : WT} {te : WE} {vs vs1 : List Nat} {env : PEnv} {Q : P → Prop} {X : XP} : (wLc2 wi g tt wi1 g1 tt1 te vs vs1 env Q X) = wi env (fun xs => Lc2B xs g tt wi1 g1 tt1 te vs vs1 env Q) X := rfl
/-- two lists, what is made is a function of the items -/
theorem lc2M {α β : Type} {xs : List P} {enc : α → P} {enc1 : β → P} {l : List α} {g g1 : P → PEnv → (PEnv → Prop) → Prop} {wi1 : WI} {te : WE} {vs vs1 : List Nat} {env : PEnv} {Q : P → Prop} [h : ML xs α enc l] (m : α → List β) (f : α → β → P) (e2 : α → PEnv) (N : Nat) (hN : ∀ a ∈ l, (m a).length ≤ N) (hl : l.length * N ≤ 1000000)
    (hg : ∀ a ∈ l, ∀ kp : PEnv → Prop, kp (e2 a) → g (enc a) (wipeP env vs) kp) (hi : ∀ a ∈ l, ∀ Q1 : List P → Prop, Q1 ((m a).map enc1) → wi1 (e2 a) Q1 noX')
    (hs : ∀ a ∈ l, ∀ b ∈ m a, ∀ Q1 : P → Prop, Q1 (f a b) → g1 (enc1 b) (wipeP (e2 a) vs1) fun e1 => te e1 Q1 noX') (hd : Q (.lst (l.flatMap fun a => (m a).map (f a)))) : Lc2B xs g (fun _ Q _ => Q true) wi1 g1 (fun _ Q _ => Q true) te vs vs1 env Q := by
  rw [h.eq]
  have hlen : ∀ i, i ≤ l.length → ((l.take i).flatMap fun a => (m a).map (f a)).length ≤ i * N := fun i => by
    induction i with
    | zero => intro _; simp
    | succ i ih =>
      intro hi
      have e : l[i]? = some l[i] := List.getElem?_eq_getElem (by omega)
      rw [take_snoc' e, List.flatMap_append, List.length_append]
      have h1 := ih (by omega)
      have h2 := hN _ (List.mem_of_getElem? e)
      have h3 : ([l[i]].flatMap fun a => (m a).map (f a)).length = (m l[i]).length := by simp
      have h4 : (i + 1) * N = i * N + N := Nat.succ_mul ..
      omega
  refine ⟨fun i acc => acc = (l.take i).flatMap fun a => (m a).map (f a), by simp, ?_, ?_⟩
  · rintro i x acc hx rfl
    rw [List.getElem?_map] at hx
    cases ha : l[i]? with
    | none => rw [ha] at hx; cases hx
    | some a =>
      rw [ha] at hx
      have hx : enc a = x := Option.some.inj hx
      subst hx
      have hm := List.mem_of_getElem? ha
      have hil := (List.getElem?_eq_some_iff.mp ha).1
      refine hg a hm _ ?_
      dsimp only
      rw [if_pos rfl]
      refine hi a hm _ ⟨fun j acc1 => acc1 = ((l.take i).flatMap fun a => (m a).map (f a)) ++ ((m a).take j).map (f a), by simp, ?_, ?_⟩
      · rintro j y acc1 hy rfl
        rw [List.getElem?_map] at hy
        cases hb : (m a)[j]? with
        | none => rw [hb] at hy; cases hy
        | some b =>
          rw [hb] at hy
          have hy : enc1 b = y := Option.some.inj hy
          subst hy
          have hjl := (List.getElem?_eq_some_iff.mp hb).1
          refine hs a hm b (List.mem_of_getElem? hb) (fun z => _) ⟨?_, ?_⟩
          · have h1 := hlen i (by omega)
            have h2 := hN a hm
            have h3 : (i + 1) * N = i * N + N := Nat.succ_mul ..
            have h4 : (i + 1) * N ≤ l.length * N := Nat.mul_le_mul_right N (by omega)
            rw [List.length_append, List.length_map, List.length_take, sizeLine_eq]
            omega
          · dsimp only
            rw [take_snoc' hb, List.map_append, List.append_assoc]
            rfl
      · rintro acc1 rfl
        rw [List.length_map, List.take_length, take_snoc' ha, List.flatMap_append]
        simp
  · rintro acc rfl
    rw [List.length_map, List.take_length]
    exact hd
end Pf

namespace Pf
open PySem PySem.Spec PyProof.Rows L2
/-! ### a dict is locked while it is walked -/
section
variable {K : PySem.W.Frag} {W : WX} {ro : Bool} {a : Addr} {kvs : List (Key × V)}
/-- F and G agree but for a lock at a -/
structure Lk (a : Addr) (kvs : List (Key × V)) (F G : Hp) : Prop where
  off : ∀ b, b ≠ a → G b = F b
  f : ∀ o, F a = some o → o = .dK kvs ∨ ∃ ob, o = .frz ob (.dK kvs)
  g : F a ≠ none → G a = some (.dK kvs) ∨ ∃ ob, G a = some (.frz ob (.dK kvs))
theorem Lk.at {F G : Hp} (l : Lk a kvs F G) {b : Addr} {o : HO} (h : F b = some o) (h1 : o ≠ .dK kvs) (h2 : ∀ ob, o ≠ .frz ob (.dK kvs)) : G b = some o := by
  by_cases e : b = a
  · subst e
    rcases l.f o h with e | ⟨ob, e⟩
    · exact absurd e h1
    · exact absurd e (h2 ob)
  · rw [l.off b e]; exact h
theorem Lk.rd {F G : Hp} (l : Lk a kvs F G) {b : Addr} {qs : List (Key × V)} (h : Rd F b (.dK qs)) : Rd G b (.dK qs) := by
  by_cases e : b = a
  · subst e
    have hq : qs = kvs ∧ F b ≠ none := by
      rcases h with h | ⟨o, h⟩
      · refine ⟨?_, by rw [h]; exact fun z => by cases z⟩
        rcases l.f _ h with e | ⟨ob, e⟩ <;> cases e <;> rfl
      · refine ⟨?_, by rw [h]; exact fun z => by cases z⟩
        rcases l.f _ h with e | ⟨ob, e⟩ <;> cases e <;> rfl
    rw [hq.1]
    rcases l.g hq.2 with h | ⟨ob, h⟩
    · exact .inl h
    · exact .inr ⟨ob, h⟩
  · rcases h with h | ⟨o, h⟩
    · exact .inl (by rw [l.off b e]; exact h)
    · exact .inr ⟨o, by rw [l.off b e]; exact h⟩
theorem Lk.rd' {F G : Hp} (l : Lk a kvs F G) {b : Addr} {u : HO} (h : Rd F b u) (hu : ∀ qs, u ≠ .dK qs) (hz : ∀ ob qs, u ≠ .frz ob (.dK qs)) : Rd G b u := by
  rcases h with h | ⟨o, h⟩
  · exact .inl (l.at h (hu _) (hz · _))
  · exact .inr ⟨o, l.at h (fun z => by cases z) (fun ob z => by cases z; exact hu _ rfl)⟩
mutual
theorem R.lk {F G : Hp} (l : Lk a kvs F G) : ∀ {v : V} {x : P}, R K F v x → R K G v x
  | _, _, .non => .non
  | _, _, .bl b => .bl b
  | _, _, .int n => .int n
  | _, _, .str h => .str h
  | _, _, .tup h r => .tup (l.at h (fun z => by cases z) fun _ z => by cases z) (RL.lk l r)
  | _, _, .lst h r => .lst (l.at h (fun z => by cases z) fun _ z => by cases z) (RL.lk l r)
  | _, _, .dct h e r => .dct (l.rd h) e (RL.lk l r)
  | _, _, .ins h e1 e2 r => .ins (l.at h (fun z => by cases z) fun _ z => by cases z) e1 e2 (RL.lk l r)
  | _, _, .slf h e1 e2 r => .slf (l.at h (fun z => by cases z) fun _ z => by cases z) e1 e2 (RL.lk l r)
  | _, _, .scr h => .scr (h.elim (fun h => .inl (l.rd' h (fun _ z => by cases z) fun _ _ z => by cases z)) .inr)
  | _, _, .adr b => .adr b
  | _, _, .ty s => .ty s
  | _, _, .exc0 b C => .exc0 b C
  | _, _, .exc1 h e1 e2 r => .exc1 (l.at h (fun z => by cases z) fun _ z => by cases z) e1 e2 (RL.lk l r)
  | _, _, .rng h => .rng (l.at h (fun z => by cases z) fun _ z => by cases z)
  | _, _, .dtt h e r => .dtt (l.rd' h (fun _ z => by cases z) fun _ _ z => by cases z) e (RL.lk l r)
theorem RL.lk {F G : Hp} (l : Lk a kvs F G) : ∀ {vs : List V} {xs : List P}, RL K F vs xs → RL K G vs xs
  | _, _, .nil => .nil
  | _, _, .cons h r => .cons (R.lk l h) (RL.lk l r)
end
theorem Cell.lk {F G : Hp} (l : Lk a kvs F G) {b : Addr} {o : HO} {x : P} (h : Cell K F b o x) : Cell K G b o x := by
  cases x <;> first | exact h.elim | (obtain ⟨vs, e, r⟩ := h; exact ⟨vs, e, RL.lk l r⟩) | (obtain ⟨vs, e, q, r⟩ := h; exact ⟨vs, e, q, RL.lk l r⟩) | (obtain ⟨dx, fs, e, q, r⟩ := h; exact ⟨dx, fs, e, q, RL.lk l r⟩) | (obtain ⟨ea, dx, fs, e, q, r⟩ := h; exact ⟨ea, dx, fs, e, q, RL.lk l r⟩)
theorem CellT.lk {F G : Hp} (l : Lk a kvs F G) {b : Addr} {o : HO} {x : P} (h : CellT K F b o x) : CellT K G b o x := by
  by_cases hd : ∃ ks xs, x = .dct ks xs
  · obtain ⟨ks, xs, rfl⟩ := hd
    obtain ⟨vs, e, q, r⟩ := h
    exact ⟨vs, e, q, RL.lk l r⟩
  · rw [CellT_eq fun ks xs e => hd ⟨ks, xs, e⟩] at h ⊢
    exact Cell.lk l h
/-- what is read at a dict is read there locked, and back -/
theorem CellT.swap {F : Hp} {b : Addr} {o o2 : HO} {x : P} (h1 : o = .dK kvs ∨ ∃ ob, o = .frz ob (.dK kvs)) (h2 : o2 = .dK kvs ∨ ∃ ob, o2 = .frz ob (.dK kvs)) (h : CellT K F b o x) : CellT K F b o2 x := by
  by_cases hd : ∃ ks xs, x = .dct ks xs
  · obtain ⟨ks, xs, rfl⟩ := hd
    obtain ⟨vs, e, q, r⟩ := h
    have hk : kvs = ks.zip vs := by
      rcases h1 with h1 | ⟨ob, h1⟩ <;> rcases e with e | ⟨ob2, e⟩ <;> rw [h1] at e <;> cases e <;> rfl
    subst hk
    exact ⟨vs, h2, q, r⟩
  · rw [CellT_eq fun ks xs e => hd ⟨ks, xs, e⟩] at h
    exfalso
    cases x <;> first | exact h | exact hd ⟨_, _, rfl⟩ | (obtain ⟨vs, e, _⟩ := h; rcases h1 with h1 | ⟨ob, h1⟩ <;> rw [h1] at e <;> cases e; done) | (obtain ⟨dx, fs, e, _⟩ := h; rcases h1 with h1 | ⟨ob, h1⟩ <;> rw [h1] at e <;> cases e; done) | (obtain ⟨ea, dx, fs, e, _⟩ := h; rcases h1 with h1 | ⟨ob, h1⟩ <;> rw [h1] at e <;> cases e; done)
/-- F with what stands at a exchanged for o -/
def xch (a : Addr) (o : HO) (F : Hp) : Hp := fun b => if b = a then (F a).map (fun _ => o) else F b
theorem xch_off {o : HO} {F : Hp} {b : Addr} (h : b ≠ a) : xch a o F b = F b := by unfold xch; rw [if_neg h]
theorem xch_at {o : HO} {F : Hp} : xch a o F a = (F a).map fun _ => o := by unfold xch; rw [if_pos rfl]
theorem xch_upd {o u : HO} {F : Hp} (h : F a = some u) : xch a o F = upd F a o := by
  funext b
  by_cases e : b = a
  · subst e; rw [xch_at, h, upd_same]; rfl
  · rw [xch_off e, upd_ne e]
/-- the two states are locked and unlocked -/
structure Lkd (a : Addr) (kvs : List (Key × V)) (ob : Obj) (H0 F H : Hp) : Prop where
  fh : Same F H
  hh : Same H0 H
  h : H a = some (.dK kvs)
  i : F a ≠ none ∨ H0 a ≠ none
theorem same_some {F H : Hp} (s : Same F H) {o : HO} (h : H a = some o) : F a = none ∨ F a = some o := by
  cases e : F a with
  | none => exact .inl rfl
  | some o2 => have := s _ _ e; rw [h] at this; cases this; exact .inr rfl
theorem Lkd.lk {ob : Obj} {H0 F H : Hp} (d : Lkd a kvs ob H0 F H) : Lk a kvs F (xch a (.frz ob (.dK kvs)) F) := by
  refine ⟨fun b h => xch_off h, fun o h => ?_, fun h => ?_⟩
  · have := d.fh _ _ h; rw [d.h] at this; cases this; exact .inl rfl
  · refine .inr ⟨ob, ?_⟩
    rw [xch_at]
    cases e : F a with
    | none => exact absurd e h
    | some o => rfl
theorem Lkd.good {ob : Obj} {F0 H0 F H : Hp} {σ : L2.St} {env : PEnv} (d : Lkd a kvs ob H0 F H) (g : Good K F0 H0 σ F H env) : Good K (xch a (.frz ob (.dK kvs)) F) (xch a (.frz ob (.dK kvs)) H0) σ (xch a (.frz ob (.dK kvs)) F) (xch a (.frz ob (.dK kvs)) H) env := by
  have sm : ∀ {A B : Hp}, Same A B → Same (xch a (.frz ob (.dK kvs)) A) (xch a (.frz ob (.dK kvs)) B) := fun {A B} s b o h => by
    by_cases e : b = a
    · subst e
      rw [xch_at] at h ⊢
      cases e1 : A b with
      | none => rw [e1] at h; cases h
      | some o1 => rw [e1] at h; rw [s _ _ e1]; exact h
    · rw [xch_off e] at h ⊢; exact s _ _ h
  refine ⟨sm d.fh, sm d.hh, .refl, g.len, fun i m x h => ?_, fun i x b h hs => ?_, g.dis⟩
  · obtain ⟨v, hs, sl⟩ := g.slot i m x h
    refine ⟨v, hs, ?_⟩
    cases m with
    | v => exact R.lk d.lk sl
    | b =>
      rcases sl with sl | ⟨b, o, rfl, hb, c⟩
      · exact .inl (R.lk d.lk sl)
      · by_cases e : b = a
        · subst e
          have ho : o = .dK kvs := by have := d.hh _ _ hb; rw [d.h] at this; cases this; rfl
          exact .inr ⟨b, _, rfl, by rw [xch_at, hb]; rfl, CellT.lk d.lk (CellT.swap (.inl ho) (.inr ⟨ob, rfl⟩) c)⟩
        · exact .inr ⟨b, o, rfl, by rw [xch_off e]; exact hb, CellT.lk d.lk c⟩
    | o =>
      rcases sl with ⟨b, o, rfl, hb, c⟩ | sl
      · obtain ⟨n1, n2⟩ := g.own i x b h hs
        have e : b ≠ a := fun e => by subst e; exact d.i.elim (fun z => z n1) fun z => z n2
        exact .inl ⟨b, o, rfl, by rw [xch_off e]; exact hb, Cell.lk d.lk c⟩
      · exact .inr ⟨sl.1, R.lk d.lk sl.2⟩
  · obtain ⟨n1, n2⟩ := g.own i x b h hs
    have e : b ≠ a := fun e => by subst e; exact d.i.elim (fun z => z n1) fun z => z n2
    rw [xch_off e, xch_off e]
    exact ⟨n1, n2⟩
theorem Lkd.frz {ob : Obj} {H0 F H F' H' : Hp} (d : Lkd a kvs ob H0 F H) (e : Ext (xch a (.frz ob (.dK kvs)) H0) (xch a (.frz ob (.dK kvs)) F) F') (hh : Same (xch a (.frz ob (.dK kvs)) H0) H') (fh : Same F' H') : H' a = some (.frz ob (.dK kvs)) ∧ F' a = (F a).map fun _ => .frz ob (.dK kvs) := by
  have hF : F' a = (F a).map fun _ => .frz ob (.dK kvs) := by
    cases e1 : F a with
    | none =>
      have hn : H0 a ≠ none := d.i.resolve_left fun z => z e1
      cases e2 : H0 a with
      | none => exact absurd e2 hn
      | some o =>
        have := e.2 a (.frz ob (.dK kvs)) (by rw [xch_at, e2]; rfl)
        rw [this, xch_at, e1]
    | some o => exact e.1 a _ (by rw [xch_at, e1]; rfl)
  refine ⟨?_, hF⟩
  cases e1 : F a with
  | none =>
    have hn : H0 a ≠ none := d.i.resolve_left fun z => z e1
    cases e2 : H0 a with
    | none => exact absurd e2 hn
    | some o => exact hh a _ (by rw [xch_at, e2]; rfl)
  | some o => rw [e1] at hF; exact fh a _ hF
theorem Lkd.unlk {ob : Obj} {H0 F H F' : Hp} (d : Lkd a kvs ob H0 F H) (hF : F' a = (F a).map fun _ => .frz ob (.dK kvs)) : Lk a kvs F' (xch a (.dK kvs) F') := by
  refine ⟨fun b h => xch_off h, fun o h => ?_, fun h => ?_⟩
  · rw [hF] at h
    cases e : F a with
    | none => rw [e] at h; cases h
    | some o1 => rw [e] at h; cases h; exact .inr ⟨ob, rfl⟩
  · refine .inl ?_
    rw [xch_at]
    cases e : F' a with
    | none => exact absurd e h
    | some o => rfl
/-- behind the walk -/
theorem Lkd.mv {ob : Obj} {H0 F H F' H' : Hp} (d : Lkd a kvs ob H0 F H) (e : Ext (xch a (.frz ob (.dK kvs)) H0) (xch a (.frz ob (.dK kvs)) F) F') (hh : Same (xch a (.frz ob (.dK kvs)) H0) H') (fh : Same F' H') :
    Same (xch a (.dK kvs) F') (upd H' a (.dK kvs)) ∧ Same H0 (upd H' a (.dK kvs)) ∧ Ext H0 F (xch a (.dK kvs) F') := by
  obtain ⟨h1, hF⟩ := d.frz e hh fh
  refine ⟨fun b o h => ?_, fun b o h => ?_, fun b o h => ?_, fun b o h => ?_⟩
  · by_cases e1 : b = a
    · subst e1
      rw [xch_at] at h
      cases e2 : F' b with
      | none => rw [e2] at h; cases h
      | some o2 => rw [e2] at h; cases h; exact upd_same
    · rw [xch_off e1] at h; rw [upd_ne e1]; exact fh _ _ h
  · by_cases e1 : b = a
    · subst e1
      have := d.hh _ _ h; rw [d.h] at this; cases this; exact upd_same
    · rw [upd_ne e1]; exact hh _ _ (by rw [xch_off e1]; exact h)
  · by_cases e1 : b = a
    · subst e1
      have := d.fh _ _ h; rw [d.h] at this; cases this
      rw [xch_at, hF, h]; rfl
    · rw [xch_off e1]; exact e.1 _ _ (by rw [xch_off e1]; exact h)
  · by_cases e1 : b = a
    · subst e1
      rw [xch_at, hF]
      cases e2 : F b with
      | none => rfl
      | some o2 => have := d.fh _ _ e2; rw [d.h] at this; cases this; rfl
    · rw [xch_off e1, e.2 b o (by rw [xch_off e1]; exact h), xch_off e1]
theorem Lkd.back {ob : Obj} {F0 H0 F H F' H' : Hp} {σ σ' : L2.St} {env env' : PEnv} (d : Lkd a kvs ob H0 F H) (g0 : Good K F0 H0 σ F H env) (g : Good K (xch a (.frz ob (.dK kvs)) F) (xch a (.frz ob (.dK kvs)) H0) σ' F' H' env') :
    H' a = some (.frz ob (.dK kvs)) ∧ Good K F0 H0 σ' (xch a (.dK kvs) F') (upd H' a (.dK kvs)) env' := by
  obtain ⟨h1, hF⟩ := d.frz g.e g.hh g.fh
  obtain ⟨m1, m2, m3⟩ := d.mv g.e g.hh g.fh
  have ul := d.unlk hF
  have hne : ∀ (i : Nat) x b, env'[i]? = some (some (Mo.o, x)) → σ'[i]? = some (some (.ref b)) → b ≠ a := fun i x b h hs e => by
    obtain ⟨n1, n2⟩ := g.own i x b h hs
    subst e
    rw [xch_at] at n2
    rw [hF] at n1
    refine d.i.elim (fun z => ?_) fun z => ?_
    · cases e : F b with
      | none => exact z e
      | some o => rw [e] at n1; cases n1
    · cases e : H0 b with
      | none => exact z e
      | some o => rw [e] at n2; cases n2
  refine ⟨h1, m1, m2, g0.e.trans (Same.refl _) m3, g.len, fun i m x h => ?_, fun i x b h hs => ?_, g.dis⟩
  · obtain ⟨v, hs, sl⟩ := g.slot i m x h
    refine ⟨v, hs, ?_⟩
    cases m with
    | v => exact R.lk ul sl
    | b =>
      rcases sl with sl | ⟨b, o, rfl, hb, c⟩
      · exact .inl (R.lk ul sl)
      · by_cases e : b = a
        · subst e
          rw [xch_at] at hb
          cases e2 : H0 b with
          | none => rw [e2] at hb; cases hb
          | some o2 =>
            rw [e2] at hb
            cases hb
            have ho : o2 = .dK kvs := by have := d.hh _ _ e2; rw [d.h] at this; cases this; rfl
            exact .inr ⟨b, o2, rfl, e2, CellT.lk ul (CellT.swap (.inr ⟨ob, rfl⟩) (.inl ho) c)⟩
        · rw [xch_off e] at hb
          exact .inr ⟨b, o, rfl, hb, CellT.lk ul c⟩
    | o =>
      rcases sl with ⟨b, o, rfl, hb, c⟩ | sl
      · have e := hne i x b h hs
        exact .inl ⟨b, o, rfl, by rw [upd_ne e]; exact hb, Cell.lk ul c⟩
      · exact .inr ⟨sl.1, R.lk ul sl.2⟩
  · have e := hne i x b h hs
    obtain ⟨n1, n2⟩ := g.own i x b h hs
    rw [xch_off e] at n2 ⊢
    exact ⟨n1, n2⟩
end
end Pf
namespace Pf
open PySem PySem.Spec PyProof.Rows L2
def kP : Key → P
  | .inl n => .int n
  | .inr z => .str z
def KOk (ks : List Key) : Prop := ∀ z, Sum.inr z ∈ ks → SOk z
def orLock (t : TS) : TS := fun D σ H => t D σ H ∨ tLock t D σ H
def orLockE (t : TE) : TE := fun σ H Q => t σ H Q ∨ tLockE t σ H Q
section
variable {X : Cx}
theorem ps_orLock {st : Stmt} {t : TS} (h : PS X st t) : PS X st (orLock t) := ⟨fun pins s σ H D I hw => hw.elim (h.run pins s σ H D I) ((ps_lock h).run pins s σ H D I)⟩
theorem pe_orLock {e : Expr} {t : TE} (h : PE X e t) : PE X e (orLockE t) := ⟨fun pins s σ H Q I hw => hw.elim (h.run pins s σ H Q I) ((pe_lock h).run pins s σ H Q I)⟩
end
section
variable {K : PySem.W.Frag} {W : WX} {ro : Bool}
theorem kP_r {F : Hp} {k : Key} (h : ∀ z, k = Sum.inr z → SOk z) : R K F (kV k) (kP k) := by
  cases k with
  | inl n => exact .int n
  | inr z => exact .str (h z rfl)
theorem wkd_keys {ok : Hp → Hp → Prop} {a : Addr} {ob : Obj} {ks : List Key} {vs : List V} (hl : ks.length = vs.length) (hk : KOk ks) (hz : ∀ F1 H1, ok F1 H1 → H1 a = some (.frz ob (.dK (ks.zip vs)))) (hs : ∀ F1 H1, ok F1 H1 → Same F1 H1) : Wkd K ok (Itk a ob (ks.zip vs)) (ks.map kP) := by
  have hn : (ks.map kP).length = (ks.zip vs).length := by rw [List.length_map, List.length_zip, ← hl, Nat.min_self]
  refine ⟨_, _, by rw [hn]; exact walk_keys, hz, fun i F1 H1 v H2 hi o y => ?_⟩
  obtain ⟨rfl, k, v', e, rfl⟩ := y
  have hki : ks[i]? = some k := (List.getElem?_zip_eq_some.mp e).1
  refine ⟨kP k, F1, by rw [List.getElem?_map, hki]; rfl, .refl (hs _ _ o), kP_r fun z hz => hk z ?_⟩
  rw [← hz]
  exact List.mem_of_getElem? hki
theorem for_at {ts : List Nat} {g : TG} {gw : P → PEnv → (PEnv → Prop) → Prop} {tb : TS} {b : WS} {F0 H0 F H : Hp} {σ : L2.St} {env : PEnv} {Dp : PEnds} {D : Ends} {J : It} {xs : List P} (hg : SimG K ts g gw) (hb : SS K W ro tb b) (gd : Good K F0 H0 σ F H env) (wk : Wkd K (okF H0 F) J xs) (h : ForB xs gw b Dp env) (d : DOk K ro F0 H0 Dp D) (x : WOk K W F0 H0 Dp.ex) : tFor (fun _ H R => R J H) g tb D σ H := by
  obtain ⟨Inv, h0, hs, hd⟩ := h
  have d1 : DOk K ro F H0 Dp D := d.base gd.e
  have x1 : WOk K W F H0 Dp.ex := x.base gd.e
  obtain ⟨G, Y, w, okG, okY⟩ := wk
  refine for_it w (fun i σ' H' => ∃ F' e, Good K F H0 σ' F' H' e ∧ Inv i e) ⟨F, env, gd.base, h0⟩ (fun i σ' H' _ ⟨F', e, g', _⟩ => okG F' H' ⟨g'.e.1, g'.fh, g'.hh⟩) (fun i v σ' H' H2 hi ⟨F', e, g', hI⟩ y => ?_) (fun σ' H' ⟨F', e, g', hI⟩ => d1.1 σ' F' H' e g' (hd e hI))
  obtain ⟨y, F2, ey, m2, r2⟩ := okY i F' H' v H2 hi ⟨g'.e.1, g'.fh, g'.hh⟩ y
  refine hg F H0 σ' F2 H2 e v y _ _ (g'.mv m2) r2 (hs i y e ey hI) fun σ3 e3 g3 _ h3 => ?_
  exact hb F H0 σ3 F2 H2 e3 _ _ g3 h3 ⟨fun σ4 F4 H4 e4 g4 h4 => ⟨F4, e4, g4, h4⟩, d1.2.1, fun σ4 F4 H4 e4 g4 h4 => d1.1 σ4 F4 H4 e4 g4 h4, fun σ4 F4 H4 e4 g4 h4 => ⟨F4, e4, g4, h4⟩⟩ x1
theorem cell_nofrz {F : Hp} {a : Addr} {ob : Obj} {u : HO} {x : P} (c : Cell K F a (.frz ob u) x) : False := by
  cases x <;> first | exact c | (obtain ⟨_, z, _⟩ := c; cases z; done) | (obtain ⟨_, _, z, _⟩ := c; cases z; done) | (obtain ⟨_, _, _, z, _⟩ := c; cases z; done)
/-- where a dict that is read stands -/
def DAt (H0 F H : Hp) (σ : L2.St) (i : Nat) (ks : List Key) : Prop :=
    ∃ a vs, σ[i]? = some (some (.ref a)) ∧ ks.length = vs.length ∧ ((H a = some (.dK (ks.zip vs)) ∧ (F a ≠ none ∨ H0 a ≠ none)) ∨ ∃ ob, H a = some (.frz ob (.dK (ks.zip vs))) ∧ (F a = some (.frz ob (.dK (ks.zip vs))) ∨ H0 a = some (.frz ob (.dK (ks.zip vs)))))
theorem dct_at {F0 H0 F H : Hp} {σ : L2.St} {env : PEnv} {i : Nat} {m : Mo} {ks : List Key} {xs : List P} (gd : Good K F0 H0 σ F H env) (e : env[i]? = some (some (m, .dct ks xs))) (hm : m ≠ .o) :
    DAt H0 F H σ i ks := by
  obtain ⟨v, hs, sl⟩ := gd.slot i _ _ e
  have viaR : R K F v (.dct ks xs) → DAt H0 F H σ i ks := fun r => by
    cases r with
    | dct hd l r =>
      rcases hd with hd | ⟨ob, hd⟩
      · exact ⟨_, _, hs, l, .inl ⟨gd.fh _ _ hd, .inl (by rw [hd]; exact fun z => by cases z)⟩⟩
      · exact ⟨_, _, hs, l, .inr ⟨ob, gd.fh _ _ hd, .inl hd⟩⟩
  cases m with
  | v => exact viaR sl
  | b =>
    rcases sl with sl | ⟨a, o, rfl, ha, vs, eo, l, r⟩
    · exact viaR sl
    · rcases eo with rfl | ⟨ob, rfl⟩
      · exact ⟨a, vs, hs, l, .inl ⟨gd.hh _ _ ha, .inr (by rw [ha]; exact fun z => by cases z)⟩⟩
      · exact ⟨a, vs, hs, l, .inr ⟨ob, gd.hh _ _ ha, .inr ha⟩⟩
  | o => exact absurd rfl hm
theorem noX_wok {F0 H0 : Hp} : WOk K W F0 H0 (fun _ => noX') := fun _ _ _ _ _ _ _ _ _ _ h => h.elim
def wForK (i : Nat) (gw : P → PEnv → (PEnv → Prop) → Prop) (b : WS) : WS := fun D env => ∃ m ks xs, env[i]? = some (some (m, .dct ks xs)) ∧ m ≠ .o ∧ KOk ks ∧ ForB (ks.map kP) gw b { D with ex := fun _ => noX' } env
theorem ss_forKeys {ts : List Nat} {g : TG} {gw : P → PEnv → (PEnv → Prop) → Prop} {tb : TS} {b : WS} (i : Nat) (hg : SimG K ts g gw) (hb : SS K W ro tb b) : SS K W ro (orLock (tFor (iKeys (tVar i)) g tb)) (wForK i gw b) := fun F0 H0 σ F H env Dp D gd ⟨m, ks, xs, e, hm, hk, hF⟩ d x => by
  obtain ⟨a, vs, hs, hl, h | ⟨ob, hH, hz⟩⟩ := dct_at gd e hm
  · refine .inr ⟨a, .dK (ks.zip vs), h.1, trivial, fun od => ?_⟩
    have L : Lkd a (ks.zip vs) od H0 F H := ⟨gd.fh, gd.hh, h.1, h.2⟩
    have g2 := L.good gd
    rw [← xch_upd h.1]
    refine ⟨.ref a, hs, a, od, rfl, .inl ⟨ks.zip vs, by rw [xch_at, h.1]; rfl, ?_⟩⟩
    refine for_at hg hb g2 (wkd_keys hl hk (fun F1 H1 o => ?_) fun F1 H1 o => o.2.1) hF ⟨fun σ' F' H' env' g' hn => ?_, fun F' H' v x m' r hn => ?_, fun σ' F' H' env' g' hn => ?_, fun σ' F' H' env' g' hn => ?_⟩ noX_wok
    · rcases h.2 with hn | hn
      · cases e1 : F a with
        | none => exact absurd e1 hn
        | some o1 => exact o.2.1 _ _ (o.1 _ _ (by rw [xch_at, e1]; rfl))
      · cases e1 : H0 a with
        | none => exact absurd e1 hn
        | some o1 => exact o.2.2 _ _ (by rw [xch_at, e1]; rfl)
    · obtain ⟨h1, g3⟩ := L.back gd g'
      exact ⟨h1, d.1 _ _ _ _ g3 hn⟩
    · obtain ⟨h1, hF'⟩ := L.frz m'.e m'.s m'.fh
      obtain ⟨m1, m2, m3⟩ := L.mv m'.e m'.s m'.fh
      have ul := L.unlk hF'
      refine ⟨h1, d.2.1 (xch a (.dK (ks.zip vs)) F') _ v x ⟨gd.e.trans (Same.refl _) m3, m2, m1⟩ ?_ hn⟩
      cases ro with
      | true =>
        rcases r with ⟨b', o, rfl, n1, n2, hb', c⟩ | r
        · have hne : b' ≠ a := fun e => by subst e; rw [h1] at hb'; cases hb'; exact cell_nofrz c
          rw [xch_off hne] at n1
          exact .inl ⟨b', o, rfl, n1, by rw [xch_off hne]; exact n2, by rw [upd_ne hne]; exact hb', Cell.lk ul c⟩
        · exact .inr ⟨r.1, R.lk ul r.2⟩
      | false => exact R.lk ul r
    · obtain ⟨h1, g3⟩ := L.back gd g'
      exact ⟨h1, d.2.2.1 _ _ _ _ g3 hn⟩
    · obtain ⟨h1, g3⟩ := L.back gd g'
      exact ⟨h1, d.2.2.2 _ _ _ _ g3 hn⟩
  · refine .inl ⟨.ref a, hs, a, ob, rfl, .inl ⟨ks.zip vs, hH, ?_⟩⟩
    refine for_at hg hb gd (wkd_keys hl hk (fun F1 H1 o => ?_) fun F1 H1 o => o.2.1) hF d noX_wok
    rcases hz with hz | hz
    · exact o.2.1 _ _ (o.1 _ _ hz)
    · exact o.2.2 _ _ hz
end
end Pf
namespace Pf
open PySem PySem.Spec PyProof.Rows L2
section
variable {K : PySem.W.Frag} {W : WX} {ro : Bool}
theorem lc_at {ts vs : List Nat} {g : TG} {gw : P → PEnv → (PEnv → Prop) → Prop} {tt : TT} {te : TE} {wt : WT} {we : WE} {F0 H0 F H : Hp} {σ : L2.St} {env : PEnv} {Qp : P → Prop} {Q : VK} {J : It} {xs : List P} (hg : SimG K ts g gw) (ht : ST K noW tt wt) (he : SE K noW .V te we) (hv : ∀ t, t ∈ ts → t ∈ vs)
    (gd : Good K F0 H0 σ F H env) (wk : Wkd K (okC F H) J xs) (h : LcB xs gw wt we vs env Qp) (q : ∀ F' H' v x, Mv F H F' H' → Ow K H F' H' v x → Qp x → Q v H') : tLc (fun _ H R => R J H) g tt te vs σ H Q := by
  intro D nD
  obtain ⟨Iv, h0, hs, hd⟩ := h
  have g1 := gd.wipe vs
  obtain ⟨G, Y, w, okG, okY⟩ := wk
  have keep : ∀ {F' H' o}, Mv F H F' H' → F' D = none → Mv F H F' (upd H' D o) := fun m' n' =>
    ⟨m'.e, fun b u e => by rw [upd_ne (ne_of_none e nD)]; exact m'.s _ _ e, same_put m'.fh n'⟩
  refine lc_it w (fun i H' => ∃ F' acc ws, Mv F H F' H' ∧ F' D = none ∧ H' D = some (.lst ws) ∧ RL K F' ws acc ∧ Iv i acc) ⟨F, [], [], mv_new gd.fh nD, same_free gd.fh nD, upd_same, .nil, h0⟩
    (fun i H' _ ⟨F', acc, ws, m', _⟩ => okG F' H' m') (fun i v H' H2 hi2 ⟨F', acc, ws, m', nf, hD, r, hI⟩ y => ?_) (fun H' ⟨F', acc, ws, m', nf, hD, r, hI⟩ => q F' H' (.ref D) (.lst acc) m' (.inl ⟨D, _, rfl, nD, nf, hD, .l r⟩) (hd acc hI))
  obtain ⟨y, F2, ey, m2, r2⟩ := okY i F' H' v H2 hi2 m' y
  refine hg F0 H0 (wipe σ vs) F2 H2 (wipeP env vs) v y _ _ ((g1.mv m').mv m2) r2 (hs i y acc ey hI) fun σ3 e3 g3 o3 h3 => ⟨wipe_off o3 hv, ?_⟩
  refine ht F0 H0 σ3 F2 H2 e3 _ _ _ g3 h3 noX_ok fun F3 H3 b m3 h4 => ?_
  have m13 := (m'.trans m2).trans m3
  have n3 : F3 D = none := ((m2.trans m3).e.2 _ _ hD).trans nf
  have hD3 := (m2.trans m3).s _ _ hD
  have r3 := r.mono (m2.trans m3).e.1
  cases b with
  | true =>
    rw [if_pos rfl] at h4 ⊢
    refine he F0 H0 σ3 F3 H3 e3 _ _ _ (g3.mv m3) h4 noX_ok fun F4 H4 u z m4 r4 h5 => ?_
    exact ⟨ws, m4.s _ _ hD3, by rw [r.len]; exact h5.1, F4, acc ++ [z], ws ++ [u], keep (m13.trans m4) ((m4.e.2 _ _ hD3).trans n3), (m4.e.2 _ _ hD3).trans n3, upd_same, (r3.mono m4.e.1).app (.cons r4 .nil), h5.2⟩
  | false =>
    rw [if_neg Bool.false_ne_true] at h4 ⊢
    exact ⟨F3, acc, ws, m13, n3, hD3, r3, h4⟩
def wLcK (i : Nat) (gw : P → PEnv → (PEnv → Prop) → Prop) (tt : WT) (te : WE) (vs : List Nat) : WE := fun env Q X => ∃ m ks xs, env[i]? = some (some (m, .dct ks xs)) ∧ m ≠ .o ∧ KOk ks ∧ LcB (ks.map kP) gw tt te vs env Q
theorem se_lcKeys {ts vs : List Nat} {g : TG} {gw : P → PEnv → (PEnv → Prop) → Prop} {tt : TT} {te : TE} {wt : WT} {we : WE} (i : Nat) (hg : SimG K ts g gw) (ht : ST K noW tt wt) (he : SE K noW .V te we) (hv : ∀ t, t ∈ ts → t ∈ vs) : SE K W .O (orLockE (tLc (iKeys (tVar i)) g tt te vs)) (wLcK i gw wt we vs) := fun F0 H0 σ F H env Qp Xp Q gd ⟨m, ks, xs, e, hm, hk, hL⟩ hx q => by
  obtain ⟨a, us, hs, hl, h | ⟨ob, hH, hz⟩⟩ := dct_at gd e hm
  · refine .inr ⟨a, .dK (ks.zip us), h.1, trivial, fun od => ?_⟩
    have L : Lkd a (ks.zip us) od H0 F H := ⟨gd.fh, gd.hh, h.1, h.2⟩
    have L2 : Lkd a (ks.zip us) od H F H := ⟨gd.fh, Same.refl _, h.1, .inr (by rw [h.1]; exact fun z => by cases z)⟩
    have g2 := L.good gd
    rw [← xch_upd h.1]
    refine ⟨.ref a, hs, a, od, rfl, .inl ⟨ks.zip us, by rw [xch_at, h.1]; rfl, ?_⟩⟩
    refine lc_at (Q := fun v H' => H' a = some (.frz od (.dK (ks.zip us))) ∧ Q v (upd H' a (.dK (ks.zip us)))) hg ht he hv g2 (wkd_keys hl hk (fun F1 H1 o => o.s _ _ (by rw [xch_at, h.1]; rfl)) fun F1 H1 o => o.fh) hL fun F' H' v x m' r hq => ?_
    obtain ⟨h1, hF'⟩ := L2.frz m'.e m'.s m'.fh
    obtain ⟨m1, m2, m3⟩ := L2.mv m'.e m'.s m'.fh
    have ul := L2.unlk hF'
    refine ⟨h1, q (xch a (.dK (ks.zip us)) F') _ v x ⟨m3, m2, m1⟩ ?_ hq⟩
    rcases r with ⟨b', o, rfl, n1, n2, hb', c⟩ | r
    · have hne : b' ≠ a := fun e => by subst e; rw [h1] at hb'; cases hb'; exact cell_nofrz c
      rw [xch_off hne] at n1
      exact .inl ⟨b', o, rfl, n1, by rw [xch_off hne]; exact n2, by rw [upd_ne hne]; exact hb', Cell.lk ul c⟩
    · exact .inr ⟨r.1, R.lk ul r.2⟩
  · refine .inl ⟨.ref a, hs, a, ob, rfl, .inl ⟨ks.zip us, hH, ?_⟩⟩
    exact lc_at hg ht he hv gd (wkd_keys hl hk (fun F1 H1 o => o.s _ _ hH) fun F1 H1 o => o.fh) hL q
/-- set to a name -/
theorem ss_lcLock {te : TE} {j : Nat} {w : WS} (h : SS K W ro (tAsg (orLockE te) (gName j)) w) : SS K W ro (orLock (tAsg te (gName j))) w := fun F0 H0 σ F H env Dp D gd hw d x => by
  rcases h F0 H0 σ F H env Dp D gd hw d x with h | ⟨dd, u, h1, h2, h3⟩
  · exact .inl h
  · exact .inr ⟨dd, u, h1, h2, fun od => h3 od⟩
theorem ap_forK {i : Nat} {gw : P → PEnv → (PEnv → Prop) → Prop} {b : WS} {D : PEnds} {env : PEnv} : (wForK i gw b D env) = (match env[i]? with | some (some (m, .dct ks _)) => m ≠ .o ∧ KOk ks ∧ ForB (ks.map kP) gw b { D with ex := fun _ => noX' } env | _ => False) := by
  unfold wForK
  refine propext ⟨fun ⟨m, ks, xs, e, h1, h2, h3⟩ => by rw [e]; exact ⟨h1, h2, h3⟩, fun h => ?_⟩
  split at h
  · rename_i m ks xs e
    exact ⟨m, ks, xs, e, h⟩
  · exact h.elim
theorem ap_lcK {i : Nat} {gw : P → PEnv → (PEnv → Prop) → Prop} {tt : WT} {te : WE} {vs : List Nat} {env : PEnv} {Q : P → Prop} {X : XP} : (wLcK i gw tt te vs env Q X) = (match env[i]? with | some (some (m, .dct ks _)) => m ≠ .o ∧ KOk ks ∧ LcB (ks.map kP) gw tt te vs env Q | _ => False) := by
  unfold wLcK
  refine propext ⟨fun ⟨m, ks, xs, e, h1, h2, h3⟩ => by rw [e]; exact ⟨h1, h2, h3⟩, fun h => ?_⟩
  split at h
  · rename_i m ks xs e
    exact ⟨m, ks, xs, e, h⟩
  · exact h.elim
end
end Pf
namespace Pf
open PySem PySem.Spec PyProof.Rows L2
/-! ### sorted of pairs of ints -/
def leII (p q : Int × Int) : Prop := p.1 < q.1 ∨ (p.1 = q.1 ∧ p.2 ≤ q.2)
instance {p q : Int × Int} : Decidable (leII p q) := by unfold leII; exact inferInstance
def sortII (l : List (Int × Int)) : List (Int × Int) := l.mergeSort fun a b => decide (leII a b)
theorem sortII_perm (l : List (Int × Int)) : (sortII l).Perm l := List.mergeSort_perm _ _
theorem sortII_pw (l : List (Int × Int)) : (sortII l).Pairwise leII := by
  have h := List.pairwise_mergeSort (le := fun (a b : Int × Int) => decide (leII a b)) (fun a b c h1 h2 => by
    have h1 := of_decide_eq_true h1
    have h2 := of_decide_eq_true h2
    unfold leII at *
    exact decide_eq_true (by omega)) (fun a b => by
    rw [Bool.or_eq_true, decide_eq_true_eq, decide_eq_true_eq]
    unfold leII
    omega) l
  exact h.imp fun h => of_decide_eq_true h
theorem sortII_one {a b : List (Int × Int)} (p : a.Perm b) (ha : a.Pairwise leII) (hb : b.Pairwise leII) : a = b := p.eq_of_pairwise (fun x y _ _ h1 h2 => by
  unfold leII at *
  exact Prod.ext (by omega) (by omega)) ha hb
theorem sortII_len {l : List (Int × Int)} : (sortII l).length = l.length := (sortII_perm l).length_eq
section
variable {K : PySem.W.Frag}
def pairAt (F : Hp) : V → Int × Int
  | .ref t => match F t with
    | some (.tup [.int i, .int j]) => (i, j)
    | _ => (0, 0)
  | _ => (0, 0)
theorem pairAt_of {F : Hp} {v : V} {p : Int × Int} (h : R K F v (iiP p)) : ∃ t, v = .ref t ∧ F t = some (.tup [.int p.1, .int p.2]) ∧ pairAt F v = p := by
  cases h with
  | tup h r =>
    cases r with
    | cons r1 r =>
      cases r with
      | cons r2 r =>
        cases r
        cases r1
        cases r2
        refine ⟨_, rfl, h, ?_⟩
        unfold pairAt
        simp only [h]
theorem pairs_of {F : Hp} : ∀ {vs : List V} {ns : List (Int × Int)}, RL K F vs (ns.map iiP) → vs.map (pairAt F) = ns ∧ ∀ v ∈ vs, ∃ t, v = .ref t ∧ F t = some (.tup [.int (pairAt F v).1, .int (pairAt F v).2]) ∧ R K F v (iiP (pairAt F v))
  | [], [], .nil => ⟨rfl, fun v h => absurd h List.not_mem_nil⟩
  | v :: vs, n :: ns, .cons h r => by
    obtain ⟨e, h2⟩ := pairs_of r
    obtain ⟨t, ht, hf, hp⟩ := pairAt_of h
    refine ⟨by rw [List.map_cons, e, hp], fun u hu => ?_⟩
    rcases List.mem_cons.mp hu with rfl | hu
    · exact ⟨t, ht, by rw [hp]; exact hf, by rw [hp]; exact h⟩
    · exact h2 u hu
theorem rl_pairs {F : Hp} : ∀ {vs : List V}, (∀ v ∈ vs, R K F v (iiP (pairAt F v))) → RL K F vs ((vs.map (pairAt F)).map iiP)
  | [], _ => .nil
  | v :: vs, h => .cons (h v List.mem_cons_self) (rl_pairs fun u hu => h u (List.mem_cons_of_mem _ hu))
def fSortII : PFn := fun xs Q => ∃ ns : List (Int × Int), xs = [.lst (ns.map iiP)] ∧ Q (.lst ((sortII ns).map iiP))
theorem cs_sortII {m : Mo} : CallS K .O [m] (rSortedPO K) fSortII := fun F H vs xs Qp Q s r ⟨ns, e, h⟩ q => by
  obtain ⟨v, x, rfl, ex, t⟩ := AL.one r
  cases ex.symm.trans e
  obtain ⟨a, ws, rfl, ha, rl⟩ := Tp.lst s t
  obtain ⟨e1, e2⟩ := pairs_of rl
  refine ⟨a, ws, pairAt F, rfl, SqL.of ha, fun x hx => ?_, fun ys p h1 h2 np => ?_⟩
  · obtain ⟨t, ht, hf, _⟩ := e2 x hx
    exact ⟨t, ht, s _ _ hf⟩
  have hz : ys.map (pairAt F) = sortII ns := by
    refine sortII_one ((h2.perm.map _).trans (by rw [e1]; exact (sortII_perm ns).symm)) ?_ (sortII_pw ns)
    rw [List.pairwise_map]
    refine h1.imp fun {x y} hxy => ?_
    have := SrtO.lexB_no.mp hxy
    unfold leII
    omega
  have hr := rl_pairs (K := K) (F := F) (vs := ys) fun v hv => by
    obtain ⟨_, _, _, hr⟩ := e2 v (h2.perm.mem_iff.mp hv)
    exact hr
  rw [hz] at hr
  exact q F _ _ (.lst ((sortII ns).map iiP)) (mv_new s np) (.inl ⟨p, _, rfl, np, same_free s np, upd_same, .l hr⟩) h
theorem aq_fSortII {xs : List P} {l : List (Int × Int)} [h : ML xs (Int × Int) iiP l] {Q : P → Prop} : (fSortII [.lst xs] Q) = Q (iil (sortII l)) := by
  rw [h.eq]
  unfold fSortII
  refine propext ⟨fun ⟨ns, e, q⟩ => ?_, fun q => ⟨l, rfl, q⟩⟩
  simp only [List.cons.injEq, P.lst.injEq, and_true] at e
  have := (List.map_inj_right fun x y e => ?_).mp e
  · rw [this]; exact q
  · simp only [iiP, P.tup.injEq, List.cons.injEq, P.int.injEq, and_true] at e
    exact Prod.ext e.1 e.2
end
end Pf
namespace Pf
open PySem PySem.Spec PyProof.Rows L2
instance (priority := high) ml_dk {α : Type} {d : List (Str × α)} : ML ((d.map fun p => (Sum.inr p.1 : Key)).map kP) Str P.str (d.map Prod.fst) := ⟨by rw [List.map_map, List.map_map]; rfl⟩
theorem aq_KOk {α : Type} {d : List (Str × α)} : (KOk (d.map fun p => (Sum.inr p.1 : Key))) = ∀ z ∈ d.map Prod.fst, SOk z := sok_keys
theorem mo_v : (Mo.v ≠ Mo.o) = True := eq_true (by decide)
theorem mo_b : (Mo.b ≠ Mo.o) = True := eq_true (by decide)
end Pf
namespace Pf
open PySem PySem.Spec PyProof.Rows L2
abbrev dI (d : List (Str × Int)) : P := dS P.int d
theorem dI_inj {d d' : List (Str × Int)} : (d.map (fun p => (Sum.inr p.1 : Key)) = d'.map (fun p => Sum.inr p.1) ∧ d.map (fun p => P.int p.2) = d'.map (fun p => P.int p.2)) = (d = d') := by
  refine propext ⟨fun ⟨h1, h2⟩ => ?_, fun h => by subst h; exact ⟨rfl, rfl⟩⟩
  refine List.ext_getElem? fun i => ?_
  have e1 := congrArg (·[i]?) h1
  have e2 := congrArg (·[i]?) h2
  simp only [List.getElem?_map] at e1 e2
  cases ea : d[i]? with
  | none =>
    rw [ea] at e1
    cases eb : d'[i]? with
    | none => rfl
    | some b => rw [eb] at e1; cases e1
  | some a =>
    rw [ea] at e1 e2
    cases eb : d'[i]? with
    | none => rw [eb] at e1; cases e1
    | some b =>
      rw [eb] at e1 e2
      have e1 : (some (Sum.inr a.1) : Option Key) = some (Sum.inr b.1) := e1
      have e2 : some (P.int a.2) = some (P.int b.2) := e2
      cases a
      cases b
      cases e1
      cases e2
      rfl
end Pf
namespace Pf
open PySem PySem.Spec PyProof.Rows L2
section
variable {X : L2.Cx}
/-- dicts that hold the same, locked or not -/
def rEqDR (b : Bool) : R2 := fun x y H Q => ∃ a c ks ls, x = .ref a ∧ y = .ref c ∧ Rd H a (.dK ks) ∧ Rd H c (.dK ls) ∧ ks.length = ls.length ∧ (∀ p ∈ ks, valV ls p.1 = some p.2 ∧ flatB p.2 = true) ∧ Q (.bl b) H
theorem op_eq_dictR (hu : X.A.units + 64 < cLine) : OpR X (compareOp .Eq) (rEqDR true) := by
  intro pins s σ H x y v u Q I rx ry h
  obtain ⟨a, b, ks, ls, rfl, rfl, ea, eb, hlen, hp, q⟩ := h
  obtain rfl : v = Value.ref a := rx
  obtain rfl : u = Value.ref b := ry
  obtain ⟨_, ya, va, ra, da⟩ := (show ObjOk X.prog X.w H s.heap a (.dK ks) from rd_of I.hok ea)
  obtain ⟨_, yb, vb, rb, db⟩ := (show ObjOk X.prog X.w H s.heap b (.dK ls) from rd_of I.hok eb)
  have hl : va.length = vb.length := by rw [← ra.length, ← rb.length]; exact hlen
  exact PySem.W.keq_eq (knd := mixKind X.prog X.w) (r := true) ya yb da db (by omega) (fun _ => hits_all rb ra hp) (fin_bl I q (by simp [hl]))
theorem op_ne_dictR (hu : X.A.units + 64 < cLine) : OpR X (compareOp .NotEq) (rEqDR false) := by
  intro pins s σ H x y v u Q I rx ry h
  obtain ⟨a, b, ks, ls, rfl, rfl, ea, eb, hlen, hp, q⟩ := h
  obtain rfl : v = Value.ref a := rx
  obtain rfl : u = Value.ref b := ry
  obtain ⟨_, ya, va, ra, da⟩ := (show ObjOk X.prog X.w H s.heap a (.dK ks) from rd_of I.hok ea)
  obtain ⟨_, yb, vb, rb, db⟩ := (show ObjOk X.prog X.w H s.heap b (.dK ls) from rd_of I.hok eb)
  have hl : va.length = vb.length := by rw [← ra.length, ← rb.length]; exact hlen
  exact PySem.W.keq_ne (knd := mixKind X.prog X.w) (r := true) ya yb da db (by omega) (fun _ => hits_all rb ra hp) (fin_bl I q (by simp [hl]))
end
section
variable {K : PySem.W.Frag}
theorem R.same {F : Hp} {v w : V} {x : P} (r : R K F v x) (r' : R K F w x) (h : flatP x = true) : v = w ∧ flatB v = true := by
  cases r <;> first | (cases h; done) | (cases r'; exact ⟨rfl, rfl⟩)
theorem RL.same {F : Hp} : ∀ {vs ws : List V} {xs : List P}, RL K F vs xs → RL K F ws xs → xs.all flatP = true → vs = ws ∧ ∀ v ∈ vs, flatB v = true
  | _, _, _, .nil, .nil, _ => ⟨rfl, fun v h => absurd h List.not_mem_nil⟩
  | _, _, _, .cons r rl, .cons r' rl', h => by
    rw [List.all_cons, Bool.and_eq_true] at h
    obtain ⟨e, hf⟩ := r.same r' h.1
    obtain ⟨e2, hf2⟩ := RL.same rl rl' h.2
    refine ⟨by rw [e, e2], fun u hu => ?_⟩
    rcases List.mem_cons.mp hu with rfl | hu
    · exact hf
    · exact hf2 u hu
theorem valV_zip : ∀ {ks : List Key} {vs : List V}, ks.Nodup → ∀ p ∈ ks.zip vs, valV (ks.zip vs) p.1 = some p.2
  | [], _, _, p, h => absurd h (by simp)
  | k :: ks, [], _, p, h => absurd h (by simp)
  | k :: ks, v :: vs, hn, p, h => by
    obtain ⟨h1, h2⟩ := List.nodup_cons.mp hn
    rw [List.zip_cons_cons] at h ⊢
    rcases List.mem_cons.mp h with rfl | h
    · exact valV_pos rfl
    · rw [valV_neg (show ¬ k = p.1 from fun e => h1 (e ▸ (List.of_mem_zip h).1))]
      exact valV_zip h2 p h
def fDEq (b : Bool) : PF2 := fun x y Q => ∃ ks xs, x = .dct ks xs ∧ y = .dct ks xs ∧ ks.Nodup ∧ xs.all flatP = true ∧ Q (.bl b)
theorem os_eqDR {b : Bool} : OpS K .V (rEqDR b) (fDEq b) := fun F H v w x y Qp Q s r r' ⟨ks, xs, e1, e2, hn, hf, h⟩ q => by
  subst e1
  subst e2
  obtain ⟨a, vs, rfl, ha, l, rl⟩ := Tp.dct s r
  obtain ⟨c, us, rfl, hc, l', rl'⟩ := Tp.dct s r'
  obtain ⟨e, hfv⟩ := RL.same rl rl' hf
  subst e
  exact ⟨a, c, _, _, rfl, rfl, ha, hc, rfl, fun p hp => ⟨valV_zip hn p hp, hfv _ (List.of_mem_zip hp).2⟩, q F H _ _ (.refl s) (R.bl _) h⟩
theorem aq_fDEq {b : Bool} {ks ks' : List Key} {xs xs' : List P} {d d' : List (Str × Int)} [h : ED P.int ks xs d] [h' : ED P.int ks' xs' d'] {Q : P → Prop} : (fDEq b (.dct ks xs) (.dct ks' xs') Q) = (d = d' ∧ (d.map Prod.fst).Nodup ∧ Q (.bl b)) := by
  rw [h.k, h.v, h'.k, h'.v]
  have hk : (d.map fun p => (Sum.inr p.1 : Key)).Nodup ↔ (d.map Prod.fst).Nodup := by
    rw [show (d.map fun p => (Sum.inr p.1 : Key)) = (d.map Prod.fst).map Sum.inr by rw [List.map_map]; rfl]
    unfold List.Nodup
    rw [List.pairwise_map]
    exact ⟨fun h => h.imp fun h e => h (congrArg _ e), fun h => h.imp fun h e => h (Sum.inr.inj e)⟩
  refine propext ⟨fun ⟨ks2, xs2, e1, e2, hn, hf, q⟩ => ?_, fun ⟨e, hn, q⟩ => ?_⟩
  · cases e1
    rw [P.dct.injEq, dI_inj] at e2
    exact ⟨e2.symm, hk.mp hn, q⟩
  · subst e
    exact ⟨_, _, rfl, rfl, hk.mpr hn, by rw [List.all_map]; exact List.all_eq_true.mpr fun _ _ => rfl, q⟩
end
end Pf

namespace Pf
open PySem PySem.Spec PyProof.Rows L2
/-! ### sheets set aside -/
def capU (t e m w : Int) : Int := capI (if e + m < t then e + m else t) e w
def fallP (rs : List (Int × Str)) (z : Str) : List (Int × Int) := sortII ((sheetsI rs z).map fun k => (-(gx rs k).1, k))
def takP (e m w : Int) : List (Int × Int) → Int → List Int
  | [], _ => []
  | p :: r, g => if m ≤ g ∨ capU (-p.1) e m w = 0 then [] else p.2 :: takP e m w r (g + capU (-p.1) e m w)
def lawT (e m w : Int) : List (Int × Int) → Int → List Int
  | [], _ => []
  | p :: r, t => if t < m then p.2 :: lawT e m w r (t + capI (-p.1) e w) else lawT e m w r t
theorem fallP_mem {rs : List (Int × Str)} {z : Str} {p : Int × Int} (h : p ∈ fallP rs z) : (0 ≤ p.2 ∧ p.2 < rs.length) ∧ p.1 = -(gx rs p.2).1 := by
  obtain ⟨k, hk, rfl⟩ := List.mem_map.mp ((sortII_perm _).mem_iff.mp h)
  obtain ⟨j, r, rfl, hj, _⟩ := sheetsI_at hk
  have := (List.getElem?_eq_some_iff.mp hj).1
  exact ⟨⟨by show (0:Int) ≤ (j:Int); omega, by show (j:Int) < _; omega⟩, rfl⟩
theorem fallP_len {rs : List (Int × Str)} {z : Str} {n : Nat} (h : rs.length ≤ n) : (fallP rs z).length ≤ n := by
  unfold fallP
  rw [sortII_len, List.length_map]
  exact sheetsI_len h
theorem lawT_full {e m w : Int} : ∀ {l : List (Int × Int)} {t : Int}, m ≤ t → lawT e m w l t = []
  | [], _, _ => rfl
  | p :: r, t, h => by unfold lawT; rw [if_neg (by omega)]; exact lawT_full h
theorem powI_lt {w : Int} (hw : 1 ≤ w) : ∀ n : Nat, (n : Int) < (w + 1) ^ n
  | 0 => by rw [Int.pow_zero]; decide
  | n + 1 => by
    have h := powI_lt hw n
    rw [Int.pow_succ]
    generalize (w + 1) ^ n = q at h ⊢
    have : q * 2 ≤ q * (w + 1) := Int.mul_le_mul_of_nonneg_left (by omega) (by omega)
    omega
theorem powI_mono {w : Int} (hw : 1 ≤ w) {a : Nat} : ∀ {b : Nat}, a ≤ b → (w + 1) ^ a ≤ (w + 1) ^ b
  | 0, h => by rw [show a = 0 by omega]; exact Int.le_refl _
  | b + 1, h => by
    by_cases e : a = b + 1
    · rw [e]; exact Int.le_refl _
    have h := powI_mono hw (b := b) (a := a) (by omega)
    have h2 := powI_lt hw b
    rw [Int.pow_succ]
    generalize (w + 1) ^ b = q at h h2 ⊢
    have : q * 1 ≤ q * (w + 1) := Int.mul_le_mul_of_nonneg_left (by omega) (by omega)
    omega
theorem capU_lo {t e m w : Int} (hm : 0 ≤ m) (h : t < e) : capU t e m w = 0 := by
  unfold capU
  rw [if_neg (by omega)]
  unfold capI
  rw [if_pos h]
theorem capU_hi {t e m w : Int} (hm : 0 ≤ m) (hw : 1 ≤ w) (h : e ≤ t) : 0 < capU t e m w ∧ (t ≤ e + m → capU t e m w = capI t e w) ∧ (e + m < t → m < capU t e m w ∧ m < capI t e w) := by
  unfold capU capI
  refine ⟨?_, fun h2 => by rw [if_neg (show ¬ e + m < t by omega)], fun h2 => ?_⟩
  · split
    · rw [if_neg (by omega)]
      have := powI_lt hw (e + m - e).toNat
      omega
    · rw [if_neg (by omega)]
      have := powI_lt hw (t - e).toNat
      omega
  · rw [if_pos h2, if_neg (by omega), if_neg (by omega)]
    have h3 := powI_lt hw (e + m - e).toNat
    have h4 := powI_mono hw (a := (e + m - e).toNat) (b := (t - e).toNat) (by omega)
    omega
theorem tak_law {e m w : Int} (hm : 0 ≤ m) (hw : 1 ≤ w) : ∀ {l : List (Int × Int)} {g t : Int}, l.Pairwise leII → 0 ≤ g → (g = t ∨ (m ≤ g ∧ m ≤ t)) → takP e m w l g = lawT e m w (l.filter fun p => decide (e ≤ -p.1)) t
  | [], _, _, _, _, _ => rfl
  | p :: r, g, t, hp, hg, h => by
    obtain ⟨h1, hr⟩ := List.pairwise_cons.mp hp
    unfold takP
    by_cases hgm : m ≤ g
    · rw [if_pos (.inl hgm), lawT_full (by omega)]
    by_cases ht : -p.1 < e
    · rw [if_pos (.inr (capU_lo hm ht))]
      rw [show (p :: r).filter (fun p => decide (e ≤ -p.1)) = [] from List.filter_eq_nil_iff.mpr fun q hq => by
        rw [decide_eq_true_eq]
        rcases List.mem_cons.mp hq with rfl | hq
        · omega
        · have := h1 q hq
          unfold leII at this
          omega]
      rfl
    have hc := capU_hi (t := -p.1) (e := e) hm hw (by omega)
    rw [if_neg (by omega), List.filter_cons_of_pos (p := fun (p : Int × Int) => decide (e ≤ -p.1)) (decide_eq_true (by omega : e ≤ -p.1))]
    show _ = lawT e m w (p :: r.filter fun p => decide (e ≤ -p.1)) t
    unfold lawT
    rw [if_pos (by omega)]
    refine congrArg _ (tak_law hm hw hr (by omega) ?_)
    by_cases hx : -p.1 ≤ e + m
    · exact .inl (by rw [hc.2.1 hx]; omega)
    · have := hc.2.2 (by omega)
      exact .inr ⟨by omega, by omega⟩
theorem takP_sub {e m w : Int} : ∀ {l : List (Int × Int)} {g : Int}, (takP e m w l g).length ≤ l.length
  | [], _ => Nat.le_refl _
  | p :: r, g => by
    unfold takP
    split
    · exact Nat.zero_le _
    · exact Nat.succ_le_succ takP_sub
theorem takP_mem {e m w : Int} : ∀ {l : List (Int × Int)} {g k : Int}, k ∈ takP e m w l g → k ∈ l.map Prod.snd
  | [], _, _, h => h
  | p :: r, g, k, h => by
    unfold takP at h
    split at h
    · exact absurd h List.not_mem_nil
    · rcases List.mem_cons.mp h with rfl | h
      · exact List.mem_cons_self
      · exact List.mem_cons_of_mem _ (takP_mem h)
/-- the law's pairs -/
def fallE (rs : List (Int × Str)) (z : Str) (e : Int) : List (Int × Int) := sortII (((rgI 0 rs.length).filter fun k => decide ((gx rs k).2 = z ∧ e ≤ (gx rs k).1)).map fun k => (0 - (gx rs k).1, k))
theorem fallE_eq {rs : List (Int × Str)} {z : Str} {e : Int} : fallE rs z e = (fallP rs z).filter fun p => decide (e ≤ -p.1) := by
  refine sortII_one ?_ (sortII_pw _) ((sortII_pw _).filter _)
  refine (sortII_perm _).trans ?_
  refine List.Perm.trans ?_ ((sortII_perm _).filter _).symm
  rw [← sheetsI_rg, List.filter_map, List.filter_filter]
  refine List.Perm.of_eq ?_
  have e1 : (fun k : Int => ((0 : Int) - (gx rs k).1, k)) = fun k => (-(gx rs k).1, k) := by funext k; rw [Int.zero_sub]
  rw [e1]
  refine congrArg _ (List.filter_congr fun k _ => ?_)
  show decide _ = (decide (e ≤ - -(gx rs k).1) && decide _)
  rw [Int.neg_neg, Bool.and_comm, ← Bool.decide_and]
def takI (rs : List (Int × Str)) (e m w : Int) (z : Str) : List Int := takP e m w (fallP rs z) 0
theorem takI_law {rs : List (Int × Str)} {e m w : Int} {z : Str} (hm : 0 ≤ m) (hw : 1 ≤ w) : lawT e m w (fallE rs z e) 0 = takI rs e m w z := by
  rw [fallE_eq]
  exact (tak_law hm hw (sortII_pw _) (Int.le_refl _) (.inl rfl)).symm
theorem takI_len {rs : List (Int × Str)} {e m w : Int} {z : Str} {n : Nat} (h : rs.length ≤ n) : (takI rs e m w z).length ≤ n := Nat.le_trans takP_sub (fallP_len h)
def dm (d : List (Str × Int)) (z : Str) : Int := (dget d z).getD 0
def asideI (rs : List (Int × Str)) (e w : Int) (d : List (Str × Int)) : List Int := sortI ((d.map Prod.fst).flatMap fun z => takI rs e (dm d z) w z)
theorem asideI_law {rs : List (Int × Str)} {e w : Int} {d : List (Str × Int)} : sortI ((sortS (d.map Prod.fst)).flatMap fun z => takI rs e (dm d z) w z) = asideI rs e w d :=
  sorted_one (((sortI_perm _).trans ((sortS_perm _).flatMap_right _)).trans (sortI_perm _).symm) (sortI_pw _) (sortI_pw _)
theorem flat_le {α β : Type} {f : α → List β} {n : Nat} : ∀ {l : List α}, (∀ a ∈ l, (f a).length ≤ n) → (l.flatMap f).length ≤ l.length * n
  | [], _ => by simp
  | a :: r, h => by
    rw [List.flatMap_cons, List.length_append, List.length_cons, Nat.add_mul, Nat.one_mul]
    have := h a List.mem_cons_self
    have := flat_le (f := f) (n := n) fun b hb => h b (List.mem_cons_of_mem _ hb)
    omega
/-- the demands below 0, in order -/
def negL (d : List (Str × Int)) : List Str := sortS ((d.map Prod.fst).filter fun z => decide (dm d z < 0))
theorem negL_eq {d : List (Str × Int)} : negL d = (sortS (d.map Prod.fst)).filter fun z => decide (dm d z < 0) :=
  sortedS_one ((sortS_perm _).trans ((sortS_perm _).filter _).symm) (sortS_pw _) ((sortS_pw _).filter _)
def DmR (R : Int → Prop) (d : List (Str × Int)) : Prop := (d.map Prod.fst).Nodup ∧ ∀ p ∈ d, SOk p.1 ∧ R p.2
theorem DmR.nil {R : Int → Prop} : DmR R [] := ⟨List.nodup_nil, fun p h => absurd h List.not_mem_nil⟩
theorem DmR.put {R : Int → Prop} {d : List (Str × Int)} {z : Str} {a : Int} (h : DmR R d) (hz : SOk z) (ha : R a) : DmR R (dput d z a) := by
  refine ⟨dput_nodup h.1, fun p hp => ?_⟩
  unfold dput at hp
  split at hp
  · obtain ⟨q, hq, rfl⟩ := List.mem_map.mp hp
    have := h.2 q hq
    split
    · exact ⟨this.1, ha⟩
    · exact this
  · rcases List.mem_append.mp hp with hp | hp
    · exact h.2 p hp
    · rw [List.mem_singleton.mp hp]; exact ⟨hz, ha⟩
theorem DmR.imp {R S : Int → Prop} {d : List (Str × Int)} (h : DmR R d) (f : ∀ x, R x → S x) : DmR S d := ⟨h.1, fun p hp => ⟨(h.2 p hp).1, f _ (h.2 p hp).2⟩⟩
theorem DmR.sok {R : Int → Prop} {d : List (Str × Int)} (h : DmR R d) : ∀ z ∈ d.map Prod.fst, SOk z := fun z hz => by
  obtain ⟨p, hp, rfl⟩ := List.mem_map.mp hz
  exact (h.2 p hp).1
theorem DmR.dm {R : Int → Prop} {d : List (Str × Int)} (h : DmR R d) : ∀ z ∈ d.map Prod.fst, R (dm d z) := fun z hz => by
  obtain ⟨a, ha⟩ := Option.isSome_iff_exists.mp (dget_mem.mpr hz)
  unfold Pf.dm
  rw [ha]
  exact (h.2 _ (dget_some ha)).2
theorem negL_some {d : List (Str × Int)} {z : Str} {a : Int} (h : dget d z = some a) (ha : a < 0) : negL d ≠ [] := fun e => by
  have h1 : z ∈ d.map Prod.fst := dget_mem.mp (by rw [h]; rfl)
  have : z ∈ negL d := sortS_mem.mpr (List.mem_filter.mpr ⟨h1, decide_eq_true (by unfold Pf.dm; rw [h]; exact ha)⟩)
  rw [e] at this
  exact absurd this List.not_mem_nil
theorem negL_none {d : List (Str × Int)} (h : ∀ z ∈ d.map Prod.fst, 0 ≤ dm d z) : negL d = [] := by
  cases e : negL d with
  | nil => rfl
  | cons z r =>
    have : z ∈ negL d := by rw [e]; exact List.mem_cons_self
    obtain ⟨h1, h2⟩ := List.mem_filter.mp (sortS_mem.mp this)
    have := h z h1
    have := of_decide_eq_true h2
    omega
theorem asideI_len {rs : List (Int × Str)} {e w : Int} {d : List (Str × Int)} {n : Nat} (h : rs.length ≤ n) : (asideI rs e w d).length ≤ d.length * n := by
  unfold asideI
  rw [(sortI_perm _).length_eq]
  have := flat_le (f := fun z => takI rs e (dm d z) w z) (n := n) (l := d.map Prod.fst) fun a _ => takI_len h
  rwa [List.length_map] at this
end Pf
namespace Pf
open PySem PySem.Spec PyProof.Rows L2
/-! #### xs.count(n) -/
def fCount : PMt := fun x xs Q => ∃ (ns : List Int) (k : Int), x = .lst (ns.map P.int) ∧ xs = [.int k] ∧ Q (.int (ns.count k : Nat))
theorem ms_count {K : PySem.W.Frag} {m : Mo} : MtS K .V [m] (rCntI K) fCount := fun F H v vs x xs Qp Q s r r' ⟨ns, k, e1, e2, h⟩ q => by
  obtain ⟨w, y, rfl, rfl, t⟩ := AL.one r'
  cases e2
  subst e1
  obtain rfl := t.int
  obtain ⟨a, ws, rfl, ha, rl⟩ := Tp.lst s r
  obtain rfl := rl.ints
  exact ⟨a, ns, k, rfl, rfl, SqL.of ha, q F H _ _ (.refl s) (R.int _) h⟩
theorem aq_count {xs : List P} {l : List Int} [h : ML xs Int P.int l] {k : Int} {Q : P → Prop} : (fCount (.lst xs) [.int k] Q) = Q (.int (l.count k : Nat)) := by
  unfold fCount
  rw [h.eq]
  simp only [P.lst.injEq, int_inj, List.cons.injEq, P.int.injEq, and_true, exists_and_left, exists_eq_left', exists_eq_left]
end Pf

namespace Pf
open PySem PySem.Spec PyProof.Rows L2
section
variable {K : PySem.W.Frag} {W : WX} {k : Rk} {ro : Bool}
/-! ### x or y, by truth -/
theorem tru_of {F1 H1 : Hp} {v : V} {x : P} {f : Bool → Prop} (hf : Same F1 H1) (r : Tp K F1 H1 v x) (h : onT x f) : ∃ k, TruV K v H1 k ∧ f k := by
  cases x with
  | bl b =>
    obtain ⟨b', rfl, e, h⟩ := onB_of r (show onB (.bl b) f from h)
    cases e
    exact ⟨b, rfl, h⟩
  | non =>
    have e : v = .non := by
      rcases r with r | ⟨_, _, _, _, c⟩
      · cases r; rfl
      · exact c.elim
    subst e
    exact ⟨false, rfl, h⟩
  | int i =>
    have e : v = .int i := by
      rcases r with r | ⟨_, _, _, _, c⟩
      · cases r; rfl
      · exact c.elim
    subst e
    exact ⟨_, rfl, h⟩
  | str z =>
    obtain ⟨rfl, sz⟩ := r.str
    exact ⟨_, ⟨sz.1, rfl⟩, h⟩
  | lst xs =>
    obtain ⟨a, vs, rfl, ha, rl⟩ := Tp.lst hf r
    exact ⟨_, .inl ⟨vs, SqL.of ha, by rw [rl.emp]⟩, h⟩
  | tup xs =>
    obtain ⟨ys, a, vs, e, rfl, ha, rl, h1⟩ := onTup_of hf r (show onTup (.tup xs) (fun ys => f (!ys.isEmpty)) from h)
    exact ⟨_, .inr (.inl ⟨vs, SqT.of (hf _ _ ha), by rw [rl.emp]⟩), h1⟩
  | _ => exact (show False from h).elim
def wOrT (a b : WE) : WE := fun env Q X => a env (fun x => onT x fun c => if c = true then Q x else b env Q X) X
theorem se_orT {ta tb : TE} {wa wb : WE} (ha : SE K W .C ta wa) (hb : SE K W .C tb wb) : SE K W .C (tOrT K ta tb) (wOrT wa wb) :=
  fun F0 H0 σ F H env Qp Xp Q g hw hx q => ha F0 H0 σ F H env _ Xp _ g hw hx fun F1 H1 v x m1 r1 h1 => by
    obtain ⟨c, tr, h⟩ := tru_of m1.fh r1 h1
    refine ⟨c, tr, ?_⟩
    cases c with
    | true => exact iteT (q F1 H1 _ _ m1 r1 (by simpa using h))
    | false => exact iteF (hb F0 H0 σ F1 H1 env Qp Xp Q (g.mv m1) (by simpa using h) (hx.mv m1) fun F2 H2 u z m2 r2 h2 => q F2 H2 u z (m1.trans m2) (rel_back m1.s r2) h2)
theorem ap_orT {a b : WE} {env : PEnv} {Q : P → Prop} {X : XP} : (wOrT a b env Q X) = (a env (fun x => onT x fun c => if c = true then Q x else b env Q X) X) := rfl
theorem ap_onTN {Q : Bool → Prop} : (onT .non Q) = Q false := rfl
theorem ap_onTL {xs : List P} {Q : Bool → Prop} : (onT (.lst xs) Q) = Q (!xs.isEmpty) := rfl
end
end Pf
namespace Pf
open PySem PySem.Spec PyProof.Rows L2
section
variable {K : PySem.W.Frag} {W : WX} {k : Rk} {ro : Bool}
/-! ### range of two as a value -/
def fRng2 : PFn := fun xs Q => ∃ i j : Int, xs = [.int i, .int j] ∧ Q (.rng i j)
theorem cs_rng2 {m m' : Mo} : CallS K .V [m, m'] (fun vs H Q => ∃ i j, vs = [V.int i, V.int j] ∧ ∀ p, H p = none → Q (.ref p) (upd H p (.rng i j))) fRng2 := fun F H vs xs Qp Q s r ⟨i, j, e, h⟩ q => by
  subst e
  obtain ⟨v, vs', x, xs', rfl, ex, t, r2⟩ := AL.cons r
  obtain ⟨w, y, rfl, rfl, t'⟩ := AL.one r2
  cases ex
  obtain rfl := t.int
  obtain rfl := t'.int
  refine ⟨i, j, rfl, fun p np => ?_⟩
  have m2 := mv_frz (o := .rng i j) s np
  exact q _ _ _ _ m2 (R.rng upd_same) h
theorem ap_fRng2 {i j : Int} {Q : P → Prop} : (fRng2 [.int i, .int j] Q) = Q (.rng i j) := propext ⟨fun ⟨_, _, e, q⟩ => by cases e; exact q, fun q => ⟨_, _, rfl, q⟩⟩
end
end Pf
namespace Pf
open PySem PySem.Spec PyProof.Rows L2
section
variable {X : Cx}
/-! ### xs[a::k] -/
def stpIx (n : Nat) (lo : Option Int) (k : Int) : List Nat := sliceRange (sliceBounds lo none (some k) n).1 (sliceBounds lo none (some k) n).2.1 (sliceBounds lo none (some k) n).2.2
def stpL {α : Type} (xs : List α) (lo : Option Int) (k : Int) : List α := (stpIx xs.length lo k).filterMap (xs[·]?)
theorem stpL_mem {α : Type} {xs : List α} {lo : Option Int} {k : Int} {x : α} (h : x ∈ stpL xs lo k) : x ∈ xs := by
  obtain ⟨i, -, hi⟩ := List.mem_filterMap.mp h
  exact List.mem_of_getElem? hi
def tStp (K : PySem.W.Frag) (te : TE) (tl : TO) (k : Int) : TE := fun σ H Q => te σ H fun x H1 => tl σ H1 fun l H2 => ∃ a xs, x = .ref a ∧ SqL K H2 a xs ∧ ∀ p, H2 p = none → Q (.ref p) (upd H2 p (.lst (stpL xs l k)))
theorem vals_pick : ∀ {xs : List V} {us : List Value} (is : List Nat), Vals xs us → Vals (is.filterMap (xs[·]?)) (is.filterMap (us[·]?))
  | _, _, [], _ => .nil
  | xs, us, i :: is, r => by
    have ih := vals_pick is r
    rw [List.filterMap_cons, List.filterMap_cons]
    cases e : xs[i]? with
    | none =>
      have e2 : us[i]? = none := by
        rw [List.getElem?_eq_none_iff] at e ⊢
        rw [← r.length]; exact e
      rw [e2]
      exact ih
    | some x =>
      obtain ⟨u, hu, ru⟩ := r.get e
      rw [hu]
      exact .cons ru ih
theorem pe_stp {e : Expr} {te : TE} {lo : Option Expr} {tl : TO} {k : Int} {kk : Tok} {p1 p3 pos : Pos} (h0 : k ≠ 0) (he : PE X e te) (hl : PO X lo tl) : PE X (.Subscript e (.Slice lo none (some (.Constant (.int k) kk p1)) p3) pos) (tStp X.K te tl k) := by
  refine ⟨fun pins s σ H Q I h => ?_⟩
  refine Subscript_ (thn (he.run pins s σ H _ I h) fun v s1 ⟨x, H1, I1, r1, q1⟩ => ?_)
  refine wpAny_Slice (thn (hl.run pins s1 σ H1 _ I1 q1) fun vl s2 ⟨l, H2, I2, pl, q2⟩ => ?_)
  obtain ⟨a, xs, ex, hx, q⟩ := q2
  subst ex
  cases r1
  have hst : PO X (some (.Constant (.int k) kk p1)) (tPart (tC (.int k))) := po_some pe_int
  refine thn (po_none.run pins s2 σ H2 (fun o H3 => o = none ∧ H3 = H2) I2 ⟨rfl, rfl⟩) fun vu s3 ⟨u, H3, I3, pu, eu, e3⟩ => ?_
  subst eu e3
  refine thn (hst.run pins s3 σ H3 (fun o H4 => o = some k ∧ H4 = H3) I3 ⟨k, rfl, rfl, rfl⟩) fun vs s4 ⟨o, H4, I4, ps, eo, e4⟩ => ?_
  subst eo e4
  have I5 : Inv X pins σ H4 { s4 with heap := s4.heap.push { cls := .type "slice", data := .fields #[vl, vu, vs] } } := I4.kept (t' := s4.toks) fun b ob q => Heap.get?_push_of_some _ q
  obtain ⟨its, r, ht, hz⟩ := I5.list hx
  have hlen := r.length
  show wpAny (model X.prog X.w) X.A (subscriptTail e (.Slice lo none (some (.Constant (.int k) kk p1)) p3) (.ref a) (.ref s4.heap.objs.size)) (EP X pins σ Q) X.xe { s4 with heap := s4.heap.push { cls := .type "slice", data := .fields #[vl, vu, vs] } }
  refine tail_any (ops := [.ref a, .ref s4.heap.objs.size]) ht.isList.typeIs (PySem.slot_list_getitem.lookup) ?_ (by with_unfolding_all rfl)
  refine wpAny_getItem_list_slice ht.isList (Heap.IsSliceOf.new _ vl vu vs) pl pu ps (fun e => h0 (Option.some.inj e)) ?_ (by rw [List.size_toArray]; omega)
  have hv : Vals (stpL xs l k) ((stpIx its.toArray.size l k).filterMap (its.toArray[·]?)) := by
    have := vals_pick (stpIx xs.length l k) r
    unfold stpL
    rw [List.size_toArray, ← hlen]
    simp only [List.getElem?_toArray]
    exact this
  refine ⟨.ref _, _, I5.laid (t' := s4.toks) (o := .lst (stpL xs l k)) (fun b ob q => Heap.get?_push_of_some _ q) (Nat.le_refl _) ?_, rfl, q _ (I5.hok.fresh (Nat.le_refl _))⟩
  have hsz := slicePick_size_le its.toArray l none (some k)
  refine ⟨?_, _, 0, hv, Heap.get?_push_size _ rfl⟩
  have h2 := hv.length
  have h3 : ((stpIx its.toArray.size l k).filterMap (its.toArray[·]?)).length ≤ its.toArray.size := by
    have := hsz
    unfold slicePick at this
    rw [List.size_toArray] at this
    exact this
  have e9 : its.toArray.size = its.length := List.size_toArray ..
  omega
end
end Pf
namespace Pf
open PySem PySem.Spec PyProof.Rows L2
section
variable {K : PySem.W.Frag} {W : WX} {k : Rk} {ro : Bool}
theorem RL.pick {F : Hp} {vs : List V} {xs : List P} : ∀ (is : List Nat), RL K F vs xs → RL K F (is.filterMap (vs[·]?)) (is.filterMap (xs[·]?))
  | [], _ => .nil
  | i :: is, r => by
    have ih := RL.pick is r
    rw [List.filterMap_cons, List.filterMap_cons]
    cases e : xs[i]? with
    | none =>
      have e2 : vs[i]? = none := by
        rw [List.getElem?_eq_none_iff] at e ⊢
        rw [r.len]; exact e
      rw [e2]
      exact ih
    | some x =>
      obtain ⟨v, hv, rv⟩ := r.get' e
      rw [hv]
      exact .cons rv ih
def wStp (a : WE) (l : WO) (k : Int) : WE := fun env Q X => a env (fun x => l env (fun lo => onLst x fun xs => Q (.lst (stpL xs lo k))) X) X
theorem se_stp {te : TE} {tl : TO} {a : WE} {l : WO} {k : Int} (ha : SE K W .C te a) (hl : SimO K W tl l) : SE K W .O (tStp K te tl k) (wStp a l k) := fun F0 H0 σ F H env Qp Xp Q g hw hx q =>
  ha F0 H0 σ F H env _ Xp _ g hw hx fun F1 H1 v x m1 r1 h1 => hl F0 H0 σ F1 H1 env _ Xp _ (g.mv m1) h1 (hx.mv m1) fun F2 H2 lo m2 h2 => by
    obtain ⟨xs, b, vs, rfl, rfl, hb, r, h2⟩ := onLst_of m2.fh (Tp.mv m2 r1) h2
    have rr : RL K F2 (stpL vs lo k) (stpL xs lo k) := by
      unfold stpL
      rw [r.len]
      exact RL.pick _ r
    have m := m1.trans m2
    exact ⟨b, vs, rfl, SqL.of hb, fun p np => q F2 _ _ (.lst (stpL xs lo k)) (m.trans (mv_new m2.fh np)) (.inl ⟨p, _, rfl, m.s.free np, same_free m2.fh np, upd_same, .l rr⟩) h2⟩
theorem ap_stp {a : WE} {l : WO} {k : Int} {env : PEnv} {Q : P → Prop} {X : XP} : (wStp a l k env Q X) = (a env (fun x => l env (fun lo => onLst x fun xs => Q (.lst (stpL xs lo k))) X) X) := rfl
theorem stpL_map {α β : Type} {f : α → β} {xs : List α} {lo : Option Int} {k : Int} : stpL (xs.map f) lo k = (stpL xs lo k).map f := by
  unfold stpL
  rw [List.length_map, List.map_filterMap]
  simp only [List.getElem?_map]
end
end Pf

namespace Pf
open PySem PySem.Spec PyProof.Rows L2
/-! ### the first reason -/
def capSU (ls : List Int) (e m w : Int) : Int := (ls.map fun l => capU l e m w).sum
def lvZ (rs : List (Int × Str)) (z : Str) : List (Int × Str) := rs.filter fun r => decide (r.2 = z)
def hgtL (sp : List Int) (e : Int) : List Int → P
  | [] => .non
  | h :: r => if cntM sp h < h + 1 - e then .tup [.str (Str.ofString "height"), .int h, .int (cntM sp h)] else hgtL sp e r
def recL (f : Str → Int) (d : List (Str × Int)) : List Str → Option P
  | [] => none
  | z :: r => if f z < dm d z then some (.tup [.str (Str.ofString "record"), .str z, .int (f z)]) else recL f d r
theorem hgtL_cons {sp : List Int} {e h : Int} {r : List Int} : hgtL sp e (h :: r) = if cntM sp h < h + 1 - e then .tup [.str (Str.ofString "height"), .int h, .int (cntM sp h)] else hgtL sp e r := rfl
theorem recL_cons {f : Str → Int} {d : List (Str × Int)} {z : Str} {r : List Str} : recL f d (z :: r) = if f z < dm d z then some (.tup [.str (Str.ofString "record"), .str z, .int (f z)]) else recL f d r := rfl
def totI (d : List (Str × Int)) : Int := ((d.map Prod.fst).map (dm d)).sum
def trP (rs : List (Int × Str)) (t e w : Int) (d : List (Str × Int)) : P :=
  if (rs.length : Int) < totI d then .tup [.str (Str.ofString "total"), .int (totI d)]
  else if capSU (rs.map Prod.fst) e rs.length w < rs.length then .tup [.str (Str.ofString "reach"), .int (capSU (rs.map Prod.fst) e rs.length w)]
  else (recL (fun z => capSU ((lvZ rs z).map Prod.fst) e (dm d z) w) d (sortS (d.map Prod.fst))).getD (hgtL (spareL (rs.map Prod.fst) (asideI rs e w d)) e (rgI e (t - e).toNat))
/-- the law's -/
def trQ (rs : List (Int × Str)) (t e w : Int) (d : List (Str × Int)) : P :=
  if (rs.length : Int) < totI d then .tup [.str (Str.ofString "total"), .int (totI d)]
  else if capS (rs.map Prod.fst) e w < rs.length then .tup [.str (Str.ofString "reach"), .int (capS (rs.map Prod.fst) e w)]
  else (recL (fun z => capS ((lvZ rs z).map Prod.fst) e w) d (sortS (d.map Prod.fst))).getD (hgtL (spareL (rs.map Prod.fst) (asideI rs e w d)) e (rgI e (t - e).toNat))
theorem capSU_cmp {e m w : Int} (hm : 0 ≤ m) (hw : 1 ≤ w) : ∀ (ls : List Int), 0 ≤ capSU ls e m w ∧ capSU ls e m w ≤ capS ls e w ∧ (capSU ls e m w < m → capSU ls e m w = capS ls e w)
  | [] => ⟨Int.le_refl _, Int.le_refl _, fun _ => rfl⟩
  | x :: r => by
    obtain ⟨h0, h1, h2⟩ := capSU_cmp (e := e) hm hw r
    have e1 : capSU (x :: r) e m w = capU x e m w + capSU r e m w := by unfold capSU; rw [List.map_cons, List.sum_cons]
    have e2 : capS (x :: r) e w = capI x e w + capS r e w := capS_cons
    rw [e1, e2]
    by_cases hx : x < e
    · have a1 := capU_lo (w := w) hm hx
      have a2 : capI x e w = 0 := by unfold capI; rw [if_pos hx]
      exact ⟨by omega, by omega, fun h => by omega⟩
    · obtain ⟨b1, b2, b3⟩ := capU_hi (t := x) (e := e) hm hw (by omega)
      by_cases hx2 : x ≤ e + m
      · have := b2 hx2
        exact ⟨by omega, by omega, fun h => by omega⟩
      · have := b3 (by omega)
        have hle : capU x e m w ≤ capI x e w := by
          unfold capU
          rw [if_pos (by omega)]
          exact capI_mono hw (by omega)
        exact ⟨by omega, by omega, fun h => by omega⟩
theorem recL_eq {f g : Str → Int} {d : List (Str × Int)} (h : ∀ z, (f z < dm d z ↔ g z < dm d z) ∧ (f z < dm d z → f z = g z)) : ∀ l, recL f d l = recL g d l
  | [] => rfl
  | z :: r => by
    unfold recL
    by_cases hz : f z < dm d z
    · rw [if_pos hz, if_pos ((h z).1.mp hz), (h z).2 hz]
    · rw [if_neg hz, if_neg (fun k => hz ((h z).1.mpr k))]
      exact recL_eq h r
theorem trQ_eq {rs : List (Int × Str)} {t e w : Int} {d : List (Str × Int)} (hw : 1 ≤ w) (hd : ∀ z, 0 ≤ dm d z) : trQ rs t e w d = trP rs t e w d := by
  unfold trQ trP
  obtain ⟨h0, h1, h2⟩ := capSU_cmp (e := e) (m := (rs.length : Int)) (by omega) hw (rs.map Prod.fst)
  rw [recL_eq (f := fun z => capS ((lvZ rs z).map Prod.fst) e w) (g := fun z => capSU ((lvZ rs z).map Prod.fst) e (dm d z) w) fun z => by
    obtain ⟨h0, h1, h2⟩ := capSU_cmp (e := e) (m := dm d z) (hd z) hw ((lvZ rs z).map Prod.fst)
    exact ⟨⟨fun h => by show _ < _; omega, fun h => by have := h2 h; show _ < _; omega⟩, fun h => (h2 (by omega)).symm⟩]
  split
  · rfl
  · by_cases hc : capSU (rs.map Prod.fst) e rs.length w < rs.length
    · have := h2 hc
      rw [if_pos hc, if_pos (by omega), this]
    · rw [if_neg hc, if_neg (by omega)]
theorem cnt_two {rs : List (Int × Str)} {as : List Int} {h : Int} : (((rgI 0 rs.length).filter fun k => decide (k ∉ as ∧ (gx rs k).1 ≤ h)).length : Int) = cntM (spareL (rs.map Prod.fst) as) h := by
  unfold cntM
  rw [← spareL_range, show (rs.map Prod.fst).length = rs.length from List.length_map _, List.filter_map, List.length_map, List.filter_filter]
  refine congrArg Nat.cast (congrArg List.length (List.filter_congr fun k hk => ?_))
  have hk := rgI_mem.mp hk
  show decide _ = (decide (gx (rs.map Prod.fst) k ≤ h) && decide _)
  rw [gx_fst (by omega) (by omega), Bool.and_comm, ← Bool.decide_and]
def isRs (x : P) : Prop := x = .non ∨ (∃ (a : Str) (i : Int), x = .tup [.str a, .int i]) ∨ (∃ (a b : Str) (i : Int), x = .tup [.str a, .str b, .int i]) ∨ ∃ (a : Str) (b i : Int), x = .tup [.str a, .int b, .int i]
theorem hgtL_rs {sp : List Int} {e : Int} : ∀ l, isRs (hgtL sp e l)
  | [] => .inl rfl
  | h :: r => by
    rw [hgtL_cons]
    split
    · exact .inr (.inr (.inr ⟨_, _, _, rfl⟩))
    · exact hgtL_rs r
theorem recL_rs {f : Str → Int} {d : List (Str × Int)} : ∀ l x, recL f d l = some x → isRs x
  | [], x, h => by cases h
  | z :: r, x, h => by
    rw [recL_cons] at h
    split at h
    · cases h
      exact .inr (.inr (.inl ⟨_, _, _, rfl⟩))
    · exact recL_rs r x h
theorem trP_rs {rs : List (Int × Str)} {t e w : Int} {d : List (Str × Int)} : isRs (trP rs t e w d) := by
  unfold trP
  split
  · exact .inr (.inl ⟨_, _, rfl⟩)
  · split
    · exact .inr (.inl ⟨_, _, rfl⟩)
    · generalize hr : recL (fun z => capSU ((lvZ rs z).map Prod.fst) e (dm d z) w) d (sortS (d.map Prod.fst)) = o
      cases o with
      | none => exact hgtL_rs _
      | some x => exact recL_rs _ _ hr
/-! ### outcomes -/
def repL (rs : List (Int × Str)) : List Str := (recsI rs).filter fun z => decide (1 < (cntR rs z : Int))
def ordP (rs : List (Int × Str)) : List (Int × Int) := sortII (rs.zipIdx.map fun p => (p.1.1, (p.2 : Int)))
theorem ordP_len {rs : List (Int × Str)} : (ordP rs).length = rs.length := by unfold ordP; rw [sortII_len, List.length_map, List.length_zipIdx]
theorem ordP_mem {rs : List (Int × Str)} {p : Int × Int} (h : p ∈ ordP rs) : (0 ≤ p.2 ∧ p.2 < rs.length) ∧ (gx rs p.2).1 = p.1 := by
  obtain ⟨q, hq, rfl⟩ := List.mem_map.mp ((sortII_perm _).mem_iff.mp h)
  obtain ⟨j, hj⟩ := List.mem_iff_getElem?.mp hq
  rw [List.getElem?_zipIdx] at hj
  cases e : rs[j]? with
  | none => rw [e] at hj; cases hj
  | some r =>
    rw [e] at hj
    cases hj
    have hl := (List.getElem?_eq_some_iff.mp e).1
    refine ⟨⟨by show (0 : Int) ≤ ((0 + j : Nat) : Int); omega, by show ((0 + j : Nat) : Int) < _; omega⟩, ?_⟩
    show (gx rs ((0 + j : Nat) : Int)).1 = r.1
    rw [Nat.zero_add, gx_get hl]
    exact congrArg Prod.fst (List.getElem?_eq_some_iff.mp e).2
def zerB (ls xs : List Int) (e : Int) : List Int → Bool
  | [] => true
  | h :: r => if (((xs.take (cntM ls h).toNat).count 0 : Nat) : Int) < h + 1 - e then false else zerB ls xs e r
theorem zerB_cons {ls xs : List Int} {e h : Int} {r : List Int} : zerB ls xs e (h :: r) = if (((xs.take (cntM ls h).toNat).count 0 : Nat) : Int) < h + 1 - e then false else zerB ls xs e r := rfl
def outB (rs : List (Int × Str)) (e w : Int) (xs : List Int) : Bool :=
  if ¬ e ∈ rgI (lowI (rs.map Prod.fst)) (highI (rs.map Prod.fst) w + 1 - lowI (rs.map Prod.fst)).toNat then false
  else if ¬ (xs.length : Int) = (rs.length : Int) then false
  else if ¬ xs.sum = (rs.length : Int) then false
  else if (((xs.zip ((ordP rs).map fun p => capI p.1 e w)).map fun p => decide (0 ≤ p.1 ∧ p.1 ≤ p.2)).all id) = false then false
  else zerB (rs.map Prod.fst) xs e (rgI e (maxI (rs.map Prod.fst) - e).toNat)
theorem setR_mem {rs : List (Int × Str)} {r : Int × Str} {is : List Int} : ∀ q ∈ setR rs r is, q ∈ rs ∨ q = r := by
  induction is generalizing rs with
  | nil => exact fun q hq => .inl hq
  | cons i is ih =>
    unfold setR
    intro q hq
    rcases ih q hq with hq | hq
    · rcases List.mem_or_eq_of_mem_set hq with hq | hq
      · exact .inl hq
      · exact .inr hq
    · exact .inr hq
theorem aft_bw {rs : List (Int × Str)} {s : Int} {ts : List Int} {lo hi : Int} (h : wfB rs.length s ts = true) (hb : ∀ r ∈ rs, lo ≤ r.1 ∧ r.1 ≤ hi) : ∀ r ∈ aftR rs s ts, lo - 1 ≤ r.1 ∧ r.1 ≤ hi := fun r hr => by
  have h1 := (wfB_in h).1
  have hs := hb _ (gx_mem (l := rs) (i := s) ⟨by omega, h1.2⟩)
  rcases setR_mem r hr with h2 | rfl
  · have := hb r h2
    omega
  · exact ⟨by show lo - 1 ≤ (gx rs s).1 - 1; omega, by show (gx rs s).1 - 1 ≤ hi; omega⟩
theorem aftL_bw {hi : Int} : ∀ {ds : List (Int × List Int)} {rs : List (Int × Str)} {lo : Int}, (∀ d ∈ ds, wfB rs.length d.1 d.2 = true) → (∀ r ∈ rs, lo ≤ r.1 ∧ r.1 ≤ hi) → ∀ r ∈ aftL rs ds, lo - (ds.length : Int) ≤ r.1 ∧ r.1 ≤ hi
  | [], rs, lo, _, hb, r, hr => by
    have := hb r hr
    simp only [List.length_nil]
    omega
  | d :: ds, rs, lo, hd, hb, r, hr => by
    have := aftL_bw (ds := ds) (rs := aftR rs d.1 d.2) (lo := lo - 1) (fun e he => by rw [aftR_len]; exact hd e (List.mem_cons_of_mem _ he)) (aft_bw (hd d List.mem_cons_self) hb) r hr
    simp only [List.length_cons]
    omega
def ordL (ls : List Int) : List (Int × Int) := sortII (ls.zipIdx.map fun p => (p.1, (p.2 : Int)))
theorem ordP_L {rs : List (Int × Str)} : ordP rs = ordL (rs.map Prod.fst) := by
  unfold ordP ordL
  rw [List.zipIdx_map, List.map_map]
  rfl
theorem idx_pairs {ls : List Int} : (rgI 0 ls.length).map (fun k => (gx ls k, k)) = ls.zipIdx.map fun p => (p.1, (p.2 : Int)) := by
  refine List.ext_getElem? fun i => ?_
  rw [List.getElem?_map, List.getElem?_map, List.getElem?_zipIdx]
  by_cases h : i < ls.length
  · rw [rgI_at h, List.getElem?_eq_getElem h]
    show some (gx ls (0 + (i : Int)), (0 + (i : Int))) = some (ls[i], ((0 + i : Nat) : Int))
    rw [Int.zero_add, Nat.zero_add, gx_get h]
  · have a : (rgI 0 ls.length)[i]? = none := List.getElem?_eq_none (by rw [rgI_len]; omega)
    have b : ls[i]? = none := List.getElem?_eq_none (by omega)
    rw [a, b]
    rfl
theorem ord_done {ls o : List Int} (h1 : (o.map fun k => (gx ls k, k)).Pairwise leII) (h2 : o.Nodup) (h3 : ∀ k, k ∈ o ↔ 0 ≤ k ∧ k < (ls.length : Int)) : o.map (fun k => (gx ls k, k)) = ordL ls := by
  have hp : o.Perm (rgI 0 ls.length) := (List.perm_ext_iff_of_nodup h2 (List.Pairwise.imp (fun h => by omega) (rgI_pw (a := 0) (n := ls.length)))).mpr fun k => by rw [h3, rgI_mem]; omega
  refine sortII_one ?_ h1 (sortII_pw _)
  unfold ordL
  rw [← idx_pairs]
  exact (hp.map _).trans (sortII_perm _).symm
theorem ord_snd {ls o : List Int} (h : o.map (fun k => (gx ls k, k)) = ordL ls) : (ordL ls).map Prod.snd = o := by
  rw [← h, List.map_map]
  exact List.map_id' _
/-- one more index of the order -/
theorem ord_step {ls o s : List Int} {i : Nat} {m j : Int} (hm : s[i]? = some m) (hs : s.Pairwise (· ≤ ·)) (hj : 0 ≤ j) (hl : j < (ls.length : Int))
    (h1 : (o.map fun k => (gx ls k, k)).Pairwise leII) (h2 : o.Nodup) (h3 : ∀ k, k ∈ o ↔ (0 ≤ k ∧ k < (ls.length : Int)) ∧ (gx ls k ∈ s.take i ∨ (gx ls k = m ∧ k < j))) :
    (gx ls j = m ∧ j ∉ o → ((o ++ [j]).map fun k => (gx ls k, k)).Pairwise leII ∧ (o ++ [j]).Nodup ∧ ∀ k, k ∈ o ++ [j] ↔ (0 ≤ k ∧ k < (ls.length : Int)) ∧ (gx ls k ∈ s.take i ∨ (gx ls k = m ∧ k < j + 1))) ∧
    (¬ (gx ls j = m ∧ j ∉ o) → ∀ k, k ∈ o ↔ (0 ≤ k ∧ k < (ls.length : Int)) ∧ (gx ls k ∈ s.take i ∨ (gx ls k = m ∧ k < j + 1))) := by
  have hle : ∀ x ∈ s.take i, x ≤ m := fun x hx => by
    obtain ⟨a, ha⟩ := List.mem_iff_getElem?.mp hx
    rw [List.getElem?_take] at ha
    split at ha
    · rename_i hai
      obtain ⟨p1, p2⟩ := List.getElem?_eq_some_iff.mp ha
      obtain ⟨p3, p4⟩ := List.getElem?_eq_some_iff.mp hm
      have := List.pairwise_iff_getElem.mp hs a i p1 p3 hai
      omega
    · cases ha
  constructor
  · rintro ⟨e, hn⟩
    have hnt : gx ls j ∉ s.take i := fun h => hn ((h3 j).mpr ⟨⟨hj, hl⟩, .inl h⟩)
    refine ⟨?_, ?_, fun k => ?_⟩
    · rw [List.map_append]
      refine List.pairwise_append.mpr ⟨h1, List.pairwise_singleton _ _, fun p hp q hq => ?_⟩
      rw [List.map_singleton, List.mem_singleton] at hq
      subst hq
      obtain ⟨k, hk, rfl⟩ := List.mem_map.mp hp
      rcases ((h3 k).mp hk).2 with h | ⟨h, hkj⟩
      · have := hle _ h
        by_cases he : gx ls k = m
        · rw [e] at hnt
          rw [he] at h
          exact absurd h hnt
        · exact .inl (by show gx ls k < gx ls j; omega)
      · exact .inr ⟨by show gx ls k = gx ls j; omega, by show k ≤ j; omega⟩
    · refine List.nodup_append.mpr ⟨h2, List.pairwise_singleton _ _, fun a ha b hb => ?_⟩
      rw [List.mem_singleton] at hb
      rintro rfl
      rw [hb] at ha
      exact hn ha
    · rw [List.mem_append, List.mem_singleton, h3 k]
      constructor
      · rintro (⟨a, b | ⟨b, c⟩⟩ | rfl)
        · exact ⟨a, .inl b⟩
        · exact ⟨a, .inr ⟨b, by omega⟩⟩
        · exact ⟨⟨hj, hl⟩, .inr ⟨e, by omega⟩⟩
      · rintro ⟨a, b | ⟨b, c⟩⟩
        · exact .inl ⟨a, .inl b⟩
        · by_cases hkj : k = j
          · exact .inr hkj
          · exact .inl ⟨a, .inr ⟨b, by omega⟩⟩
  · intro hn k
    rw [h3 k]
    constructor
    · rintro ⟨a, b | ⟨b, c⟩⟩
      · exact ⟨a, .inl b⟩
      · exact ⟨a, .inr ⟨b, by omega⟩⟩
    · rintro ⟨a, b | ⟨b, c⟩⟩
      · exact ⟨a, .inl b⟩
      · by_cases hkj : k = j
        · subst hkj
          by_cases hko : k ∈ o
          · exact (h3 k).mp hko
          · exact absurd ⟨b, hko⟩ hn
        · exact ⟨a, .inr ⟨b, by omega⟩⟩
theorem zerB_iff {ls xs : List Int} {e : Int} : ∀ hs, zerB ls xs e hs = true ↔ ∀ h ∈ hs, h + 1 - e ≤ (((xs.take (cntM ls h).toNat).count 0 : Nat) : Int)
  | [] => ⟨fun _ h hh => absurd hh List.not_mem_nil, fun _ => rfl⟩
  | h :: r => by
    rw [zerB_cons]
    split
    · rename_i hc
      refine ⟨fun k => Bool.noConfusion k, fun k => ?_⟩
      have := k h List.mem_cons_self
      omega
    · rename_i hc
      rw [zerB_iff r]
      refine ⟨fun k x hx => ?_, fun k x hx => k x (List.mem_cons_of_mem _ hx)⟩
      rcases List.mem_cons.mp hx with rfl | hx
      · omega
      · exact k x hx
def outS (ls : List Int) (e w : Int) (xs : List Int) : Bool :=
  if ¬ e ∈ rgI (lowI ls) (highI ls w + 1 - lowI ls).toNat then false
  else if ¬ (xs.length : Int) = (ls.length : Int) then false
  else if ¬ xs.sum = (ls.length : Int) then false
  else if (((xs.zip (ls.map fun l => capI l e w)).map fun p => decide (0 ≤ p.1 ∧ p.1 ≤ p.2)).all id) = false then false
  else zerB ls xs e (rgI e (maxI ls - e).toNat)
theorem zip_all {xs ls : List Int} {f : Int → Int} (h : xs.length = ls.length) : (((xs.zip (ls.map f)).map fun p => decide (0 ≤ p.1 ∧ p.1 ≤ p.2)).all id) = true ↔ ∀ k : Int, 0 ≤ k → k < (ls.length : Int) → 0 ≤ gx xs k ∧ gx xs k ≤ f (gx ls k) := by
  rw [List.all_eq_true]
  constructor
  · intro h1 k hk0 hk1
    have hx : k.toNat < xs.length := by omega
    have hl : k.toNat < ls.length := by omega
    have hg : gx xs k = xs[k.toNat] := by rw [gx_nn hk0, List.getElem?_eq_getElem hx]; rfl
    have hg2 : gx ls k = ls[k.toNat] := by rw [gx_nn hk0, List.getElem?_eq_getElem hl]; rfl
    have := h1 (decide (0 ≤ gx xs k ∧ gx xs k ≤ f (gx ls k))) (List.mem_map.mpr ⟨(gx xs k, f (gx ls k)), List.mem_iff_getElem?.mpr ⟨k.toNat, by
      rw [List.getElem?_zip_eq_some, List.getElem?_map, List.getElem?_eq_getElem hx, List.getElem?_eq_getElem hl, hg, hg2]
      exact ⟨rfl, rfl⟩⟩, rfl⟩)
    exact of_decide_eq_true this
  · rintro h1 b hb
    obtain ⟨p, hp, rfl⟩ := List.mem_map.mp hb
    obtain ⟨i, hi⟩ := List.mem_iff_getElem?.mp hp
    rw [List.getElem?_zip_eq_some, List.getElem?_map] at hi
    obtain ⟨hx, hl⟩ := hi
    have hxl := (List.getElem?_eq_some_iff.mp hx).1
    have hk := h1 (i : Int) (by omega) (by omega)
    rw [gx_get hxl, gx_get (by omega : i < ls.length)] at hk
    rw [List.getElem?_eq_getElem (by omega : i < ls.length)] at hl
    have e1 : p.1 = xs[i] := (List.getElem?_eq_some_iff.mp hx).2.symm
    have e2 : p.2 = f ls[i] := (Option.some.inj hl).symm
    show decide (0 ≤ p.1 ∧ p.1 ≤ p.2) = true
    rw [e1, e2]
    exact decide_eq_true hk
theorem outS_iff {ls xs : List Int} {e w : Int} : outS ls e w xs = true ↔ (lowI ls ≤ e ∧ e ≤ highI ls w) ∧ xs.length = ls.length ∧ xs.sum = (ls.length : Int) ∧ (∀ k : Int, 0 ≤ k → k < (ls.length : Int) → 0 ≤ gx xs k ∧ gx xs k ≤ capI (gx ls k) e w) ∧ ∀ h, e ≤ h → h < maxI ls → h + 1 - e ≤ (((xs.take (cntM ls h).toNat).count 0 : Nat) : Int) := by
  unfold outS
  have hr : e ∈ rgI (lowI ls) (highI ls w + 1 - lowI ls).toNat ↔ lowI ls ≤ e ∧ e ≤ highI ls w := by
    rw [rgI_mem]; omega
  by_cases h1 : lowI ls ≤ e ∧ e ≤ highI ls w
  · rw [if_neg (fun k => k (hr.mpr h1))]
    by_cases h2 : xs.length = ls.length
    · rw [if_neg (fun k => k (by omega))]
      by_cases h3 : xs.sum = (ls.length : Int)
      · rw [if_neg (fun k => k h3)]
        have hz := zip_all (f := fun l => capI l e w) h2
        split
        · rename_i h4
          refine ⟨fun k => Bool.noConfusion k, fun k => ?_⟩
          rw [hz.mpr k.2.2.2.1] at h4
          cases h4
        · rename_i h4
          rw [Bool.not_eq_false] at h4
          rw [zerB_iff]
          refine ⟨fun k => ⟨h1, h2, h3, hz.mp h4, fun h h5 h6 => k h (rgI_mem.mpr (by omega))⟩, fun k h hh => k.2.2.2.2 h ?_ ?_⟩
          all_goals have := rgI_mem.mp hh; omega
      · rw [if_pos h3]
        exact ⟨fun k => Bool.noConfusion k, fun k => absurd k.2.2.1 h3⟩
    · rw [if_pos (by omega)]
      exact ⟨fun k => Bool.noConfusion k, fun k => absurd k.2.1 h2⟩
  · rw [if_pos (fun k => h1 (hr.mp k))]
    exact ⟨fun k => Bool.noConfusion k, fun k => absurd k.1 h1⟩
theorem ordP_fst_perm {rs : List (Int × Str)} : ((ordP rs).map Prod.fst).Perm (rs.map Prod.fst) := by
  have h := (sortII_perm (rs.zipIdx.map fun p => (p.1.1, (p.2 : Int)))).map Prod.fst
  refine h.trans (List.Perm.of_eq ?_)
  rw [List.map_map]
  show rs.zipIdx.map (fun p => p.1.1) = _
  rw [show (fun p : (Int × Str) × Nat => p.1.1) = Prod.fst ∘ Prod.fst from rfl, ← List.map_map, List.zipIdx_map_fst]
theorem ordP_fst_pw {rs : List (Int × Str)} : ((ordP rs).map Prod.fst).Pairwise (· ≤ ·) := by
  refine List.pairwise_map.mpr (List.Pairwise.imp (fun h => ?_) (sortII_pw _))
  rcases h with h | h
  · omega
  · omega
theorem outB_S {rs : List (Int × Str)} {e w : Int} {xs : List Int} (hw : 1 ≤ w) : outS ((ordP rs).map Prod.fst) e w xs = outB rs e w xs := by
  have hp := ordP_fst_perm (rs := rs)
  unfold outS outB
  rw [lowI_perm hp, highI_perm hw hp, maxI_perm hp, List.length_map, ordP_len, List.map_map]
  have hz : ∀ hs, zerB ((ordP rs).map Prod.fst) xs e hs = zerB (rs.map Prod.fst) xs e hs := fun hs => by
    rw [Bool.eq_iff_iff, zerB_iff, zerB_iff]
    simp only [cntM_perm hp]
  rw [hz]
  rfl
theorem zip_rg {ls xs : List Int} (h : xs.length = ls.length) : (rgI 0 ls.length).map (fun k => (gx ls k, gx xs k)) = ls.zip xs := by
  have h1 := rgI_gx (ls := ls)
  have h2 := rgI_gx (ls := xs)
  rw [h] at h2
  have h3 : ((rgI 0 ls.length).map (gx ls)).zip ((rgI 0 ls.length).map (gx xs)) = (rgI 0 ls.length).map (fun k => (gx ls k, gx xs k)) := List.zip_map' ..
  rw [← h3, h1, h2]
theorem zer_cnt {h : Int} : ∀ (ls xs : List Int), ls.Pairwise (· ≤ ·) → xs.length = ls.length → ((ls.zip xs).filter fun p => decide (p.1 ≤ h ∧ p.2 = 0)).length = (xs.take (cntM ls h).toNat).count 0
  | [], xs, _, hl => by
    have : xs = [] := List.length_eq_zero_iff.mp hl
    subst this
    simp
  | l :: ls, [], _, hl => by cases hl
  | l :: ls, x :: xs, hp, hl => by
    have ih := zer_cnt (h := h) ls xs (List.pairwise_cons.mp hp).2 (by simpa using hl)
    by_cases hlh : l ≤ h
    · have e : (cntM (l :: ls) h).toNat = (cntM ls h).toNat + 1 := by
        unfold cntM
        rw [List.filter_cons_of_pos (p := fun x => decide (x ≤ h)) (decide_eq_true hlh), List.length_cons]
        omega
      rw [e, List.take_succ_cons, List.count_cons, List.zip_cons_cons, ← ih]
      by_cases hx : x = 0
      · rw [List.filter_cons_of_pos (p := fun p : Int × Int => decide (p.1 ≤ h ∧ p.2 = 0)) (decide_eq_true ⟨hlh, hx⟩), List.length_cons, hx]
        rfl
      · rw [List.filter_cons_of_neg (p := fun p : Int × Int => decide (p.1 ≤ h ∧ p.2 = 0)) (by rw [decide_eq_true_eq]; exact fun k => hx k.2), if_neg (by simpa using hx)]
        rfl
    · have e : cntM (l :: ls) h = 0 := by
        unfold cntM
        rw [List.filter_eq_nil_iff.mpr]
        · rfl
        · intro y hy
          rw [decide_eq_true_eq]
          rcases List.mem_cons.mp hy with rfl | hy
          · exact hlh
          · have := (List.pairwise_cons.mp hp).1 y hy
            omega
      rw [e]
      show _ = 0
      rw [List.length_eq_zero_iff, List.filter_eq_nil_iff]
      rintro ⟨a, b⟩ hab
      rw [decide_eq_true_eq]
      rintro ⟨h1, -⟩
      have ha := (List.of_mem_zip hab).1
      rcases List.mem_cons.mp ha with rfl | ha
      · exact hlh h1
      · have := (List.pairwise_cons.mp hp).1 a ha
        show False
        have h1 : a ≤ h := h1
        omega
theorem zer_rg {ls xs : List Int} {h : Int} (hp : ls.Pairwise (· ≤ ·)) (hl : xs.length = ls.length) : ((rgI 0 ls.length).filter fun k => decide (gx ls k ≤ h ∧ gx xs k = 0)).length = (xs.take (cntM ls h).toNat).count 0 := by
  rw [← zer_cnt ls xs hp hl, ← zip_rg hl, List.filter_map, List.length_map]
  rfl
/-! ### the first record that is there twice -/
theorem cntR_zero {rs : List (Int × Str)} {z : Str} : cntR rs z = 0 ↔ z ∉ rs.map Prod.snd := by
  refine ⟨fun h hm => ?_, cntR_none⟩
  obtain ⟨r, hr, rfl⟩ := List.mem_map.mp hm
  unfold cntR at h
  rw [List.length_eq_zero_iff, List.filter_eq_nil_iff] at h
  exact h r hr (decide_eq_true rfl)
theorem rep_step {rs : List (Int × Str)} {c : List Str} {i : Nat} {r : Int × Str} (hr : rs[i]? = some r) (hc : ∀ z, z ∈ c ↔ 1 < cntR (rs.take i) z) :
    (r.2 ∈ (rs.take i).map Prod.snd → ∀ z, z ∈ c ++ [r.2] ↔ 1 < cntR (rs.take (i + 1)) z) ∧ (r.2 ∉ (rs.take i).map Prod.snd → ∀ z, z ∈ c ↔ 1 < cntR (rs.take (i + 1)) z) := by
  rw [take_snoc' hr]
  constructor
  · intro hm z
    have h0 : cntR (rs.take i) r.2 ≠ 0 := fun h => cntR_zero.mp h hm
    rw [cntR_snoc, List.mem_append, List.mem_singleton, hc]
    by_cases hz : r.2 = z
    · subst hz
      rw [if_pos rfl]
      exact ⟨fun _ => by omega, fun _ => .inr rfl⟩
    · rw [if_neg hz]
      exact ⟨fun h => h.elim (fun h => by omega) fun h => absurd h.symm hz, fun h => .inl (by omega)⟩
  · intro hm z
    have h0 := cntR_none hm
    rw [cntR_snoc, hc]
    by_cases hz : r.2 = z
    · subst hz
      rw [if_pos rfl]
      omega
    · rw [if_neg hz]
      omega
theorem repL_mem {rs : List (Int × Str)} {z : Str} : z ∈ repL rs ↔ 1 < cntR rs z := by
  unfold repL
  rw [List.mem_filter, recsI_mem, decide_eq_true_eq]
  refine ⟨fun h => by have := h.2; omega, fun h => ⟨?_, by omega⟩⟩
  by_cases hz : z ∈ rs.map Prod.snd
  · exact hz
  · have := cntR_none hz
    omega
theorem rep_head {rs : List (Int × Str)} {c : List Str} (hc : ∀ z, z ∈ c ↔ 1 < cntR rs z) : (c = [] ↔ repL rs = []) ∧ ∀ z r, repL rs = z :: r → gx (sortS c) 0 = z := by
  have hm : ∀ z, z ∈ c ↔ z ∈ repL rs := fun z => (hc z).trans repL_mem.symm
  refine ⟨⟨fun h => List.eq_nil_iff_forall_not_mem.mpr fun z hz => by rw [← hm, h] at hz; exact List.not_mem_nil hz, fun h => List.eq_nil_iff_forall_not_mem.mpr fun z hz => by rw [hm, h] at hz; exact List.not_mem_nil hz⟩, fun z r e => ?_⟩
  cases e2 : sortS c with
  | nil =>
    have : z ∈ sortS c := sortS_mem.mpr ((hm z).mpr (by rw [e]; exact List.mem_cons_self))
    rw [e2] at this
    cases this
  | cons x s =>
    rw [gx_0]
    have p1 := sortS_pw c
    have p2 : (repL rs).Pairwise sle' := List.Pairwise.filter _ (sortS_pw _)
    rw [e2] at p1
    rw [e] at p2
    have hx : x ∈ z :: r := by
      rw [← e, ← hm, ← sortS_mem, e2]
      exact List.mem_cons_self
    have hz : z ∈ x :: s := by
      rw [← e2, sortS_mem, hm, e]
      exact List.mem_cons_self
    rcases List.mem_cons.mp hx with h | h
    · exact h
    rcases List.mem_cons.mp hz with h' | h'
    · exact h'.symm
    exact sle_anti ((List.pairwise_cons.mp p1).1 _ h') ((List.pairwise_cons.mp p2).1 _ h)
theorem gx_appl {α : Type} [Inhabited α] {a b : List α} {k : Int} (h0 : 0 ≤ k) (h1 : k < (a.length : Int)) : gx (a ++ b) k = gx a k := by
  rw [gx_nn h0, gx_nn h0, List.getElem?_append_left (by omega)]
theorem gx_appr {α : Type} [Inhabited α] {a b : List α} {k : Int} (h1 : (a.length : Int) ≤ k) : gx (a ++ b) k = gx b (k - (a.length : Int)) := by
  rw [gx_nn (by omega), gx_nn (by omega), List.getElem?_append_right (by omega), show k.toNat - a.length = (k - (a.length : Int)).toNat by omega]
theorem gx_repl {α : Type} [Inhabited α] {a : α} {n : Nat} {k : Int} (h0 : 0 ≤ k) (h1 : k < (n : Int)) : gx (List.replicate n a) k = a := by
  rw [gx_nn h0, List.getElem?_replicate, if_pos (by omega)]; rfl
theorem InB.cell {ds ss : List Int} (h : InB ds ss) {k : Int} (h0 : 0 ≤ k) (h1 : k < (ss.length : Int)) : 0 ≤ gx ds k ∧ gx ds k < gx ss k := by
  refine h.b h0 ?_
  rw [gx_nn h0, List.getElem?_eq_getElem (by omega)]
  rfl
theorem wf_one {n : Nat} {s t : Int} (hs : 0 ≤ s ∧ s < (n : Int)) (ht : 0 ≤ t ∧ t < (n : Int)) : wfB n s [t] = true :=
  wfB_iff.mpr ⟨by show 0 < 1; decide, ascB_iff.mpr fun j hj => absurd hj (by show ¬ j + 1 < 1; omega), fun i hi => by
    simp only [List.mem_cons, List.not_mem_nil, or_false] at hi
    rcases hi with rfl | rfl
    · exact hs
    · exact ht⟩
theorem gx_rep {l : List Int} {n : Nat} {k : Int} (h0 : 0 ≤ k) (h1 : k < ((n * l.length : Nat) : Int)) : gx (List.replicate n l).flatten k = gx l (k % (l.length : Int)) := by
  have hl : 0 < l.length := by
    rcases Nat.eq_zero_or_pos l.length with e | e
    · rw [e, Nat.mul_zero] at h1; omega
    · exact e
  have hm : k.toNat % l.length < l.length := Nat.mod_lt _ hl
  have hk : (k % (l.length : Int)) = ((k.toNat % l.length : Nat) : Int) := by
    rw [Int.natCast_emod]
    congr 1
    omega
  rw [gx_nn h0, flat_get l n _ hl (by omega), hk, gx_get hm, List.getElem?_eq_getElem hm]
  rfl
theorem zip_rs {ls : List Int} {ys : List Str} (h : ys.length = ls.length) : (rgI 0 ls.length).map (fun k => (gx ls k, gx ys k)) = ls.zip ys := by
  have h1 := rgI_gx (ls := ls)
  have h2 := rgI_gx (ls := ys)
  rw [h] at h2
  have h3 : ((rgI 0 ls.length).map (gx ls)).zip ((rgI 0 ls.length).map (gx ys)) = (rgI 0 ls.length).map (fun k => (gx ls k, gx ys k)) := List.zip_map' ..
  rw [← h3, h1, h2]
theorem repL_nodup {rs : List (Int × Str)} (h : (rs.map Prod.snd).Nodup) : repL rs = [] := List.eq_nil_iff_forall_not_mem.mpr fun z hz => by
  have h1 := repL_mem.mp hz
  have h2 : ((rs.filter fun r => decide (r.2 = z)).map Prod.snd).Nodup := List.Pairwise.sublist (List.filter_sublist.map _) h
  have := nodup_le (m := [z]) h2 fun x hx => by
    obtain ⟨r, hr, rfl⟩ := List.mem_map.mp hx
    rw [List.mem_singleton]
    exact of_decide_eq_true (List.mem_filter.mp hr).2
  rw [List.length_map, List.length_singleton] at this
  unfold cntR at h1
  omega
theorem ordP_gx {rs : List (Int × Str)} : ((ordP rs).map Prod.snd).map (gx (rs.map Prod.fst)) = (ordP rs).map Prod.fst := by
  rw [List.map_map]
  refine List.map_congr_left fun p hp => ?_
  obtain ⟨⟨h0, h1⟩, h2⟩ := ordP_mem hp
  exact (gx_fst h0 h1).trans h2
end Pf
namespace Pf
open PySem PySem.Spec PyProof.Rows L2
/-! ### reasons -/
inductive Rsn where
  | tot (n : Int)
  | rch (n : Int)
  | rcd (z : Str) (n : Int)
  | hgt (h n : Int)
def rsP : Rsn → P
  | .tot n => .tup [.str (Str.ofString "total"), .int n]
  | .rch n => .tup [.str (Str.ofString "reach"), .int n]
  | .rcd z n => .tup [.str (Str.ofString "record"), .str z, .int n]
  | .hgt h n => .tup [.str (Str.ofString "height"), .int h, .int n]
theorem rsn_total_reach : (Str.ofString "total" = Str.ofString "reach") = False := eq_false (by decide +kernel)
theorem rsn_total_record : (Str.ofString "total" = Str.ofString "record") = False := eq_false (by decide +kernel)
theorem rsn_total_height : (Str.ofString "total" = Str.ofString "height") = False := eq_false (by decide +kernel)
theorem rsn_reach_total : (Str.ofString "reach" = Str.ofString "total") = False := eq_false (by decide +kernel)
theorem rsn_reach_record : (Str.ofString "reach" = Str.ofString "record") = False := eq_false (by decide +kernel)
theorem rsn_reach_height : (Str.ofString "reach" = Str.ofString "height") = False := eq_false (by decide +kernel)
theorem rsn_record_total : (Str.ofString "record" = Str.ofString "total") = False := eq_false (by decide +kernel)
theorem rsn_record_reach : (Str.ofString "record" = Str.ofString "reach") = False := eq_false (by decide +kernel)
theorem rsn_record_height : (Str.ofString "record" = Str.ofString "height") = False := eq_false (by decide +kernel)
theorem rsn_height_total : (Str.ofString "height" = Str.ofString "total") = False := eq_false (by decide +kernel)
theorem rsn_height_reach : (Str.ofString "height" = Str.ofString "reach") = False := eq_false (by decide +kernel)
theorem rsn_height_record : (Str.ofString "height" = Str.ofString "record") = False := eq_false (by decide +kernel)
theorem rs_inj {a b : Rsn} : (rsP a = rsP b) = (a = b) := by
  refine propext ⟨fun h => ?_, fun h => by rw [h]⟩
  cases a <;> cases b <;> simp only [rsP, P.tup.injEq, List.cons.injEq, P.str.injEq, P.int.injEq, and_true, true_and, reduceCtorEq, false_and, and_false, rsn_total_reach, rsn_total_record, rsn_total_height, rsn_reach_total, rsn_reach_record, rsn_reach_height, rsn_record_total, rsn_record_reach, rsn_record_height, rsn_height_total, rsn_height_reach, rsn_height_record] at h
  · rw [h]
  · rw [h]
  · rw [h.1, h.2]
  · rw [h.1, h.2]
def lookB (rs : List (Int × Str)) (t e w : Int) (d : List (Str × Int)) : Rsn → Bool
  | .tot n => decide (n = totI d ∧ (rs.length : Int) < totI d)
  | .rch n => decide (n = capS (rs.map Prod.fst) e w ∧ capS (rs.map Prod.fst) e w < (rs.length : Int))
  | .rcd z n => decide (n = recR rs z e w ∧ recR rs z e w < dm d z)
  | .hgt h n => decide ((e ≤ h ∧ h < t) ∧ n = cntM (spareL (rs.map Prod.fst) (asideI rs e w d)) h ∧ cntM (spareL (rs.map Prod.fst) (asideI rs e w d)) h < h + 1 - e)
end Pf
namespace Pf
open PySem PySem.Spec PyProof.Rows L2
def lookK (rs : List (Int × Str)) (t e : Int) (d : List (Str × Int)) (tt rc : Int) (ow : List (Str × Int)) (as : List Int) : Rsn → Bool
  | .tot n => decide (n = tt ∧ (rs.length : Int) < tt)
  | .rch n => decide (n = rc ∧ rc < (rs.length : Int))
  | .rcd z n => decide (n = dm ow z ∧ dm ow z < dm d z)
  | .hgt h n => decide ((e ≤ h ∧ h < t) ∧ n = cntM (spareL (rs.map Prod.fst) as) h ∧ cntM (spareL (rs.map Prod.fst) as) h < h + 1 - e)
theorem lookK_eq {rs : List (Int × Str)} {t e w : Int} {d ow : List (Str × Int)} {r : Rsn} (h : ∀ z n, r = .rcd z n → dget ow z = some (recR rs z e w)) : lookK rs t e d (totI d) (capS (rs.map Prod.fst) e w) ow (asideI rs e w d) r = lookB rs t e w d r := by
  cases r with
  | tot n => rfl
  | rch n => rfl
  | rcd z n =>
    have h1 : dm ow z = recR rs z e w := by unfold dm; rw [h z n rfl]; rfl
    unfold lookK lookB
    simp only [h1]
  | hgt h n => rfl
theorem decAT {a b : Prop} [Decidable a] [Decidable b] (h : a) : decide (a ∧ b) = decide b := decide_eq_decide.mpr ⟨fun k => k.2, fun k => ⟨h, k⟩⟩
theorem decAF {a b : Prop} [Decidable a] [Decidable b] (h : ¬ a) : decide (a ∧ b) = false := decide_eq_false fun k => h k.1
end Pf

namespace Pf
open PySem PySem.Spec PyProof.Rows L2
section
variable {X : Cx} {n : Nat} {f C : Addr} {fd : FuncData} {ps : List Str} {spn : Nat → Sp} {E : XK} {A1 : Around} {pins : List (Addr × Obj)} {σ : L2.St} {H : Hp} {s : Shared}
/-! ### list(o), o of an own class whose __iter__ hands back iter(a list) -/
theorem run_sub0 (F : FnN X.prog X.w X.K X.mg X.base CX0 n f fd ps spn) (hb : Binds X.K fd ps []) (sb : Sub X n A1) {Er : Value → Shared → Prop} {Q : VK} {us : List Value} {vs : List V}
    (I : Inv X pins σ H s) (r : Vals vs us) (h : spn s.heap.objs.size vs H Q E) : wpAny (model X.prog X.w) A1 (call (.ref f) us)
      (fun u s' => ∃ v H', Inv X pins σ H' s' ∧ RelV v u ∧ Q v H' ∧ ∀ b o, s.heap.get? b = some o → H b = none → H' b = none) Er s := by
  have e0 : Env0 X.prog X.w X.K X.mg X.base A1 X.stack s H := by
    have e := I.env0
    exact ⟨(by rw [sb.fr]; exact e.frames), e.mod, e.bs, e.bsz, e.funs, e.frf, e.hok, e.bare⟩
  have hl : us.length = ps.length := by rw [← r.length]; exact F.ln _ _ _ _ _ h
  have hbb : BindsTo s fd ⟨us, []⟩ (ps.zip us) := by
    have b := hb s us I.kIn (by simpa using hl)
    simpa using b
  refine wpAny_call (codeAny_mono (F.go A1 X.stack s H ⟨us, []⟩ us vs Q E sb.room e0 hbb r h) fun t s' hq => ?_)
  cases t with
  | error e => exact False.elim hq
  | ok fl =>
    cases fl with
    | next => exact False.elim hq
    | brk => exact False.elim hq
    | cont => exact False.elim hq
    | ret u =>
      have hq0 : CE X.stack X.prog X.w H s Q u s' := hq
      obtain ⟨v, H', os, bare, un, hok, rv, q⟩ := hq0
      obtain ⟨hh, g, d, t, os'⟩ := s'
      obtain rfl : os' = s.os := os
      exact ⟨v, H', I.call (h' := hh) (g' := g) (d' := d) (t' := t) (ch := []) un hok bare (fun b z => absurd z (by simp)), rv, q, fun b o z nb => un.free b o z nb (by simp)⟩
/-- the walk over the list's iterator fills the list at q -/
theorem it_loop {l it q : Addr} {ys : List V} {Rs : Result → Shared → Prop} (hh : A1.in1.handled = none) (fp : FpOk X pins (upd H q (.lst [])) it) (hq : H q = none) (hS : SqL X.K H l ys) (hle : ys.length ≤ sizeLine)
    (hdone : ∀ s, Inv X pins σ (upd H q (.lst ys)) s → Rs (.ok (.ret .none)) s) :
    ∀ (m i : Nat) (s : Shared), ys.length - i = m → i ≤ ys.length → Inv X pins σ (upd H q (.lst (ys.take i))) s → s.heap.IsListIter it l i → codeAny (model X.prog X.w) A1 (.builtin "list.extend.loop" ⟨[.ref q, .ref it, .none], []⟩) Rs s := by
  have nqi : it ≠ q := fun e => by
    have := fp.1
    rw [e, upd_same] at this
    cases this
  have fpi : ∀ zs, FpOk X pins (upd H q (.lst zs)) it := fun zs => ⟨by
    have := fp.1
    rw [upd_ne nqi] at this ⊢
    exact this, fp.2⟩
  intro m
  induction m with
  | zero =>
    intro i s hm hi I hit
    have e1 : i = ys.length := by omega
    refine codeAny_builtin PySem.F.entry_extend_loop ?_
    rw [Around.under_plainId PySem.F.plain_extend_loop _]
    show wpAny _ A1.in1 (pyNext (.ref it) >>= _) _ _ s
    obtain ⟨its, r, ht, hz⟩ := I.list (hS.ext (L2.Ext.upd hq))
    have hlen := r.length
    refine wpAny_bind (wpAny_pyNext_list_end hh hit ht.isList (by rw [List.getElem?_toArray, List.getElem?_eq_none_iff]; omega) fun h' eb => ?_)
    have I' : Inv X pins σ (upd H q (.lst (ys.take i))) { s with heap := h' } := I.turnedL (t' := s.toks) (ch := [it]) (fun b o nb z => eb b o (fun e => nb (by rw [e]; exact List.mem_singleton.mpr rfl)) z) (fun b hb => by rw [List.mem_singleton.mp hb]; exact fpi _)
    rw [e1, List.take_length] at I'
    exact wpAny_pure (hdone _ I')
  | succ m ih =>
    intro i s hm hi I hit
    have hil : i < ys.length := by omega
    refine codeAny_builtin PySem.F.entry_extend_loop ?_
    rw [Around.under_plainId PySem.F.plain_extend_loop _]
    show wpAny _ A1.in1 (pyNext (.ref it) >>= _) _ _ s
    obtain ⟨its, r, ht, hz⟩ := I.list (hS.ext (L2.Ext.upd hq))
    obtain ⟨u, hu, ru⟩ := r.get (List.getElem?_eq_getElem hil)
    refine wpAny_bind (wpAny_pyNext_list_item hit ht.isList (by rw [List.getElem?_toArray]; exact hu) fun h' hit' sbt => ?_)
    have I' : Inv X pins σ (upd H q (.lst (ys.take i))) { s with heap := h' } := I.turnedL (t' := s.toks) (ch := [it]) (fun b o nb z => (sbt.2 b (fun e => nb (by rw [e]; exact List.mem_singleton.mpr rfl))).trans z) (fun b hb => by rw [List.mem_singleton.mp hb]; exact fpi _)
    obtain ⟨z, its2, k, r2, hl2, e⟩ := I'.lstM upd_same
    show wpAny _ A1.in1 (updateSeq q (·.push u) >>= _) _ _ _
    have hl3 : its2.length = i := by rw [← hl2, List.length_take]; omega
    refine wpAny_bind (wpAny_updateSeq e rfl (wpAny_pure ⟨plainId_quiet PySem.F.plain_extend_loop _, ?_⟩) (by rw [List.size_toArray]; omega) (by show (its2.toArray.push u).size ≤ sizeLine + 1; rw [Array.size_push, List.size_toArray]; omega))
    have I3 := I'.lset (f := (·.push u)) (its' := its2 ++ [u]) (ys := ys.take i ++ [ys[i]]) (t' := s.toks) upd_same e (by simp) (r2.append (.cons ru .nil)) (by rw [List.length_append, List.length_singleton, List.length_take]; omega)
    rw [upd_upd, ← List.take_succ_eq_append_getElem hil] at I3
    refine ih (i + 1) _ (by omega) (by omega) I3 ?_
    obtain ⟨o, ho, hc, hd⟩ := hit'
    exact ⟨o, by rw [← ho]; exact Heap.get?_update_ne _ _ _ _ nqi, hc, hd⟩
/-- the length is asked -/
theorem it_hint {a dx : Addr} {fs : List (Str × V)} {Er : Value → Shared → Prop} {Q : Bool → Shared → Prop} (F : FnN X.prog X.w X.K X.mg X.base CX0 n f fd ps spn) (hs : PySem.W.findIn X.K (.ref C) "__len__" = some (some (.ref f))) (hf : PySem.W.isFn X.K (.ref f) = true) (hb : Binds X.K fd ps []) (sb : Sub X n A1.in1)
    (I : Inv X pins σ H s) (ha : H a = some (.ins C dx fs)) (hsp : ∀ m, spn m [.ref a] H (fun v H' => ∃ k : Int, v = .int k ∧ (0 ≤ k ∧ k ≤ 1000000) ∧ H' = H) E)
    (h : ∀ b s', Inv X pins σ H s' → Q b s') : wpAny (model X.prog X.w) A1 (Builtin.List.listLengthHint (.ref a)) Q Er s := by
  obtain ⟨mA, J, _⟩ := ins_get I.hok ha
  obtain ⟨od, J, _⟩ := J.look
  obtain ⟨m, hF⟩ := I.fr
  unfold Builtin.List.listLengthHint
  refine wpAny_bind (wpAny_bind (J.type.here ((PySem.W.looks_findIn I.kIn hs).here ?_)))
  refine PySem.W.KFB.if_not rfl ?_
  show wpAny _ _ (rule "list.length-hint.len" >>= _) _ _ _
  refine wpAny_bind (wpAny_rule ?_)
  refine wpAny_bind (wpAny_attempt (PySem.W.len_K hF I.ok.mod.kin J hs hf ?_))
  refine wpAny_mono (run_sub0 F hb sb I (show Vals [V.ref a] [Value.ref a] from .cons rfl .nil) (hsp _)) (fun z s' hz => ?_) fun _ _ y => y
  obtain ⟨v, H', I', rz, ⟨k, rfl, hk, eH⟩, -⟩ := hz
  obtain ⟨t, rfl⟩ := rz
  rw [eH] at I'
  refine ⟨by omega, ?_⟩
  refine wpAny_bind (wpAny_pure ?_)
  refine PySem.W.KFB.if_not (notLongL (by rw [sizeLine_eq]; omega)) ?_
  exact wpAny_pure (h _ _ (I'.tok _))
variable {fi fl : Addr} {fdI fdL : FuncData} {psI psL : List Str} {spL : Nat → Sp} {EI EL : XK} {g : Str}
theorem it_extend {a dx q l : Addr} {fs : List (Str × V)} {ys : List V} {Rs : Result → Shared → Prop} {Er : Value → Shared → Prop}
    (FI : FnN X.prog X.w X.K X.mg X.base CX0 n fi fdI psI (spIter X.K C g)) (hsI : PySem.W.findIn X.K (.ref C) "__iter__" = some (some (.ref fi))) (hfI : PySem.W.isFn X.K (.ref fi) = true) (bI : Binds X.K fdI psI [])
    (FL : FnN X.prog X.w X.K X.mg X.base CX0 n fl fdL psL spL) (hsL : PySem.W.findIn X.K (.ref C) "__len__" = some (some (.ref fl))) (hfL : PySem.W.isFn X.K (.ref fl) = true) (bL : Binds X.K fdL psL [])
    (sb : Sub X n A1.in1) (sbL : Sub X n A1.in1.in1) (hh : A1.in1.handled = none) (I : Inv X pins σ (upd H q (.lst [])) s) (ha : H a = some (.ins C dx fs)) (hg : fs.lookup g = some (.ref l)) (hS : SqL X.K H l ys) (hle : ys.length ≤ sizeLine) (hq : H q = none)
    (hlen : ∀ m H', L2.Ext H H' → spL m [.ref a] H' (fun v H2 => ∃ k : Int, v = .int k ∧ (0 ≤ k ∧ k ≤ 1000000) ∧ H2 = H') EL)
    (hdone : ∀ s, Inv X pins σ (upd H q (.lst ys)) s → Rs (.ok (.ret .none)) s) :
    wpAny (model X.prog X.w) A1.in1 (Builtin.List.listExtendWith (.ref q) (.ref a) .none)
      (fun fin s' => match fin with | .done f => Rs (.ok f) s' | .again c' => c'.quiet = true ∧ codeAny (model X.prog X.w) A1 c' Rs s') Er s := by
  have ha0 : upd H q (.lst []) a = some (.ins C dx fs) := by rw [upd_ne (ne_of_none ha hq)]; exact ha
  have hne : q ≠ a := fun e => by rw [e] at hq; rw [hq] at ha; cases ha
  obtain ⟨mA, J, _⟩ := ins_get I.hok ha0
  obtain ⟨od, J, _⟩ := J.look
  obtain ⟨m0, hF⟩ := I.fr
  unfold Builtin.List.listExtendWith
  refine wpAny_bind (J.type.here ?_)
  have h1 : Builtin.List.listSameRef (.ref q) (.ref a) = false := by simp [Builtin.List.listSameRef, hne]
  have h2 : (Value.ref C == Value.type "list") = false := rfl
  have h3 : (Value.ref C == Value.type "tuple") = false := rfl
  simp only [h1, h2, h3, Bool.or_false, Bool.false_eq_true, if_false]
  refine wpAny_bind (PySem.W.owit_iter hF I.ok.mod.kin J hsI hfI ?_)
  have hsp : spIter X.K C g s.heap.objs.size [.ref a] (upd H q (.lst [])) (fun v H2 => ∃ it, v = .ref it ∧ s.heap.objs.size ≤ it ∧ upd H q (.lst []) it = none ∧ H2 = upd (upd H q (.lst [])) it (ItO l it 0)) (fun _ _ _ => False) :=
    ⟨a, dx, fs, l, ys, rfl, ha0, hg, hS.ext (L2.Ext.upd hq), fun it ni hn => ⟨it, rfl, hn, ni, rfl⟩⟩
  refine wpAny_mono (run_sub0 FI bI sb I (show Vals [V.ref a] [Value.ref a] from .cons rfl .nil) hsp) (fun z s' hz => ?_) fun _ _ y => y
  obtain ⟨v, H2, I2, rz, ⟨it, rfl, hbig, ni, eH⟩, fr⟩ := hz
  obtain rfl : z = Value.ref it := rz
  rw [eH] at I2
  have eo := itO_get I2 upd_same
  have hT : s'.TypeIs (.ref it) "list_iterator" := ⟨_, eo, rfl⟩
  unfold PySem.W.OwitIt
  refine wpAny_specialOf (name := Str.ofString "__next__") hT slot_listiter_next.lookup ?_
  dsimp only
  have ha2 : upd (upd H q (.lst [])) it (ItO l it 0) a = some (.ins C dx fs) := by rw [upd_ne (ne_of_none ha0 ni)]; exact ha0
  refine wpAny_bind (wpAny_holding (it_hint FL hsL hfL bL sbL I2 ha2 (fun m => hlen m _ ((L2.Ext.upd hq).upd' ni)) fun b s2 I3 => ?_))
  have eo3 := itO_get I3 upd_same
  have hit : upd (upd H q (.lst [])) it (ItO l it 0) it = some (ItO l it 0) := upd_same
  have fp := ItX.inv_fp I3 hit (Nat.le_trans I.sz hbig)
  have hi' := hit
  unfold ItO at hi'
  have I4 := ItX.inv_drop I3 hi'
  rw [ItX.dropH_upd ni] at fp I4
  have st : s2.heap.IsListIter it l 0 := ⟨_, eo3, rfl, rfl⟩
  have key : ∀ s3, Inv X pins σ (upd H q (.lst [])) s3 → s3.heap.IsListIter it l 0 → codeAny (model X.prog X.w) A1 (.builtin "list.extend.loop" ⟨[.ref q, .ref it, .none], []⟩) Rs s3 := fun s3 I5 st5 =>
    it_loop hh fp hq hS hle hdone (ys.length - 0) 0 s3 rfl (Nat.zero_le _) I5 st5
  obtain ⟨zz, its, kk, r3, hl3, e3⟩ := I4.lstM upd_same
  cases r3
  refine wpAny_ite_split (fun _ => ?_) (fun _ => wpAny_pure ⟨plainId_quiet PySem.F.plain_extend_loop _, key _ I4 st⟩)
  refine wpAny_bind (wpAny_rule ?_)
  refine wpAny_bind ?_
  show wpAny _ _ (updateSeq q (·.push .none) >>= fun _ => updateSeq q (·.pop)) _ _ _
  refine wpAny_bind (wpAny_updateSeq e3 rfl ?_)
  have J2 := I4.lset (f := (·.push Value.none)) (its' := [Value.none]) (ys := [.non]) (t' := s2.toks) upd_same e3 (by simp) (.cons rfl .nil) (by rw [List.length_singleton, sizeLine_eq]; decide)
  obtain ⟨z4, its4, k4, r4, hl4, e4⟩ := J2.lstM upd_same
  obtain ⟨u4, rfl, ru4⟩ := r4.one
  refine wpAny_updateSeq e4 rfl ?_ (by show 1 ≤ sizeLine; rw [sizeLine_eq]; decide) (by show 0 ≤ sizeLine + 1; exact Nat.zero_le _)
  have J3 := J2.lset (f := (·.pop)) (its := [u4]) (its' := []) (ys := []) (t' := s2.toks) upd_same e4 (by rfl) .nil (Nat.zero_le _)
  rw [upd_upd, upd_upd] at J3
  have nqi : it ≠ q := fun e => by rw [e, upd_same] at ni; cases ni
  refine wpAny_pure ⟨plainId_quiet PySem.F.plain_extend_loop _, key _ J3 ?_⟩
  exact ⟨_, ((Heap.get?_update_ne _ _ _ _ nqi).trans (Heap.get?_update_ne _ _ _ _ nqi)).trans eo3, rfl, rfl⟩
/-- list(o) -/
def rListIt (K : PySem.W.Frag) (C : Addr) (g : Str) (spL : Nat → Sp) (EL : XK) : List V → Hp → VK → Prop := fun xs H Q => ∃ a dx fs l ys, xs = [.ref a] ∧ H a = some (.ins C dx fs) ∧ fs.lookup g = some (.ref l) ∧ SqL K H l ys ∧ ys.length ≤ sizeLine ∧
  (∀ m H', L2.Ext H H' → spL m [.ref a] H' (fun v H2 => ∃ k : Int, v = .int k ∧ (0 ≤ k ∧ k ≤ 1000000) ∧ H2 = H') EL) ∧ ∀ q, H q = none → Q (.ref q) (upd H q (.lst ys))
theorem call_listIt (FI : FnN X.prog X.w X.K X.mg X.base CX0 n fi fdI psI (spIter X.K C g)) (hsI : PySem.W.findIn X.K (.ref C) "__iter__" = some (some (.ref fi))) (hfI : PySem.W.isFn X.K (.ref fi) = true) (bI : Binds X.K fdI psI [])
    (FL : FnN X.prog X.w X.K X.mg X.base CX0 n fl fdL psL spL) (hsL : PySem.W.findIn X.K (.ref C) "__len__" = some (some (.ref fl))) (hfL : PySem.W.isFn X.K (.ref fl) = true) (bL : Binds X.K fdL psL [])
    (hc : X.calm = true) (hr : Room (n + 3) X.A) : CallR X (.type "list") (rListIt X.K C g spL EL) := by
  intro pins s σ H xs us Q I rv h
  obtain ⟨a, dx, fs, l, ys, rfl, ha, hg, hS, hle, hlen, hq⟩ := h
  obtain ⟨u, rfl, ru⟩ := rv.one
  cases ru
  have sb0 : Sub X n X.A.in1.in1.in1 := Sub.in1 (Sub.in1 (Sub.in1 (⟨hr, rfl⟩ : Sub X (n + 3) X.A)))
  have sb1 : Sub X n X.A.in1.in1 := Sub.in1 (Sub.in1 (Sub.mono (⟨hr, rfl⟩ : Sub X (n + 3) X.A) (by omega)))
  refine callType_codes (Q₁ := fun obj s₁ => obj = .ref s.heap.objs.size ∧ s₁ = { s with heap := s.heap.push { cls := .type "list", data := .seq #[] } }) PySem.F.called_list (PySem.F.typeCall_list_1 _) PySem.F.entry_list_init
    (code_list_new _ ⟨rfl, rfl⟩) fun obj s₁ h₁ => ?_
  obtain ⟨rfl, rfl⟩ := h₁
  have hS0 : (s.heap.push { cls := .type "list", data := .seq #[] }).get? s.heap.objs.size = some { cls := .type "list", data := .seq #[] } := Heap.get?_push_size _ rfl
  refine ⟨⟨_, hS0, rfl⟩, PySem.F.args_list_init_2 _ _, ?_⟩
  have fr : H s.heap.objs.size = none := I.hok.fresh (Nat.le_refl _)
  have I1 : Inv X pins σ (upd H s.heap.objs.size (.lst [])) { s with heap := s.heap.push { cls := .type "list", data := .seq #[] } } := I.lnew (its := []) (t' := s.toks) .nil (Nat.zero_le _)
  show wpAny _ _ (do let old ← Builtin.List.listItems (.ref s.heap.objs.size); Builtin.List.listUpdate (.ref s.heap.objs.size) (fun _ => #[]); letGo old.toList.reverse; Builtin.List.listExtendWith (.ref s.heap.objs.size) (.ref a) .none) _ _ _
  refine wpAny_bind ?_
  unfold Builtin.List.listItems
  refine wpAny_bind (wpAny_seqItems hS0 rfl (wpAny_pure ?_))
  show wpAny _ _ (updateSeq s.heap.objs.size (fun _ => #[]) >>= fun _ => letGo (#[] : Array Value).toList.reverse >>= fun _ => Builtin.List.listExtendWith (.ref s.heap.objs.size) (.ref a) .none) _ _ _
  refine wpAny_bind (wpAny_updateSeq hS0 rfl ?_)
  have I2 := I1.lset (f := fun _ => #[]) (its := []) (its' := []) (ys := []) (t' := s.toks) upd_same hS0 rfl .nil (Nat.zero_le _)
  rw [upd_upd] at I2
  refine wpAny_bind (wpAny_letGo ?_)
  exact it_extend (A1 := X.A.in1) (Rs := wants (fun r s₂ => r = .none ∧ EP X pins σ Q (.ref s.heap.objs.size) s₂) X.xe) FI hsI hfI bI FL hsL hfL bL sb1 sb0 (I.ok.hd hc) I2 ha hg hS hle fr hlen
    (fun s' I' => ⟨rfl, .ref s.heap.objs.size, _, I', rfl, hq _ fr⟩)
end
end Pf
namespace Pf
open PySem PySem.Spec PyProof.Rows L2
section
variable {K : PySem.W.Frag} {W : WX} {k : Rk} {ro : Bool}
/-- what an own __len__ promises: len(self.f) -/
def spLen (K : PySem.W.Frag) (C : Addr) (f : Str) : Nat → Sp := fun _ vs H Q _ => ∃ a dx fs l zs, vs = [.ref a] ∧ H a = some (.ins C dx fs) ∧ fs.lookup f = some (.ref l) ∧ SqL K H l zs ∧ Q (.int (zs.length : Nat)) H
theorem len_read {C : Addr} {f : Str} {n : Nat} {vs : List V} {H : Hp} {Q : VK} {E : XK} (c : Cls K C) (na : NoAttr K C f) (h : spLen K C f n vs H Q E) :
    (tRet (tCB (fun xs H Q => ∃ (p : Addr) (ys : List V), xs = [V.ref p] ∧ (SqL K H p ys ∨ SqT K H p ys) ∧ Q (V.int ys.length) H) (tCons (tFld K (tVar 0) f) tNil))) { nx := fun _ H' => Q .non H', rt := Q } (L2.start ["self"] vs) H := by
  obtain ⟨a, dx, fs, l, zs, rfl, ha, hl, hs, q⟩ := h
  exact ⟨.ref a, rfl, a, C, dx, fs, .ref l, rfl, ha, c, na, hl, l, zs, rfl, .inl hs, q⟩
def fListO (C : Addr) (f : Str) : PFn := fun xs Q => ∃ x, xs = [x] ∧ onIns C x fun ns ys => ∃ rs, lookN ns ys f = some (.lst rs) ∧ rs.length ≤ 1000000 ∧ Q (.lst rs)
theorem cs_listO {C : Addr} {f : Str} {E : XK} {m : Mo} : CallS K .O [m] (rListIt K C f (spLen K C f) E) (fListO C f) := fun F H vs xs Qp Q s r ⟨x, e, h⟩ q => by
  obtain ⟨v, x', rfl, rfl, t⟩ := AL.one r
  cases e
  obtain ⟨a, dx, fs, ns, ys, rfl, ha, l, rl, h⟩ := onIns_of s t h
  obtain ⟨rs, hy, hle, h⟩ := h
  obtain ⟨w, ew, rw'⟩ := look_of l rl hy
  cases rw' with
  | lst hf rr =>
    have hsq := SqL.of (K := K) (s _ _ hf)
    refine ⟨a, dx, fs, _, _, rfl, ha, ew, hsq, by rw [rr.len, sizeLine_eq]; omega, fun m H' ex => ⟨a, dx, fs, _, _, rfl, ex _ _ ha, ew, hsq.ext ex, _, rfl, ⟨by omega, by rw [rr.len]; omega⟩, rfl⟩, fun p np => ?_⟩
    exact q F _ _ (.lst rs) (mv_new s np) (.inl ⟨p, _, rfl, np, same_free s np, upd_same, .l rr⟩) h
theorem ap_listO {C : Addr} {f : Str} {x : P} {Q : P → Prop} : (fListO C f [x] Q) = (onIns C x fun ns ys => ∃ rs, lookN ns ys f = some (.lst rs) ∧ rs.length ≤ 1000000 ∧ Q (.lst rs)) :=
  propext ⟨fun ⟨_, e, q⟩ => by cases e; exact q, fun q => ⟨_, rfl, q⟩⟩
end
end Pf
namespace Pf
open PySem PySem.Spec PyProof.Rows L2
section
variable {K : PySem.W.Frag} {W : WX} {k : Rk} {ro : Bool}
/-! ### xs.pop(), xs.reverse() as statements -/
theorem RL.dropL {F : Hp} {vs : List V} {xs : List P} (r : RL K F vs xs) : RL K F vs.dropLast xs.dropLast := by
  rw [List.dropLast_eq_take, List.dropLast_eq_take, r.len]
  exact r.take _
def wPop (i : Nat) : WS := fun D env => ownL env i fun xs => 0 < xs.length ∧ D.nx (env.set i (some (.o, .lst xs.dropLast)))
theorem ss_pop {i : Nat} : SS K W ro (tDrop (tBM0 K "list" rPop (tVar i))) (wPop i) := fun F0 H0 σ F H env Dp D g hw d x => by
  obtain ⟨xs, a, vs, e, hs, ha, r, hne, q⟩ := ownL_of g hw
  have hl := r.len
  refine ⟨.ref a, hs, .inl ⟨rfl, vs, SqL.of ha⟩, ?_⟩
  exact ⟨a, vs, vs[vs.length - 1]'(by omega), rfl, rfl, ha, List.getElem?_eq_getElem (by omega), d.1 σ F _ _ (g.put e hs (.l r.dropL)) q⟩
theorem ap_pop {i : Nat} {D : PEnds} {env : PEnv} : (wPop i D env) = (ownL env i fun xs => 0 < xs.length ∧ D.nx (env.set i (some (.o, .lst xs.dropLast)))) := rfl
def wRvs (i : Nat) : WS := fun D env => ownL env i fun xs => D.nx (env.set i (some (.o, .lst xs.reverse)))
theorem ss_rvs {i : Nat} : SS K W ro (tDrop (tBM0 K "list" rReverse (tVar i))) (wRvs i) := fun F0 H0 σ F H env Dp D g hw d x => by
  obtain ⟨xs, a, vs, e, hs, ha, r, q⟩ := ownL_of g hw
  refine ⟨.ref a, hs, .inl ⟨rfl, vs, SqL.of ha⟩, ?_⟩
  exact ⟨a, vs, rfl, rfl, ha, d.1 σ F _ _ (g.put e hs (.l r.rev)) q⟩
theorem ap_rvs {i : Nat} {D : PEnds} {env : PEnv} : (wRvs i D env) = (ownL env i fun xs => D.nx (env.set i (some (.o, .lst xs.reverse)))) := rfl
theorem map_dropLast' {α : Type} {f : α → P} {l : List α} : (l.map f).dropLast = l.dropLast.map f := (List.map_dropLast ..).symm
end
end Pf

namespace Pf
open PySem PySem.Spec PyProof.Rows L2
/-! ### a for loop in a generator's body -/
section
variable {M : Model} {A : Around} {R : GenEnd} {Y : Protocol} {n : Nat} {s₀ : Shared} {c : Code} {fs : List Frame} {s : Shared} {env : Env}
  {K : Flow → Sem PySem.Fin} {H : Value → Sem PySem.Fin} {gd : Bool → Bool} {lv : List Value → List Value}
theorem seg_For {target iter : Expr} {body orelse : List Stmt} {pos : Pos}
    (h : wpAny M (A.over c fs) (eval iter env) (fun x s₁ => wpAny M (A.over c fs) (pyIter x) (fun it s₂ => ∀ p, Seg M A R Y n s₀ (.forLoop target it body orelse env) (M.den (.forLoop target it body orelse env))
      (.ret (fun r => ((match r with | .ok f => (.pure f : Sem Flow) | .error e => .raise e).onRaise (cameBack env)).wrap K H gd lv) none (gd false) (lv []) c p [] :: fs) s₂) (fun x s' => Seg M A R Y n s₀ c (H x) fs s') s₁) (fun x s' => Seg M A R Y n s₀ c (H x) fs s') s)
    (hs : ∀ x, foldedSetIterable iter env x = pure x := by intro _; rfl) :
    Seg M A R Y n s₀ c ((exec (.For target iter body orelse pos) env).wrap K H gd lv) fs s := by
  rw [exec_For, Sem.bind_eq_wrap', Sem.wrap_wrap]
  refine seg_wrap (wpAny_standAt ?_)
  rw [Sem.bind_eq_wrap', Sem.wrap_wrap]
  refine seg_wrap (wpAny_mono h (fun x s1 h1 => ?_) fun x s' hx => hx)
  rw [hs x]
  show Seg _ _ _ _ _ _ _ ((standAt iter.pos >>= fun _ => holding [x] (pyIter x) >>= fun it => runOwn (.forLoop target it body orelse env) env).wrap K H gd lv) _ _
  rw [Sem.bind_eq_wrap', Sem.wrap_wrap]
  refine seg_wrap (wpAny_standAt ?_)
  rw [Sem.bind_eq_wrap', Sem.wrap_wrap]
  refine seg_wrap (wpAny_holding (wpAny_mono h1 (fun it s2 h2 => ?_) fun x s' hx => hx))
  exact seg_call h2
end
section
variable {prog : Program} {w : World} {A : Around} {R : GenEnd} {Y : Protocol} {n : Nat} {s₀ : Shared} {fs : List Frame} {s : Shared} {env : Env}
/-- an exception on its way out of the loop's code -/
abbrev loopOut (env : Env) (e : Value) : Sem PySem.Fin := (do noteFrame e env; theTreesLotGoes e : Sem Unit).wrap (fun _ => .raise e) .raise id id
theorem seg_forLoop {target : Expr} {it : Value} {body : List Stmt}
    (h : wpAny (model prog w) (A.over (.forLoop target it body [] env) fs) (pyNext it) (fun r s' => match r with
      | none => Seg (model prog w) A R Y n s₀ (.forLoop target it body [] env) (.pure (.again (.block [] env))) fs s'
      | some v => wpAny (model prog w) (A.over (.forLoop target it body [] env) fs) (letOwnedTupleGo target it v) (fun _ s1 => wpAny (model prog w) (A.over (.forLoop target it body [] env) fs) (assign target env v) (fun _ s2 =>
          Seg (model prog w) A R Y n s₀ (.forLoop target it body [] env) ((execs body env).wrap (fun f => match f with
            | .next | .cont => .pure (.again (.forLoop target it body [] env))
            | .brk => .pure (.done .next)
            | .ret v => .pure (.done (.ret v))) (loopOut env) id id) fs s2)
          (fun x s' => Seg (model prog w) A R Y n s₀ (.forLoop target it body [] env) (loopOut env x) fs s') s1) (fun x s' => Seg (model prog w) A R Y n s₀ (.forLoop target it body [] env) (loopOut env x) fs s') s')
      (fun x s' => Seg (model prog w) A R Y n s₀ (.forLoop target it body [] env) (loopOut env x) fs s') s) :
    Seg (model prog w) A R Y n s₀ (.forLoop target it body [] env) ((model prog w).den (.forLoop target it body [] env)) fs s := by
  have hr : ∀ x, (do noteFrame x env; theTreesLotGoes x : Sem Unit).bind (fun _ => (Sem.raise x : Sem PySem.Fin)) = loopOut env x := fun x => by rw [Sem.bind_eq_wrap]
  show Seg _ A R Y n s₀ _ ((forTurn target it body [] env).onRaise (fun x => do noteFrame x env; theTreesLotGoes x)) fs s
  simp only [forTurn]
  rw [Sem.onRaise_eq_wrap, Sem.bind_eq_wrap', Sem.wrap_wrap]
  refine seg_wrap (wpAny_standAt ?_)
  rw [Sem.bind_eq_wrap', Sem.wrap_wrap]
  refine seg_wrap (wpAny_onRaise (wpAny_mono h (fun r s1 h1 => ?_) fun x s' hx => wpAny_standAt ?_))
  · cases r with
    | none => exact h1
    | some v =>
      have hx : ∀ x s', Seg (model prog w) A R Y n s₀ (.forLoop target it body [] env) (loopOut env x) fs s' → Seg (model prog w) A R Y n s₀ (.forLoop target it body [] env) (((do noteFrame x env; theTreesLotGoes x : Sem Unit).bind fun _ => (Sem.raise x : Sem PySem.Fin))) fs s' := fun x s' hx => by rw [hr]; exact hx
      show Seg _ A R Y n s₀ _ ((letOwnedTupleGo target it v >>= fun _ => assign target env v >>= fun _ => execs body env >>= fun f => match f with
            | .next | .cont => again (.forLoop target it body [] env)
            | .brk => pure (.done .next)
            | .ret v => pure (.done (.ret v))).wrap _ _ _ _) fs s1
      rw [Sem.bind_eq_wrap', Sem.wrap_wrap]
      refine seg_wrap (wpAny_mono h1 (fun _ s2 h2 => ?_) fun x s' h => hx x s' h)
      rw [Sem.bind_eq_wrap', Sem.wrap_wrap]
      refine seg_wrap (wpAny_mono h2 (fun _ s3 h3 => ?_) fun x s' h => hx x s' h)
      rw [Sem.bind_eq_wrap', Sem.wrap_wrap]
      refine Eq.mp ?_ h3
      refine congrArg (fun m => Seg (model prog w) A R Y n s₀ (.forLoop target it body [] env) m fs s3) ?_
      exact Sem.wrap_congr _ _ _ (fun f => by cases f <;> rfl) (fun e => (hr e).symm)
  · show Seg _ A R Y n s₀ _ ((do noteFrame x env; theTreesLotGoes x : Sem Unit).bind fun _ => .raise x) fs s'
    rw [hr]
    exact hx
end
section
variable {X : Cx} {tg iter : Expr} {body : List Stmt} {wi : TI} {g : TG} {tb : TGn} {pos : Pos}
def tGFor (wi : TI) (g : TG) (tb : TGn) : TGn := fun D ys σ H => wi σ H fun J H1 => ∃ W : Nat → Nat → List V → L2.St → Hp → Prop, (∃ m, W 0 m ys σ H1) ∧ ∀ i m ys σ H, W i m ys σ H →
  (J.stop i H ∧ D.nx ys σ H) ∨ (J.go i H ∧ ∃ N : List V → L2.St → Hp → Prop, (∀ ys' σ' H', N ys' σ' H' → ∃ m', m' < m ∧ W (i + 1) m' ys' σ' H') ∧ ∀ x H', J.yld i H x H' → g x σ H' fun σ2 H2 => tb { D with nx := N, ct := N, bk := D.nx } ys σ2 H2)
theorem gs_for (hp : PassesOwn (model X.prog X.w) X.A X.env X.xe) (hc : X.calm = true) (hi : PI X tg iter wi) (hg : PG X tg g) (hb : GSs X body tb)
    (hs : ∀ x, foldedSetIterable iter X.env x = pure x := by intro _; rfl) : GS X (.For tg iter body [] pos) (tGFor wi g tb) := by
  refine ⟨fun A S ip R n ys s₀ c fs K J gd lv s σ H D gc hn k hI ht => ?_⟩
  obtain ⟨acc0, cc0, r0, I0⟩ := hI
  refine seg_For ?_ hs
  rw [gc.over]
  refine wpAny_mono (hi.run _ s σ H _ I0 ht) (fun v s1 h1 => wpAny_mono h1 (fun itv s2 h2 => ?_) fun x s' hx => k.exc n s₀ x s' hx) fun x s' hx => k.exc n s₀ x s' hx
  obtain ⟨it, fp, tn, J0, H2, e, I2, T, st2, f2, W, ⟨m0, w0⟩, turn⟩ := h2
  subst e
  intro p
  have gl := fun (kk : Result → Sem PySem.Fin) => gc_loop (k := kk) (c' := .forLoop tg (.ref it) body [] X.env) (l := lv []) (kp := []) (p := p) gc rfl rfl
  have nS : ∀ b ∈ fp, b ≠ S := fun b hb e => (f2 b hb).2.2.2.2.2 (S, lstObj acc0 cc0) (List.mem_append_right _ List.mem_cons_self) e.symm
  have stat : ∀ {H' : Hp} {acc : Array Value} {cc : Nat}, (∀ b ∈ fp, H' b = none) → ∀ b ∈ fp, FpOk X ((S, lstObj acc cc) :: ip) H' b := fun {H' acc cc} hn b hb => by
    obtain ⟨q0, q1, q2, q3, q4, q5⟩ := f2 b hb
    refine ⟨hn b hb, q1, q2, q3, q4, fun p hp => ?_⟩
    rcases List.mem_append.mp hp with hp | hp
    · exact q5 p (List.mem_append_left _ hp)
    · rcases List.mem_cons.mp hp with hp | hp
      · rw [hp]; exact fun e => nS b hb e.symm
      · exact q5 p (List.mem_append_right _ (List.mem_cons_of_mem _ hp))
  have loop : ∀ (m i n : Nat) (ys : List V) (s₀ s : Shared) (σ : L2.St) (H : Hp) (acc : Array Value) (cc : Nat), n + ys.length = sizeLine → W i m ys σ H → Vals ys acc.toList → Inv X ((S, lstObj acc cc) :: ip) σ H s → tn i s.heap → (∀ b ∈ fp, H b = none) →
      Seg (model X.prog X.w) A R (GY X S) n s₀ (.forLoop tg (.ref it) body [] X.env) ((model X.prog X.w).den (.forLoop tg (.ref it) body [] X.env))
        (.ret (fun r => ((match r with | .ok f => (.pure f : Sem Flow) | .error e => .raise e).onRaise (cameBack X.env)).wrap K J gd lv) none (gd false) (lv []) c p [] :: fs) s := by
    intro m
    induction m using Nat.strongRecOn with
    | ind m ih =>
      intro i n ys s₀ s σ H acc cc hn w r I st fr
      have ee : ∀ (n : Nat) (s₀ : Shared) (x : Value) (s' : Shared), X.xe x s' → Seg (model X.prog X.w) A R (GY X S) n s₀ (.forLoop tg (.ref it) body [] X.env) (loopOut X.env x)
          (.ret (fun r => ((match r with | .ok f => (.pure f : Sem Flow) | .error e => .raise e).onRaise (cameBack X.env)).wrap K J gd lv) none (gd false) (lv []) c p [] :: fs) s' := fun n s₀ x s' hx => by
        refine seg_wrap ?_
        rw [(gl _).over]
        refine wpAny_bind (wpAny_mono (hp x s' hx) (fun _ s'' hcb => wpAny_theTreesLotGoes ?_) fun y s'' hcb => ?_)
        · exact seg_leaf (.error x) (seg_cameBack gc k hcb)
        · exact seg_leaf (.error y) (seg_cameBack gc k hcb)
      refine seg_forLoop ?_
      rw [(gl _).over]
      rcases turn i m ys σ H w with ⟨stop, qn⟩ | ⟨go, N, hN, step⟩
      · refine wpAny_mono (T.done X rfl rfl rfl hc i _ s σ H X.xe I (stat fr) st stop) (fun r1 s4 ⟨hr, I4⟩ => ?_) fun x s' hx => ee n s₀ x s' hx
        subst hr
        refine seg_again rfl ?_
        show Seg _ _ _ _ _ _ _ (.pure (.done .next)) _ _
        exact seg_leaf (.ok .next) (k.ok n ys s₀ s4 .next hn ⟨σ, H, ⟨acc, cc, r, I4⟩, qn⟩)
      · refine wpAny_mono (T.item X rfl rfl rfl hc i _ s σ H X.xe I (stat fr) st go) (fun r1 s4 ⟨u, hr, h4⟩ => ?_) fun x s' hx => ee n s₀ x s' hx
        subst hr
        refine wpAny_mono h4 (fun _ s5 ⟨x, H5, I5, r5, y5, st5, fr5⟩ => ?_) fun x s' hx => ee n s₀ x s' hx
        have I5' := I5.pinned (stat fr5) (T.obj _ _ st5)
        refine wpAny_mono (hg.run _ s5 σ H5 x u _ I5' r5 (step x H5 y5)) (fun _ s6 ⟨σ6, H6, I6, q6⟩ => ?_) fun x s' hx => ee n s₀ x s' hx
        have again : ∀ {n' : Nat} {ys' : List V} {s₀' s7 : Shared} {σ7 : L2.St} {H7 : Hp}, n' + ys'.length = sizeLine → GI X S (ip ++ pinsAt fp s5.heap) ys' σ7 H7 s7 → N ys' σ7 H7 → Seg (model X.prog X.w) A R (GY X S) n' s₀' (.forLoop tg (.ref it) body [] X.env) ((model X.prog X.w).den (.forLoop tg (.ref it) body [] X.env))
            (.ret (fun r => ((match r with | .ok f => (.pure f : Sem Flow) | .error e => .raise e).onRaise (cameBack X.env)).wrap K J gd lv) none (gd false) (lv []) c p [] :: fs) s7 := fun {n' ys' s₀' s7 σ7 H7} hn' G7 n7 => by
          obtain ⟨m', hm, w7⟩ := hN ys' σ7 H7 n7
          obtain ⟨acc7, cc7, r7, I7⟩ := G7
          have I7 : Inv X (((S, lstObj acc7 cc7) :: ip) ++ pinsAt fp s5.heap) σ7 H7 s7 := I7
          refine ih m' hm (i + 1) n' ys' s₀' s7 σ7 H7 acc7 cc7 hn' w7 r7 I7.unpinned (T.keep _ _ _ st5 fun b hb o e => (I7.pin (b, o) (List.mem_append_right _ (List.mem_append_right _ (mem_pinsAt hb e)))).1) fun b hb => ?_
          obtain ⟨o, e, d⟩ := T.obj _ _ st5 b hb
          exact (I7.pin (b, o) (List.mem_append_right _ (List.mem_append_right _ (mem_pinsAt hb e)))).2.1
        have unpin : ∀ {ys' : List V} {s7 : Shared} {σ7 : L2.St} {H7 : Hp}, GI X S (ip ++ pinsAt fp s5.heap) ys' σ7 H7 s7 → GI X S ip ys' σ7 H7 s7 := fun {ys' s7 σ7 H7} G7 => by
          obtain ⟨acc7, cc7, r7, I7⟩ := G7
          have I7 : Inv X (((S, lstObj acc7 cc7) :: ip) ++ pinsAt fp s5.heap) σ7 H7 s7 := I7
          exact ⟨acc7, cc7, r7, I7.unpinned⟩
        have gc2 : ∀ kk, GC X S (ip ++ pinsAt fp s5.heap) A (.forLoop tg (.ref it) body [] X.env) (.ret kk none (gd false) (lv []) c p [] :: fs) id := fun kk => ⟨gc.pn, fun q hq => (List.mem_append.mp hq).elim (fun hq => gc.ip q hq) fun hq => nS _ (of_pinsAt hq).1, gc.apart, (gl kk).over, (gl kk).split, (gl kk).guard, rfl⟩
        refine hb.run A S (ip ++ pinsAt fp s5.heap) R n ys s₀ _ _ _ _ id id s6 σ6 H6 { D with nx := N, ct := N, bk := D.nx } (gc2 _) hn ⟨fun n' ys' s₀' s7 f hn' hs7 => ?_, fun n' s₀' x s7 hx => ee n' s₀' x s7 hx⟩ ⟨acc, cc, r, I6⟩ q6
        cases f with
        | next => obtain ⟨σ7, H7, I7, n7⟩ := hs7; exact seg_again rfl (again hn' I7 n7)
        | cont => obtain ⟨σ7, H7, I7, n7⟩ := hs7; exact seg_again rfl (again hn' I7 n7)
        | brk => obtain ⟨σ7, H7, I7, q7⟩ := hs7; exact seg_leaf (.ok .next) (k.ok n' ys' s₀' s7 .next hn' ⟨σ7, H7, unpin I7, q7⟩)
        | ret v => obtain ⟨x7, σ7, H7, I7, r7, q7⟩ := hs7; exact seg_leaf (.ok (.ret v)) (k.ok n' ys' s₀' s7 (.ret v) hn' ⟨x7, σ7, H7, unpin I7, r7, q7⟩)
  exact loop m0 0 n ys s₀ s2 σ H2 acc0 cc0 hn w0 r0 I2 st2 fun b hb => (f2 b hb).1
end
end Pf

namespace Pf
open PySem PySem.Spec PyProof.Rows L2
/-! ### generators, told by pure values -/
structure GPE where
  nx : List P → PEnv → Prop
  bk : List P → PEnv → Prop
  ct : List P → PEnv → Prop
  ex : PEnv → XP
abbrev WG := GPE → List P → PEnv → Prop
section
variable {K : PySem.W.Frag} {W : WX}
def GOk (K : PySem.W.Frag) (F0 H0 : Hp) (Dp : GPE) (D : GEnds) : Prop :=
  (∀ σ F H env vs xs, Good K F0 H0 σ F H env → RL K F vs xs → Dp.nx xs env → D.nx vs σ H) ∧
  (∀ σ F H env vs xs, Good K F0 H0 σ F H env → RL K F vs xs → Dp.bk xs env → D.bk vs σ H) ∧
  (∀ σ F H env vs xs, Good K F0 H0 σ F H env → RL K F vs xs → Dp.ct xs env → D.ct vs σ H)
theorem GOk.base {F0 F1 H0 : Hp} {Dp : GPE} {D : GEnds} (e : Ext H0 F0 F1) (d : GOk K F0 H0 Dp D) : GOk K F1 H0 Dp D :=
  ⟨fun σ F H env vs xs g => d.1 σ F H env vs xs (g.back e), fun σ F H env vs xs g => d.2.1 σ F H env vs xs (g.back e), fun σ F H env vs xs g => d.2.2 σ F H env vs xs (g.back e)⟩
def SGn (K : PySem.W.Frag) (W : WX) (t : TGn) (b : WG) : Prop :=
  ∀ F0 H0 σ F H env vs xs Dp D, Good K F0 H0 σ F H env → RL K F vs xs → b Dp xs env → GOk K F0 H0 Dp D → WOk K W F0 H0 Dp.ex → t D vs σ H
def wGP (b : WS) : WG := fun D xs env => b ⟨D.nx xs, fun _ => False, D.bk xs, D.ct xs, D.ex⟩ env
theorem gn_ps {t : TS} {b : WS} (h : SS K W false t b) : SGn K W (tPlain t) (wGP b) := fun F0 H0 σ F H env vs xs Dp D g r hw d x =>
  h F H0 σ F H env _ (D.at vs) g.base hw ⟨fun σ' F' H' env' g' h' => (d.base g.e).1 σ' F' H' env' vs xs g' (r.mono g'.e.1) h', fun _ _ _ _ _ _ h' => h'.elim,
    fun σ' F' H' env' g' h' => (d.base g.e).2.1 σ' F' H' env' vs xs g' (r.mono g'.e.1) h', fun σ' F' H' env' g' h' => (d.base g.e).2.2 σ' F' H' env' vs xs g' (r.mono g'.e.1) h'⟩ (x.base g.e)
def wG0 : WG := fun D xs env => D.nx xs env
theorem gn_nil : SGn K W tG0 wG0 := fun F0 H0 σ F H env vs xs Dp D g r hw d x => d.1 σ F H env vs xs g r hw
def wGSeq (a b : WG) : WG := fun D xs env => a { D with nx := b D } xs env
theorem gn_cons {t u : TGn} {a b : WG} (ht : SGn K W t a) (hu : SGn K W u b) : SGn K W (tGThen t u) (wGSeq a b) := fun F0 H0 σ F H env vs xs Dp D g r hw d x =>
  ht F0 H0 σ F H env vs xs _ _ g r hw ⟨fun σ' F' H' env' vs' xs' g' r' h' => hu F0 H0 σ' F' H' env' vs' xs' Dp D g' r' h' d x, d.2.1, d.2.2⟩ x
def wGY (w : WE) : WG := fun D xs env => xs.length < 16777216 ∧ w env (fun x => D.nx (xs ++ [x]) env) (D.ex env)
theorem gn_yield {te : TE} {w : WE} (h : SE K W .V te w) : SGn K W (tGYield te) (wGY w) := fun F0 H0 σ F H env vs xs Dp D g r hw d x =>
  ⟨by rw [r.len, sizeLine_eq]; exact hw.1, h F0 H0 σ F H env _ _ _ g hw.2 (x.x g) fun F1 H1 v y m ry h1 => d.1 σ F1 H1 env _ _ (g.mv m) ((r.mono m.e.1).app (.cons ry .nil)) h1⟩
def wGF (wi : WI) (g : P → PEnv → (PEnv → Prop) → Prop) (b : WG) : WG := fun D xs env => wi env (fun zs => ∃ Inv : Nat → List P → PEnv → Prop, Inv 0 xs env ∧
  (∀ i x ys e, zs[i]? = some x → Inv i ys e → g x e fun e2 => b { D with nx := Inv (i + 1), ct := Inv (i + 1), bk := D.nx } ys e2) ∧ ∀ ys e, Inv zs.length ys e → D.nx ys e) (D.ex env)
theorem for_itG {J : It} {n : Nat} {G : Hp → Prop} {Y : Nat → Hp → V → Hp → Prop} (w : Walk J n G Y) {g : TG} {tb : TGn} {D : GEnds} {vs : List V} {σ : L2.St} {H : Hp} (Pv : Nat → List V → L2.St → Hp → Prop) (h0 : Pv 0 vs σ H) (hG : ∀ i vs σ H, i ≤ n → Pv i vs σ H → G H)
    (hs : ∀ i x vs σ H H', i < n → Pv i vs σ H → Y i H x H' → g x σ H' fun σ2 H2 => tb { D with nx := Pv (i + 1), ct := Pv (i + 1), bk := D.nx } vs σ2 H2) (hd : ∀ vs σ H, Pv n vs σ H → D.nx vs σ H) :
    ∃ W : Nat → Nat → List V → L2.St → Hp → Prop, (∃ m, W 0 m vs σ H) ∧ ∀ i m ys σ H, W i m ys σ H →
      (J.stop i H ∧ D.nx ys σ H) ∨ (J.go i H ∧ ∃ N : List V → L2.St → Hp → Prop, (∀ ys' σ' H', N ys' σ' H' → ∃ m', m' < m ∧ W (i + 1) m' ys' σ' H') ∧ ∀ x H', J.yld i H x H' → g x σ H' fun σ2 H2 => tb { D with nx := N, ct := N, bk := D.nx } ys σ2 H2) := by
  refine ⟨fun i m ys σ H => m = n - i ∧ i ≤ n ∧ Pv i ys σ H, ⟨n, by simp, Nat.zero_le _, h0⟩, ?_⟩
  rintro i m ys σ H ⟨rfl, hi, p⟩
  have q := hG i ys σ H hi p
  by_cases hlt : i < n
  · exact .inr ⟨w.goes i H hlt q, Pv (i + 1), fun ys' σ' H' p' => ⟨n - (i + 1), by omega, rfl, hlt, p'⟩, fun x H' y => hs i x ys σ H H' hlt p (w.yields i H x H' hlt q y)⟩
  · have e : i = n := by omega
    subst e
    exact .inl ⟨w.stops H q, hd ys σ H p⟩
theorem gn_for {ts : List Nat} {wi : TI} {a : WI} {g : TG} {gw : P → PEnv → (PEnv → Prop) → Prop} {tb : TGn} {b : WG} (hi : SimI K W wi a) (hg : SimG K ts g gw) (hb : SGn K W tb b) : SGn K W (tGFor wi g tb) (wGF a gw b) := fun F0 H0 σ F H env vs xs Dp D gd r hw d x => by
  refine hi F0 H0 σ F H env _ _ _ gd hw (x.x gd) fun F1 H1 J zs m wk h => ?_
  obtain ⟨Inv, h0, hs, hd⟩ := h
  have g1 := gd.mv m
  have d1 : GOk K F1 H0 Dp D := d.base g1.e
  have x1 : WOk K W F1 H0 Dp.ex := x.base g1.e
  obtain ⟨G, Y, w, okG, okY⟩ := wk
  refine for_itG w (fun i ys σ' H' => ∃ F' e us, Good K F1 H0 σ' F' H' e ∧ RL K F' ys us ∧ Inv i us e) ⟨F1, env, xs, g1.base, r.mono m.e.1, h0⟩ (fun i ys σ' H' _ ⟨F', e, us, g', _⟩ => okG F' H' ⟨g'.e.1, g'.fh, g'.hh⟩) (fun i v ys σ' H' H2 hi ⟨F', e, us, g', ru, hI⟩ y => ?_) (fun ys σ' H' ⟨F', e, us, g', ru, hI⟩ => d1.1 σ' F' H' e ys us g' ru (hd us e hI))
  obtain ⟨y, F2, ey, m2, r2⟩ := okY i F' H' v H2 hi ⟨g'.e.1, g'.fh, g'.hh⟩ y
  refine hg F1 H0 σ' F2 H2 e v y _ _ (g'.mv m2) r2 (hs i y us e ey hI) fun σ3 e3 g3 _ h3 => ?_
  exact hb F1 H0 σ3 F2 H2 e3 ys us _ _ g3 (ru.mono m2.e.1) h3 ⟨fun σ4 F4 H4 e4 vs4 xs4 g4 r4 h4 => ⟨F4, e4, xs4, g4, r4, h4⟩, fun σ4 F4 H4 e4 vs4 xs4 g4 r4 h4 => d1.1 σ4 F4 H4 e4 vs4 xs4 g4 r4 h4, fun σ4 F4 H4 e4 vs4 xs4 g4 r4 h4 => ⟨F4, e4, xs4, g4, r4, h4⟩⟩ x1
/-- a generator def's promise: the list of all that it hands out -/
abbrev PSpG := List P → (List P → Prop) → XP → Prop
def spGOf (K : PySem.W.Frag) (ms : List Mo) (p : PSpG) : SpG := fun vs H cont E => ∃ F xs Qp Xp, Same F H ∧ AL K F H ms vs xs ∧ p xs Qp Xp ∧
  (∀ F' H' vs' ys, Mv F H F' H' → RL K F' vs' ys → Qp ys → cont vs' H') ∧ (∀ F' H' C d ns ys, Mv F H F' H' → XF K F' d ns ys → Xp C ns ys → E (.ref C) d H')
def endsG (Q : List P → Prop) (X : XP) : GPE := ⟨fun xs _ => Q xs, fun _ _ => False, fun _ _ => False, fun _ => X⟩
variable {Pg : Program} {w : World} {mg : Str → Option Value} {base : Heap} {x qual : Str} {st : Stmt} {f : Addr} {fd : FuncData} {N ps : List Str} {kk : Nat} {ms : List Mo} {p : PSpG} {b : WG}
theorem gfn_sim (F : Fun K x qual st f fd) (S : GScope N ps (defScope st)) (hm : ms.length = ps.length)
    (hbody : ∀ (cdv : Value) (A : Around) (outer : List Env) (s : Shared) (H : Hp) (E : XK) (pn : List (Addr × Obj)), Room kk (A.deeper (envOfC qual (defScope st) s.heap.objs.size f cdv)) → ∃ t, GSs (gcxOf Pg w K mg base N qual (defScope st) f cdv A outer s H E pn) (defBody st) t ∧ SGn K (fun cls d _ H => E cls d H) t b)
    (hp : ∀ xs Q X, p xs Q X → b (endsG Q X) [] (startP N ms xs)) : GFn Pg w K mg base (kk + 1) f fd ps (spGOf K ms p) := by
  obtain ⟨oc, od, kV, doc, pm, an, cdv, ct, osl, rfl, lk, hcd⟩ := F.ex
  refine gfn_of lk hcd S (fun vs H Q E ⟨F1, xs, Qp, Xp, s, al, _⟩ => ?_) fun A outer s H vs Q E pn hr ⟨F1, xs, Qp, Xp, sm, al, hq, q, qx⟩ => ?_
  · obtain ⟨l1, l2⟩ := al.lens
    rw [l2, ← l1, hm]
  · obtain ⟨t, ht, sim⟩ := hbody cdv A outer s H E pn hr
    exact ⟨t, ht, sim F1 H _ F1 H _ [] [] _ _ (good_start sm al) .nil (hp xs Qp Xp hq) ⟨fun σ F' H' env vs xs g r h => q F' H' vs xs g.m r h, fun _ _ _ _ _ _ _ _ h => h.elim, fun _ _ _ _ _ _ _ _ h => h.elim⟩ fun σ F' H' env C d ns ys g f h => qx F' H' C d ns ys g.m f h⟩
end
/-! ### list(g(..)) -/
section
variable {X : Cx} {kk n : Nat} {f : Addr} {fd : FuncData} {ps ks : List Str} {sp : SpG} {x nm : Str} {p p2 pos pos2 : Pos} {e : Expr} {es : List Expr} {kws : List Keyword} {t tk : TA} {g : List Value → List Value → List Value} {gV : List V → List V → List V} {E : L2.St → XK}
structure PGenS (X : Cx) (k : Nat) (e : Expr) (tg : TGen) (E : L2.St → XK) : Prop where
  run : ∀ (pins : List (Addr × Obj)) (s : Shared) (σ : L2.St) (H : Hp) (cont : List V → Hp → Prop), Inv X pins σ H s → tg σ H cont → wpAny (model X.prog X.w) X.A (eval e X.env)
    (fun u s' => ∃ H1 sc ex, Inv X pins σ H1 sc ∧ ExOk X pins ex ∧ GMade X.prog X.w k X.stack H1 sc ex cont (E σ) u s') X.xe s
def tCallGN (n m : Nat) (sp : SpG) (gV : List V → List V → List V) (E : L2.St → XK) (t tk : TA) : TGen := fun σ H cont => t σ H fun vs H1 => tk σ H1 fun zs H2 => vs.length = n ∧ zs.length = m ∧ sp (gV vs zs) H2 cont (E σ)
theorem pgen_callN (F : GFn X.prog X.w X.K X.mg X.base kk f fd ps sp) (hr : Room kk X.A) (hg : Gl X x) (hm : X.mg x = some (.ref f)) (hk : PySem.W.keepIn X.K (.ref f) = true) (hb : KBn X.K fd ps n ks g gV)
    (ha : PA X (e :: es) t) (hkw : PK X kws tk) (hall : (backToKw pos (keywordEach kws X.env)).all (·.1.isSome) = true := by rfl) (hks : (backToKw pos (keywordEach kws X.env)).filterMap (·.1) = ks := by rfl)
    (hdb : (x == ("__debug__" : Str)) = false := by decide) (he : starEach (e :: es) X.env = (false, eval e X.env) :: starEach es X.env := by rfl)
    (hpl : ((backTo pos (starEach (e :: es) X.env)).any (·.1) || (backToKw pos (keywordEach kws X.env)).any (·.1.isNone)) = false := by rfl) :
    PGenS X kk (.Call (.Name x p) (e :: es) kws pos) (tCallGN n ks.length sp gV E t tk) E := by
  refine ⟨fun pins s σ H cont I h => ?_⟩
  refine wpAny_Call_Name_kw (ld_glob I hg hm ?_ hdb)
  refine PySem.W.callWith_KW (h₀ := X.base) I.ok.mod.kin hk hall (thn (ha.run pos pins s σ H _ I h) fun us s1 ⟨vs, H1, I1, r, q⟩ => ?_) hpl he
  refine thn (hkw.run pos pins s1 σ H1 _ I1 q) fun ws s2 ⟨zs, H2, I2, rz, l1, l2, q2⟩ => ⟨I2.kIn, ?_⟩
  rw [hks]
  refine wpAny_call (codeAny_mono (F.run X.A X.stack s2 H2 ⟨us, ks.zip ws⟩ (g us ws) (gV vs zs) cont (E σ) hr I2.env0 (hb.to s2 us ws I2.kIn (r.length.symm.trans l1) (rz.length.symm.trans l2)) (hb.rel r rz) q2) fun r s' hq => ?_)
  cases r with
  | error e => exact False.elim hq
  | ok fl =>
    cases fl with
    | ret u => exact ⟨H2, s2, [], I2, .nil, hq⟩
    | next => exact False.elim hq
    | brk => exact False.elim hq
    | cont => exact False.elim hq
def tCallGD (sp : SpG) (dvs : List V) (E : L2.St → XK) (t : TA) : TGen := fun σ H cont => t σ H fun vs H1 => sp (vs ++ dvs) H1 cont (E σ)
theorem pgen_callD {dvs : List V} (F : GFn X.prog X.w X.K X.mg X.base kk f fd ps sp) (hr : Room kk X.A) (hg : Gl X x) (hm : X.mg x = some (.ref f)) (hk : PySem.W.keepIn X.K (.ref f) = true) (hb : ∃ ds, Vals dvs ds ∧ Binds X.K fd ps ds)
    (ha : PA X (e :: es) t) (hdb : (x == ("__debug__" : Str)) = false := by decide) (he : starEach (e :: es) X.env = (false, eval e X.env) :: starEach es X.env := by rfl) (hpl : (backTo pos (starEach es X.env)).any (·.1) = false := by rfl) :
    PGenS X kk (.Call (.Name x p) (e :: es) [] pos) (tCallGD sp dvs E t) E := by
  obtain ⟨ds, h1, h2⟩ := hb
  refine ⟨fun pins s σ H cont I h => ?_⟩
  refine wpAny_Call_Name_kw (ld_glob I hg hm ?_ hdb)
  refine PySem.W.callWith_K (h₀ := X.base) I.ok.mod.kin hk (thn (ha.run pos pins s σ H _ I h) fun us s1 ⟨vs, H1, I1, r, q⟩ => ⟨I1.kIn, ?_⟩) he hpl
  exact run_gfn F hr h2 h1 I1 r q
theorem pe_listGS {tg : TGen} (h : PGenS X kk e tg E) (hx : ∀ σ, PassesAt (L2.CX X.prog X.w) X σ (E σ)) (hns : ∀ σ, NoStop X.K (E σ)) (hr : Room (kk + 3) X.A) (hg : Gl X nm) (hmg : X.mg nm = none) (hv : bootBuiltins nm = some (.type "list")) (hnm : nm ≠ "__name__" := by decide) (hdb : (nm == ("__debug__" : Str)) = false := by decide)
    (he : starEach [e] X.env = (false, eval e X.env) :: starEach [] X.env := by rfl) : PE X (.Call (.Name nm p) [e] [] pos) (tListG tg) := by
  refine ⟨fun pins s σ H Q I hq => ?_⟩
  refine wpAny_Call_Name_kw (ld_blt I hg hmg hv ?_ hnm hdb)
  refine PyProof.Rows.callWith_type1 ?_ he rfl
  rw [he]
  show wpAny _ _ (spliced ((false, eval e X.env) :: backTo pos (starEach [] X.env))) _ _ s
  refine Calls.spliced_cons (thn (h.run pins s σ H _ I hq) fun u s1 ⟨H1, sc, ex, I1, hex, hG⟩ => ?_)
  refine Calls.spliced_nil ?_
  have hsz : sc.heap.objs.size ≤ s1.heap.objs.size := by
    obtain ⟨a, g, c, _, h1, h2, _⟩ := hG
    exact Nat.le_trans h1 (Nat.le_of_lt h2)
  refine call_list_new hr I1.ok.frames hG (fun S s' acc c H' ys q0 q1 q2 hl q3 q4 q5 q6 q7 q8 => ?_) fun e s' g hc => ?_
  · exact ⟨.ref S, upd H' S (.lst ys), I1.drained (Nat.le_trans hsz q0) hl q1 q2 hex q3 q4 q5 q6 q7, rfl, q8 S q7⟩
  · have kin : X.K.In s'.heap := by
      obtain ⟨a, B, H', cls, d, _, fl, _, ub, _⟩ := id hc
      refine I1.ok.mod.kin.keeps fun b o eb => fl.1 b o (ub.keep b o (I1.bs b o eb).1 (I1.bs b o eb).2 fun hm => ?_)
      rcases List.mem_cons.mp (I1.stkSub b hm) with z | z
      · have h1 := Heap.lt_size eb
        have h2 := Nat.le_trans I1.ok.bsz I1.ok.above
        rw [z] at h1
        exact absurd (Nat.lt_of_lt_of_le h1 h2) (Nat.lt_irrefl _)
      · exact I1.ok.nofr eb z
    refine ⟨notStop_of (hns σ) kin hc, hx σ pins H1 sc e _ I1 ?_⟩
    · obtain ⟨a, B, H', cls, d, z1, fl, z2, ub, z3, z4, z5, z6⟩ := hc
      exact ⟨a, B, H', cls, d, z1, fl, z2, ub, z3, z4, allBare_setGen z5 rfl, z6⟩
end
end Pf
namespace Pf
open PySem PySem.Spec PyProof.Rows L2
section
variable {K : PySem.W.Frag} {W : WX}
def ER (K : PySem.W.Frag) (W : WX) (C : Addr) (σ : L2.St) : XK := fun cls d H => cls = .ref C ∧ L2.WE W σ cls d H
theorem er_stop {C : Addr} (h : PySem.W.subIn K (.ref C) (.type "StopIteration") = some false) (σ : L2.St) : NoStop K (ER K W C σ) := fun cls d H e => by rw [e.1]; exact h
theorem er_pass {X : Cx} {C : Addr} (tk : Takes X W) (σ : L2.St) : PassesAt (L2.CX X.prog X.w) X σ (ER X.K W C σ) := fun pins H s e s' I c => by
  refine L2.passAt tk σ pins H s e s' I ?_
  obtain ⟨a, B, H', cls, d, z1, fl, z2, ub, z3, z4, z5, z6⟩ := c
  exact ⟨a, B, H', cls, d, z1, fl, z2, ub, z3, z4, z5, z6.2⟩
def spGP (K : PySem.W.Frag) (ms : List Mo) (p : PSp) : SpG := spGOf K ms fun xs Q X => p xs (fun x => onLst x Q) X
def wLGN (C : Addr) (p : PSp) (a b : WA) : WE := fun env Q X => a env (fun xs => b env (fun ys => p (xs ++ ys) (fun x => onLst x fun zs => Q (.lst zs)) fun C' ns zs => C' = C ∧ X C' ns zs) X) X
theorem se_lgN {ms mk : List Mo} {p : PSp} {C : Addr} {n m : Nat} {t tk : TA} {w wk : WA} (h : SimA K W ms t w) (hk : SimA K W mk tk wk) (hn : ms.length = n) (hm : mk.length = m) : SE K W .O (tListG (tCallGN n m (spGP K (ms ++ mk) p) (fun vs zs => vs ++ zs) (ER K W C) t tk)) (wLGN C p w wk) :=
  fun F0 H0 σ F H env Qp Xp Q g hw hx q => h F0 H0 σ F H env _ Xp _ g hw hx fun F1 H1 vs xs m1 r1 h1 =>
    hk F0 H0 σ F1 H1 env _ Xp _ (g.mv m1) h1 (hx.mv m1) fun F2 H2 zs ys m2 r2 h2 =>
      ⟨by have := r1.lens; omega, by have := r2.lens; omega, F2, xs ++ ys, fun zs => Qp (.lst zs), _, m2.fh, (r1.mv m2).app r2, h2,
        fun F3 H3 us us' m3 r3 h3 p np => q F3 _ _ (.lst us') (((m1.trans m2).trans m3).trans (mv_new m3.fh np)) (.inl ⟨p, _, rfl, ((m1.s.trans m2.s).trans m3.s).free np, same_free m3.fh np, upd_same, .l r3⟩) h3,
        fun F' H' C' d ns ys m f z => ⟨by rw [z.1], hx F' H' C' d ns ys ((m1.trans m2).trans m) f z.2⟩⟩
def wLGD (C : Addr) (p : PSp) (d : P) (a : WA) : WE := fun env Q X => a env (fun xs => p (xs ++ [d]) (fun x => onLst x fun zs => Q (.lst zs)) fun C' ns zs => C' = C ∧ X C' ns zs) X
theorem se_lgD {ms : List Mo} {p : PSp} {C : Addr} {i : Int} {t : TA} {w : WA} (h : SimA K W ms t w) : SE K W .O (tListG (tCallGD (spGP K (ms ++ [.v]) p) [.int i] (ER K W C) t)) (wLGD C p (.int i) w) :=
  fun F0 H0 σ F H env Qp Xp Q g hw hx q => h F0 H0 σ F H env _ Xp _ g hw hx fun F1 H1 vs xs m1 r1 h1 =>
    ⟨F1, xs ++ [.int i], fun zs => Qp (.lst zs), _, m1.fh, r1.app ⟨R.int i, trivial⟩, h1,
      fun F3 H3 us us' m3 r3 h3 p np => q F3 _ _ (.lst us') ((m1.trans m3).trans (mv_new m3.fh np)) (.inl ⟨p, _, rfl, (m1.s.trans m3.s).free np, same_free m3.fh np, upd_same, .l r3⟩) h3,
      fun F' H' C' d ns ys m f z => ⟨by rw [z.1], hx F' H' C' d ns ys (m1.trans m) f z.2⟩⟩
end
end Pf
namespace Pf
open PySem PySem.Spec PyProof.Rows L2
section
variable {K : PySem.W.Frag} {W : WX}
def wGFrz (i : Nat) (a : WG) : WG := fun D xs env => match env[i]? with
  | some (some (.o, x)) => a D xs (env.set i (some (.v, x)))
  | _ => a D xs env
theorem gn_frz {t : TGn} {a : WG} (i : Nat) (ht : SGn K W t a) : SGn K W t (wGFrz i a) := fun F0 H0 σ F H env vs xs Dp D g r hw d x => by
  unfold wGFrz at hw
  split at hw
  · rename_i y e
    obtain ⟨F', g'⟩ := g.base.frz e
    exact ht F H0 σ F' H _ vs xs Dp D g' (r.mono g'.e.1) hw (d.base g.e) (x.base g.e)
  · exact ht F0 H0 σ F H env vs xs Dp D g r hw d x
def ForG (zs : List P) (g : P → PEnv → (PEnv → Prop) → Prop) (b : WG) (D : GPE) (xs : List P) (env : PEnv) : Prop := ∃ Inv : Nat → List P → PEnv → Prop, Inv 0 xs env ∧
  (∀ i x ys e, zs[i]? = some x → Inv i ys e → g x e fun e2 => b { D with nx := Inv (i + 1), ct := Inv (i + 1), bk := D.nx } ys e2) ∧ ∀ ys e, Inv zs.length ys e → D.nx ys e
theorem ap_gf {wi : WI} {g : P → PEnv → (PEnv → Prop) → Prop} {b : WG} {D : GPE} {xs : List P} {env : PEnv} : (wGF wi g b D xs env) = (wi env (fun zs => ForG zs g b D xs env) (D.ex env)) := rfl
theorem ap_gseq {a b : WG} {D : GPE} {xs : List P} {env : PEnv} : (wGSeq a b D xs env) = (a { D with nx := b D } xs env) := rfl
theorem ap_g0 {D : GPE} {xs : List P} {env : PEnv} : (wG0 D xs env) = D.nx xs env := rfl
theorem ap_gp {b : WS} {D : GPE} {xs : List P} {env : PEnv} : (wGP b D xs env) = (b ⟨D.nx xs, fun _ => False, D.bk xs, D.ct xs, D.ex⟩ env) := rfl
theorem ap_gy {w : WE} {D : GPE} {xs : List P} {env : PEnv} : (wGY w D xs env) = (xs.length < 16777216 ∧ w env (fun x => D.nx (xs ++ [x]) env) (D.ex env)) := rfl
theorem ap_gfrz {i : Nat} {a : WG} {D : GPE} {xs : List P} {env : PEnv} : (wGFrz i a D xs env) = (match env[i]? with
  | some (some (.o, x)) => a D xs (env.set i (some (.v, x)))
  | _ => a D xs env) := rfl
theorem ap_eg {Q : List P → Prop} {X : XP} : (endsG Q X) = ⟨fun xs _ => Q xs, fun _ _ => False, fun _ _ => False, fun _ => X⟩ := rfl
theorem ap_lgN {C : Addr} {p : PSp} {a b : WA} {env : PEnv} {Q : P → Prop} {X : XP} : (wLGN C p a b env Q X) = (a env (fun xs => b env (fun ys => callP p (xs ++ ys) (fun x => onLst x fun zs => Q (.lst zs)) fun C' ns zs => C' = C ∧ X C' ns zs) X) X) := rfl
theorem ap_lgD {C : Addr} {p : PSp} {d : P} {a : WA} {env : PEnv} {Q : P → Prop} {X : XP} : (wLGD C p d a env Q X) = (a env (fun xs => callP p (xs ++ [d]) (fun x => onLst x fun zs => Q (.lst zs)) fun C' ns zs => C' = C ∧ X C' ns zs) X) := rfl
end
section
variable {α : Type} {enc : α → P} {l : List α} {zs : List P} {g : P → PEnv → (PEnv → Prop) → Prop} {b : WG} {D : GPE} {acc : List P} {env : PEnv}
theorem forGA [h : ML zs α enc l] (ts : List Nat) (k : Nat) (m : Mo) {β : Type} (f : β → P) (I : Nat → List P → β → Prop) (a0 : β) (h0 : I 0 acc a0) (he : Any ts (env.set k (some (m, f a0))) env)
    (hs : ∀ i a ys c e, l[i]? = some a → i < l.length → I i ys c → Any ts (env.set k (some (m, f c))) e → g (enc a) e fun e2 => b { D with nx := fun us e3 => ∃ c2, I (i + 1) us c2 ∧ Any ts (env.set k (some (m, f c2))) e3, ct := fun us e3 => ∃ c2, I (i + 1) us c2 ∧ Any ts (env.set k (some (m, f c2))) e3, bk := D.nx } ys e2)
    (hd : ∀ ys c e, I l.length ys c → Any ts (env.set k (some (m, f c))) e → D.nx ys e) : ForG zs g b D acc env := by
  refine ⟨fun i us e => ∃ c, I i us c ∧ Any ts (env.set k (some (m, f c))) e, ⟨a0, h0, he⟩, fun i x ys e hx ⟨c, hc, hany⟩ => ?_, fun ys e ⟨c, hc, hany⟩ => ?_⟩
  · rw [h.eq, List.getElem?_map] at hx
    cases ea : l[i]? with
    | none => rw [ea] at hx; cases hx
    | some a =>
      rw [ea] at hx
      cases hx
      exact hs i a ys c e ea (List.getElem?_eq_some_iff.mp ea).1 hc hany
  · rw [h.eq, List.length_map] at hc
    exact hd ys c e hc hany
end
end Pf
namespace Pf
open PySem PySem.Spec PyProof.Rows L2
section
variable {K : PySem.W.Frag} {W : WX}
/-! ### tuple(range(..)) -/
def wTRg (a : PEnv → (Int → Int → Prop) → XP → Prop) : WE := fun env Q X => a env (fun i j => RgOk i j ∧ Q (.tup (rng i (j - i).toNat))) X
theorem se_trg {t : L2.St → Hp → (Int → Int → Hp → Prop) → Prop} {a : PEnv → (Int → Int → Prop) → XP → Prop} (h : SimR K W t a) : SE K W .V (tTupRg t) (wTRg a) := fun F0 H0 σ F H env Qp Xp Q g hw hx q =>
  h F0 H0 σ F H env _ Xp _ g hw hx fun F1 H1 i j m h1 => ⟨h1.1, fun p np => by
    have m2 := mv_frz (o := .tup (rgV i j)) m.fh np
    exact q _ _ _ _ (m.trans m2) (R.tup upd_same (rl_rng.mono m2.e.1)) h1.2⟩
theorem ap_trg {a : PEnv → (Int → Int → Prop) → XP → Prop} {env : PEnv} {Q : P → Prop} {X : XP} : (wTRg a env Q X) = (a env (fun i j => RgOk i j ∧ Q (.tup (rng i (j - i).toNat))) X) := rfl
end
end Pf

--@@PURE
namespace Pf
open PySem PySem.Spec PyProof.Rows L2
theorem fl_0 : ((0 : Nat) < 1000) = True := eq_true (by decide)
theorem fl_1 : ((0 + 1 : Nat) < 1000) = True := eq_true (by decide)
theorem fl_2 : ((0 + 1 + 1 : Nat) < 1000) = True := eq_true (by decide)
theorem fl_3 : ((0 + 1 + 1 + 1 : Nat) < 1000) = True := eq_true (by decide)
theorem fl_4 : ((0 + 1 + 1 + 1 + 1 : Nat) < 1000) = True := eq_true (by decide)
theorem fl_5 : ((0 + 1 + 1 + 1 + 1 + 1 : Nat) < 1000) = True := eq_true (by decide)
theorem fl_6 : ((0 + 1 + 1 + 1 + 1 + 1 + 1 : Nat) < 1000) = True := eq_true (by decide)
theorem fl_7 : ((0 + 1 + 1 + 1 + 1 + 1 + 1 + 1 : Nat) < 1000) = True := eq_true (by decide)
theorem fl_8 : ((0 + 1 + 1 + 1 + 1 + 1 + 1 + 1 + 1 : Nat) < 1000) = True := eq_true (by decide)
theorem fl_9 : ((0 + 1 + 1 + 1 + 1 + 1 + 1 + 1 + 1 + 1 : Nat) < 1000) = True := eq_true (by decide)
theorem fl_10 : ((0 + 1 + 1 + 1 + 1 + 1 + 1 + 1 + 1 + 1 + 1 : Nat) < 1000) = True := eq_true (by decide)
theorem fl_11 : ((0 + 1 + 1 + 1 + 1 + 1 + 1 + 1 + 1 + 1 + 1 + 1 : Nat) < 1000) = True := eq_true (by decide)
theorem fl_12 : ((0 + 1 + 1 + 1 + 1 + 1 + 1 + 1 + 1 + 1 + 1 + 1 + 1 : Nat) < 1000) = True := eq_true (by decide)
theorem flr_1 : ((1 : Nat) < 1000) = True := eq_true (by decide)
theorem flr_2 : ((2 : Nat) < 1000) = True := eq_true (by decide)
theorem flr_3 : ((3 : Nat) < 1000) = True := eq_true (by decide)
theorem flr_4 : ((4 : Nat) < 1000) = True := eq_true (by decide)
theorem flr_5 : ((5 : Nat) < 1000) = True := eq_true (by decide)
theorem flr_6 : ((6 : Nat) < 1000) = True := eq_true (by decide)
theorem flr_7 : ((7 : Nat) < 1000) = True := eq_true (by decide)
theorem flr_8 : ((8 : Nat) < 1000) = True := eq_true (by decide)
theorem flr_9 : ((9 : Nat) < 1000) = True := eq_true (by decide)
theorem flr_10 : ((10 : Nat) < 1000) = True := eq_true (by decide)
theorem flr_11 : ((11 : Nat) < 1000) = True := eq_true (by decide)
theorem flr_12 : ((12 : Nat) < 1000) = True := eq_true (by decide)
theorem pn_Sheaf_0 : (putN [] "_rows") = (["_rows"] : List Str) := rfl
theorem px_Sheaf_0 {y : P} : (putX [] [] "_rows" y) = [y] := rfl

theorem lk_Sheaf_1_0 {x0 : P} : (lookN ["_rows"] [x0] "_rows") = some x0 := rfl
theorem pn_Sheaf_1_0 : (putN ["_rows"] "_rows") = (["_rows"] : List Str) := rfl
theorem px_Sheaf_1_0 {x0 : P} {y : P} : (putX ["_rows"] [x0] "_rows" y) = [y] := rfl
theorem pn_Sheaf_1 : (putN ["_rows"] "_top") = (["_rows", "_top"] : List Str) := rfl
theorem px_Sheaf_1 {x0 : P} {y : P} : (putX ["_rows"] [x0] "_top" y) = [x0, y] := rfl

theorem lk_Sheaf_2_0 {x0 x1 : P} : (lookN ["_rows", "_top"] [x0, x1] "_rows") = some x0 := rfl
theorem pn_Sheaf_2_0 : (putN ["_rows", "_top"] "_rows") = (["_rows", "_top"] : List Str) := rfl
theorem px_Sheaf_2_0 {x0 x1 : P} {y : P} : (putX ["_rows", "_top"] [x0, x1] "_rows" y) = [y, x1] := rfl
theorem lk_Sheaf_2_1 {x0 x1 : P} : (lookN ["_rows", "_top"] [x0, x1] "_top") = some x1 := rfl
theorem pn_Sheaf_2_1 : (putN ["_rows", "_top"] "_top") = (["_rows", "_top"] : List Str) := rfl
theorem px_Sheaf_2_1 {x0 x1 : P} {y : P} : (putX ["_rows", "_top"] [x0, x1] "_top" y) = [x0, y] := rfl
theorem pn_Sheaf_2 : (putN ["_rows", "_top"] "_bottom") = (["_rows", "_top", "_bottom"] : List Str) := rfl
theorem px_Sheaf_2 {x0 x1 : P} {y : P} : (putX ["_rows", "_top"] [x0, x1] "_bottom" y) = [x0, x1, y] := rfl

theorem lk_Sheaf_3_0 {x0 x1 x2 : P} : (lookN ["_rows", "_top", "_bottom"] [x0, x1, x2] "_rows") = some x0 := rfl
theorem pn_Sheaf_3_0 : (putN ["_rows", "_top", "_bottom"] "_rows") = (["_rows", "_top", "_bottom"] : List Str) := rfl
theorem px_Sheaf_3_0 {x0 x1 x2 : P} {y : P} : (putX ["_rows", "_top", "_bottom"] [x0, x1, x2] "_rows" y) = [y, x1, x2] := rfl
theorem lk_Sheaf_3_1 {x0 x1 x2 : P} : (lookN ["_rows", "_top", "_bottom"] [x0, x1, x2] "_top") = some x1 := rfl
theorem pn_Sheaf_3_1 : (putN ["_rows", "_top", "_bottom"] "_top") = (["_rows", "_top", "_bottom"] : List Str) := rfl
theorem px_Sheaf_3_1 {x0 x1 x2 : P} {y : P} : (putX ["_rows", "_top", "_bottom"] [x0, x1, x2] "_top" y) = [x0, y, x2] := rfl
theorem lk_Sheaf_3_2 {x0 x1 x2 : P} : (lookN ["_rows", "_top", "_bottom"] [x0, x1, x2] "_bottom") = some x2 := rfl
theorem pn_Sheaf_3_2 : (putN ["_rows", "_top", "_bottom"] "_bottom") = (["_rows", "_top", "_bottom"] : List Str) := rfl
theorem px_Sheaf_3_2 {x0 x1 x2 : P} {y : P} : (putX ["_rows", "_top", "_bottom"] [x0, x1, x2] "_bottom" y) = [x0, x1, y] := rfl

theorem nm_Sheaf___len__ : (("__len__" : Str) ∈ (["_rows", "_top", "_bottom"] : List Str)) = False := eq_false (by decide)
theorem nm_Sheaf___iter__ : (("__iter__" : Str) ∈ (["_rows", "_top", "_bottom"] : List Str)) = False := eq_false (by decide)
theorem nm_Sheaf___eq__ : (("__eq__" : Str) ∈ (["_rows", "_top", "_bottom"] : List Str)) = False := eq_false (by decide)
theorem nm_Sheaf_rows : (("rows" : Str) ∈ (["_rows", "_top", "_bottom"] : List Str)) = False := eq_false (by decide)
theorem nm_Sheaf___add__ : (("__add__" : Str) ∈ (["_rows", "_top", "_bottom"] : List Str)) = False := eq_false (by decide)
local macro_rules | `(tactic| walk_at "pl") => `(tactic| simp only [ap_seq, ap_nx, ap_av, ap_ao, ap_ag, ap_ret, ap_retN, ap_brk, ap_cnt, ap_do, ap_ifs, ap_app, ap_ext, ap_set, ap_dput, ap_v, ap_c, ap_k, ap_sc, ap_op, ap_un, ap_t, ap_tr, ap_andV, ap_orV, ap_notV, ap_and, ap_or, ap_not, ap_if, ap_chain, ap_nil, ap_cons, ap_tup, ap_lst, ap_cb, ap_call0, ap_callX, ap_dget, ap_din, ap_dnew, ap_lrg, ap_rg1, ap_rg2, ap_ono, ap_oso, ap_sl, ap_bm, ap_bm0, ap_fI, ap_fB, ap_fIc, ap_fAddS, ap_fSB, ap_fIxL, ap_fIxT, ap_fIxS, ap_fIxScr, ap_fCat, ap_fRep, ap_fCatT, ap_fEqD, ap_fNeD, ap_fIsN, ap_fNotN, ap_fSlL, ap_fSlS, ap_fSlT, ap_eq_i, ap_ne_i, ap_eq_s, ap_ne_s, ap_eq_b, ap_ne_b, ap_onInt, ap_onB, ap_onLst, ap_onTup, ap_onStr, ap_onDct, ap_onKeyI, ap_onKeyS, ap_fInL, ap_fInT, ap_lenL, ap_lenT, ap_lenC, ap_lenS, ap_lenD, ap_intI, ap_intB, ap_boolI, ap_boolB, ap_listL, ap_listT, ap_tupL, ap_mm, ap_strip, ap_wgN, ap_wgT, ap_wgLen, ap_wgNil, ap_wgCons, ap_wIL, ap_wIT, ap_wILv, ap_wIR1, ap_wIR2, ap_wIE, ap_wIZ, ap_wIS, ap_isa_NoneType_bool, ap_isa_NoneType_int, ap_isa_NoneType_str, ap_isa_NoneType_list, ap_isa_NoneType_tuple, ap_isa_NoneType_dict, ap_isa_bool_bool, ap_isa_bool_int, ap_isa_bool_str, ap_isa_bool_list, ap_isa_bool_tuple, ap_isa_bool_dict, ap_isa_int_bool, ap_isa_int_int, ap_isa_int_str, ap_isa_int_list, ap_isa_int_tuple, ap_isa_int_dict, ap_isa_str_bool, ap_isa_str_int, ap_isa_str_str, ap_isa_str_list, ap_isa_str_tuple, ap_isa_str_dict, ap_isa_list_bool, ap_isa_list_int, ap_isa_list_str, ap_isa_list_list, ap_isa_list_tuple, ap_isa_list_dict, ap_isa_tuple_bool, ap_isa_tuple_int, ap_isa_tuple_str, ap_isa_tuple_list, ap_isa_tuple_tuple, ap_isa_tuple_dict, ap_isa_dict_bool, ap_isa_dict_int, ap_isa_dict_str, ap_isa_dict_list, ap_isa_dict_tuple, ap_isa_dict_dict, ap_isNon_NoneType, ap_isInt_NoneType, ap_tyN_NoneType, ap_isNon_bool, ap_isInt_bool, ap_tyN_bool, ap_isNon_int, ap_isInt_int, ap_tyN_int, ap_isNon_str, ap_isInt_str, ap_tyN_str, ap_isNon_list, ap_isInt_list, ap_tyN_list, ap_isNon_tuple, ap_isInt_tuple, ap_tyN_tuple, ap_isNon_dict, ap_isInt_dict, ap_tyN_dict, ap_for, ap_lc, ap_tystr, ap_tylist, ownL, ownD, endsP, startP, List.zipWith_cons_cons, List.zipWith_nil_left, List.zipWith_nil_right, List.length_cons, List.length_nil, List.replicate, List.getElem?_cons_zero, List.getElem?_cons_succ, List.cons_append, List.nil_append, List.set_cons_zero, List.set_cons_succ, wipeP, scB, decide_eq_true_eq, Bool.not_eq_true', Bool.not_eq_eq_eq_not, Bool.not_true, Bool.not_false, if_true, if_false, true_and, and_true, reduceIte, reduceCtorEq, wFrz, Bool.true_eq_false, Bool.false_eq_true, decide_eq_false_iff_not, Int.toNat_natCast, List.length_map, Nat.reduceAdd, Nat.reduceSub, ap_sgn, ap_aug, ap_callN0, ap_callNX, ap_callD0, ap_callDX, ap_xfE, ap_lkh, ap_some, ap_fldR, pn_Sheaf_0, px_Sheaf_0, lk_Sheaf_1_0, pn_Sheaf_1_0, px_Sheaf_1_0, pn_Sheaf_1, px_Sheaf_1, lk_Sheaf_2_0, pn_Sheaf_2_0, px_Sheaf_2_0, lk_Sheaf_2_1, pn_Sheaf_2_1, px_Sheaf_2_1, pn_Sheaf_2, px_Sheaf_2, lk_Sheaf_3_0, pn_Sheaf_3_0, px_Sheaf_3_0, lk_Sheaf_3_1, pn_Sheaf_3_1, px_Sheaf_3_1, lk_Sheaf_3_2, pn_Sheaf_3_2, px_Sheaf_3_2, nm_Sheaf___len__, nm_Sheaf___iter__, nm_Sheaf___eq__, nm_Sheaf_rows, nm_Sheaf___add__, fl_0, fl_1, fl_2, fl_3, fl_4, fl_5, fl_6, fl_7, fl_8, fl_9, fl_10, fl_11, fl_12, flr_1, flr_2, flr_3, flr_4, flr_5, flr_6, flr_7, flr_8, flr_9, flr_10, flr_11, flr_12, ap_fldS, ap_prop, ap_meth, ap_insI, ap_insS, ap_selfO, ap_raise, ap_try, ap_tryO, ap_xf, ap_isD, ap_lenO, ap_eqO, ap_addO, ap_isO, ap_isOT, ap_iown, ap_dget2, ap_onT_b, ap_onT_n, ap_onT_i, ap_onT_s, ap_onT_l, ap_onT_t, initP, endsI, ne_eq, not_false_eq_true, not_true_eq_false])
local macro_rules | `(tactic| walk_at "pq") => `(tactic| simp (config := {maxSteps := 400000}) only [ap_seq, ap_nx, ap_av, ap_ao, ap_ag, ap_ret, ap_retN, ap_brk, ap_cnt, ap_do, ap_ifs, ap_app, ap_ext, ap_set, ap_dput, ap_v, ap_c, ap_k, ap_sc, ap_op, ap_un, ap_t, ap_tr, ap_andV, ap_orV, ap_notV, ap_and, ap_or, ap_not, ap_if, ap_chain, ap_nil, ap_cons, ap_tup, ap_lst, ap_cb, ap_call0, ap_callX, ap_dget, ap_din, ap_dnew, ap_lrg, ap_rg1, ap_rg2, ap_ono, ap_oso, ap_sl, ap_bm, ap_bm0, ap_fI, ap_fB, ap_fIc, ap_fAddS, ap_fSB, ap_fIxL, ap_fIxT, ap_fIxS, ap_fIxScr, ap_fCat, ap_fRep, ap_fCatT, ap_fEqD, ap_fNeD, ap_fIsN, ap_fNotN, ap_fSlL, ap_fSlS, ap_fSlT, ap_eq_i, ap_ne_i, ap_eq_s, ap_ne_s, ap_eq_b, ap_ne_b, ap_onInt, ap_onB, ap_onLst, ap_onTup, ap_onStr, ap_onDct, ap_onKeyI, ap_onKeyS, ap_fInL, ap_fInT, ap_lenL, ap_lenT, ap_lenC, ap_lenS, ap_lenD, ap_intI, ap_intB, ap_boolI, ap_boolB, ap_listL, ap_listT, ap_tupL, ap_mm, ap_strip, ap_wgN, ap_wgT, ap_wgLen, ap_wgNil, ap_wgCons, ap_wIL, ap_wIT, ap_wILv, ap_wIR1, ap_wIR2, ap_wIE, ap_wIZ, ap_wIS, ap_isa_NoneType_bool, ap_isa_NoneType_int, ap_isa_NoneType_str, ap_isa_NoneType_list, ap_isa_NoneType_tuple, ap_isa_NoneType_dict, ap_isa_bool_bool, ap_isa_bool_int, ap_isa_bool_str, ap_isa_bool_list, ap_isa_bool_tuple, ap_isa_bool_dict, ap_isa_int_bool, ap_isa_int_int, ap_isa_int_str, ap_isa_int_list, ap_isa_int_tuple, ap_isa_int_dict, ap_isa_str_bool, ap_isa_str_int, ap_isa_str_str, ap_isa_str_list, ap_isa_str_tuple, ap_isa_str_dict, ap_isa_list_bool, ap_isa_list_int, ap_isa_list_str, ap_isa_list_list, ap_isa_list_tuple, ap_isa_list_dict, ap_isa_tuple_bool, ap_isa_tuple_int, ap_isa_tuple_str, ap_isa_tuple_list, ap_isa_tuple_tuple, ap_isa_tuple_dict, ap_isa_dict_bool, ap_isa_dict_int, ap_isa_dict_str, ap_isa_dict_list, ap_isa_dict_tuple, ap_isa_dict_dict, ap_isNon_NoneType, ap_isInt_NoneType, ap_tyN_NoneType, ap_isNon_bool, ap_isInt_bool, ap_tyN_bool, ap_isNon_int, ap_isInt_int, ap_tyN_int, ap_isNon_str, ap_isInt_str, ap_tyN_str, ap_isNon_list, ap_isInt_list, ap_tyN_list, ap_isNon_tuple, ap_isInt_tuple, ap_tyN_tuple, ap_isNon_dict, ap_isInt_dict, ap_tyN_dict, ap_for, ap_lc, ap_tystr, ap_tylist, ownL, ownD, endsP, startP, List.zipWith_cons_cons, List.zipWith_nil_left, List.zipWith_nil_right, List.length_cons, List.length_nil, List.replicate, List.getElem?_cons_zero, List.getElem?_cons_succ, List.cons_append, List.nil_append, List.set_cons_zero, List.set_cons_succ, wipeP, scB, decide_eq_true_eq, Bool.not_eq_true', Bool.not_eq_eq_eq_not, Bool.not_true, Bool.not_false, if_true, if_false, true_and, and_true, reduceIte, reduceCtorEq, wFrz, Bool.true_eq_false, Bool.false_eq_true, decide_eq_false_iff_not, Int.toNat_natCast, List.length_map, Nat.reduceAdd, Nat.reduceSub, ap_sgn, ap_aug, ap_callN0, ap_callNX, ap_callD0, ap_callDX, ap_xfE, ap_lkh, ap_some, ap_fldR, pn_Sheaf_0, px_Sheaf_0, lk_Sheaf_1_0, pn_Sheaf_1_0, px_Sheaf_1_0, pn_Sheaf_1, px_Sheaf_1, lk_Sheaf_2_0, pn_Sheaf_2_0, px_Sheaf_2_0, lk_Sheaf_2_1, pn_Sheaf_2_1, px_Sheaf_2_1, pn_Sheaf_2, px_Sheaf_2, lk_Sheaf_3_0, pn_Sheaf_3_0, px_Sheaf_3_0, lk_Sheaf_3_1, pn_Sheaf_3_1, px_Sheaf_3_1, lk_Sheaf_3_2, pn_Sheaf_3_2, px_Sheaf_3_2, nm_Sheaf___len__, nm_Sheaf___iter__, nm_Sheaf___eq__, nm_Sheaf_rows, nm_Sheaf___add__, fl_0, fl_1, fl_2, fl_3, fl_4, fl_5, fl_6, fl_7, fl_8, fl_9, fl_10, fl_11, fl_12, flr_1, flr_2, flr_3, flr_4, flr_5, flr_6, flr_7, flr_8, flr_9, flr_10, flr_11, flr_12, ap_fldS, ap_prop, ap_meth, ap_insI, ap_insS, ap_selfO, ap_raise, ap_try, ap_tryO, ap_xf, ap_isD, ap_lenO, ap_eqO, ap_addO, ap_isO, ap_isOT, ap_iown, ap_dget2, ap_onT_b, ap_onT_n, ap_onT_i, ap_onT_s, ap_onT_l, ap_onT_t, initP, endsI, ne_eq, not_false_eq_true, not_true_eq_false, Option.some.injEq, P.int.injEq, P.str.injEq, exists_eq_left', Int.reduceLT, Int.reduceLE, Int.reduceAdd, Int.reduceSub, Int.reduceMul, Int.reduceNeg, Nat.reduceLeDiff, sle, at0, at1, at2, at3, at4, at5, atL, *])
local macro_rules | `(tactic| walk_at "w") => `(tactic| simp (config := {implicitDefEqProofs := false}) only [ap_seq, ap_nx, ap_av, ap_ao, ap_ag, ap_ret, ap_retN, ap_brk, ap_cnt, ap_do, ap_ifs, ap_app, ap_ext, ap_set, ap_dput, ap_v, ap_c, ap_k, ap_sc, ap_op, ap_un, ap_t, ap_tr, ap_andV, ap_orV, ap_notV, ap_and, ap_or, ap_not, ap_if, ap_chain, ap_nil, ap_cons, ap_tup, ap_lst, ap_cb, ap_dget, ap_din, ap_dnew, ap_lrg, ap_rg1, ap_rg2, ap_ono, ap_oso, ap_sl, ap_bm, ap_bm0, ap_fI, ap_fB, ap_fIc, ap_fAddS, ap_fSB, ap_fIxL, ap_fIxT, ap_fIxS, ap_fCat, ap_fRep, ap_fCatT, ap_fIsN, ap_fNotN, ap_fSlL, ap_fSlS, ap_fSlT, ap_eq_i, ap_ne_i, ap_eq_s, ap_ne_s, ap_eq_b, ap_ne_b, ap_onInt, ap_onB, ap_onLst, ap_onTup, ap_onStr, ap_onDct, ap_onKeyI, ap_onKeyS, ap_lenL, ap_lenT, ap_lenC, ap_lenS, ap_lenD, ap_intI, ap_intB, ap_boolI, ap_boolB, ap_listL, ap_listT, ap_tupL, ap_mm, ap_strip, ap_wgN, ap_wgT, ap_wgLen, ap_wgNil, ap_wgCons, ap_wIL, ap_wIT, ap_wILv, ap_wIR1, ap_wIR2, ap_wIE, ap_wIZ, ap_wIS, ap_isa_NoneType_bool, ap_isa_NoneType_int, ap_isa_NoneType_str, ap_isa_NoneType_list, ap_isa_NoneType_tuple, ap_isa_NoneType_dict, ap_isa_bool_bool, ap_isa_bool_int, ap_isa_bool_str, ap_isa_bool_list, ap_isa_bool_tuple, ap_isa_bool_dict, ap_isa_int_bool, ap_isa_int_int, ap_isa_int_str, ap_isa_int_list, ap_isa_int_tuple, ap_isa_int_dict, ap_isa_str_bool, ap_isa_str_int, ap_isa_str_str, ap_isa_str_list, ap_isa_str_tuple, ap_isa_str_dict, ap_isa_list_bool, ap_isa_list_int, ap_isa_list_str, ap_isa_list_list, ap_isa_list_tuple, ap_isa_list_dict, ap_isa_tuple_bool, ap_isa_tuple_int, ap_isa_tuple_str, ap_isa_tuple_list, ap_isa_tuple_tuple, ap_isa_tuple_dict, ap_isa_dict_bool, ap_isa_dict_int, ap_isa_dict_str, ap_isa_dict_list, ap_isa_dict_tuple, ap_isa_dict_dict, ap_isNon_NoneType, ap_isInt_NoneType, ap_tyN_NoneType, ap_isNon_bool, ap_isInt_bool, ap_tyN_bool, ap_isNon_int, ap_isInt_int, ap_tyN_int, ap_isNon_str, ap_isInt_str, ap_tyN_str, ap_isNon_list, ap_isInt_list, ap_tyN_list, ap_isNon_tuple, ap_isInt_tuple, ap_tyN_tuple, ap_isNon_dict, ap_isInt_dict, ap_tyN_dict, ap_for, ap_lc, ap_tystr, ap_tylist, ownL, ownD, endsP, startP, List.zipWith_cons_cons, List.zipWith_nil_left, List.zipWith_nil_right, List.length_cons, List.length_nil, List.replicate, List.getElem?_cons_zero, List.getElem?_cons_succ, List.cons_append, List.nil_append, List.set_cons_zero, List.set_cons_succ, wipeP, scB, decide_eq_true_eq, Bool.not_eq_true', Bool.not_eq_eq_eq_not, Bool.not_true, Bool.not_false, if_true, if_false, true_and, and_true, reduceIte, reduceCtorEq, wFrz, Bool.true_eq_false, Bool.false_eq_true, decide_eq_false_iff_not, Int.toNat_natCast, List.length_map, Nat.reduceAdd, Nat.reduceSub, ap_sgn, ap_aug, ap_xfE, ap_lkh, ap_some, ap_fldR, pn_Sheaf_0, px_Sheaf_0, lk_Sheaf_1_0, pn_Sheaf_1_0, px_Sheaf_1_0, pn_Sheaf_1, px_Sheaf_1, lk_Sheaf_2_0, pn_Sheaf_2_0, px_Sheaf_2_0, lk_Sheaf_2_1, pn_Sheaf_2_1, px_Sheaf_2_1, pn_Sheaf_2, px_Sheaf_2, lk_Sheaf_3_0, pn_Sheaf_3_0, px_Sheaf_3_0, lk_Sheaf_3_1, pn_Sheaf_3_1, px_Sheaf_3_1, lk_Sheaf_3_2, pn_Sheaf_3_2, px_Sheaf_3_2, nm_Sheaf___len__, nm_Sheaf___iter__, nm_Sheaf___eq__, nm_Sheaf_rows, nm_Sheaf___add__, fl_0, fl_1, fl_2, fl_3, fl_4, fl_5, fl_6, fl_7, fl_8, fl_9, fl_10, fl_11, fl_12, flr_1, flr_2, flr_3, flr_4, flr_5, flr_6, flr_7, flr_8, flr_9, flr_10, flr_11, flr_12, ap_fldS, ap_insI, ap_insS, ap_selfO, ap_raise, ap_try, ap_tryO, ap_xf, ap_isD, ap_isO, ap_isOT, ap_iown, ap_dget2, ap_onT_b, ap_onT_n, ap_onT_i, ap_onT_s, ap_onT_l, ap_onT_t, initP, endsI, ne_eq, not_false_eq_true, not_true_eq_false, aq_call0, aq_callX, aq_callN0, aq_callNX, aq_callD0, aq_callDX, aq_prop, aq_meth, aq_lenO, aq_eqO, aq_addO, aq_fIxScr, aq_fMax, aq_fMin, aq_fSum, aq_fAll, aq_fAny, aq_fSortI, aq_fEqD, aq_fNeD, aq_fInL, aq_fInT, aq_fInL0, ap_p, ap_ixN, ixOk, map_emp, any_nil, any_cons, gx_last, rng_len, enumP_len, List.length_append, List.length_set, List.length_reverse, List.length_singleton, and_assoc, List.cons.injEq, Prod.mk.injEq, P.lst.injEq, P.tup.injEq, P.dct.injEq, int_inj, str_inj, row_inj, bl_inj, ii_inj, dd_inj, exists_and_left, exists_eq, exists_eq', exists_eq_right, exists_eq_right', noX_f, noX'_f, ite_self, if_false_right, Option.some.injEq, P.int.injEq, P.str.injEq, P.bl.injEq, exists_eq_left, exists_eq_left', Int.reduceLT, Int.reduceLE, Int.reduceAdd, Int.reduceSub, Int.reduceMul, Int.reduceNeg, Int.reduceEq, Int.reduceNe, Nat.reduceLeDiff, Nat.zero_add, Nat.reduceMul, Nat.reduceEqDiff, Nat.reduceLT, Int.cast_ofNat_Int, decide_true, decide_false, Bool.true_and, Bool.false_and, Bool.and_true, Bool.and_false, Bool.true_or, Bool.false_or, Bool.or_true, Bool.or_false, Bool.and_eq_true, Bool.or_eq_true, and_self, Bool.not_eq_true, beq_self_eq_true, bne_self_eq_false, Nat.le_refl, List.isEmpty_nil, List.isEmpty_cons, and_false, false_and, or_false, false_or, or_true, true_or, implies_true, forall_const, rsn_total_reach, rsn_total_record, rsn_total_height, rsn_reach_total, rsn_reach_record, rsn_reach_height, rsn_record_total, rsn_record_reach, rsn_record_height, rsn_height_total, rsn_height_reach, rsn_height_record, ap_stp, stpL_map, ap_listO, ap_trg, ap_gf, ap_gseq, ap_g0, ap_gp, ap_gy, ap_gfrz, ap_eg, ap_lgN, ap_lgD, ap_pop, ap_rvs, map_dropLast', ap_fRng2, ap_orT, ap_onTN, ap_onTL, List.isEmpty_map, aq_count, aq_fDEq, ap_forK, ap_lcK, aq_fSortII, aq_KOk, mo_v, mo_b, ap_wIRv, ap_fRng1, ap_isB, ap_nisB, ap_lc2, aq_inD, aq_ninD, ap_dgetT, ap_dinT, ap_dninT, ap_onDtt, ap_dputT, ap_ownDT, ap_dnewT, aq_keyR, ap_wIEv, ap_augS, aq_aug, ap_isDL, adrs_nil, adrs_cons, List.map_id_fun', List.map_id', int_one, str_one, row_one, row_one', dd_one, dd_one1, ii_one, int_app, str_app', row_app, maxI_2, minI_2, maxI_1, minI_1, aq_atI, aq_atS, take_len, cntB_f, cntM_f, aq_dvalI, aq_dgetI, aq_dinI, aq_putI, keyV_d, sok_keys, aq_fSortS, aq_fSortDI, fil_f, ap_wIZAl, List.append_nil, Nat.add_zero, ap_star, ap_onSeqT, ap_onSeqL, aq_retO0, aq_retO1, aq_retO2, aq_retO3, aq_retO4, aq_retO5, aq_retO6, aq_retO7, aq_retO8, ap_ieo, map_rev, eq_self, cut_map, rng_inj, nil_map, aq_at, at0, at1, at2, at3, at4, at5, atL, ap_never, ap_revL, ap_rem, ap_remI, aq_index, ap_find, ap_lrg3, ap_listD, ap_dictD, gx_0, gx_1, gx_2, gx_3, gx_4, gx_5, gx_6, gx_7, gx_8, gx_9, gx_10, gx_11, gx_12, gx_13, gx_14, gx_15, gx_16, gx_17, gx_18, gx_19, gx_20, gx_21, gx_22, gx_23, gx_24, gx_25, gx_26, gx_27, gx_28, gx_29, gx_30, gx_31, gx_32, gx_33, gxm_0, gxm_1, gxm_2, gxm_3, sizeL, ap_wIR3])
local macro_rules | `(tactic| walk_at "ww") => `(tactic| simp (config := {maxSteps := 400000, implicitDefEqProofs := false}) only [ap_seq, ap_nx, ap_av, ap_ao, ap_ag, ap_ret, ap_retN, ap_brk, ap_cnt, ap_do, ap_ifs, ap_app, ap_ext, ap_set, ap_dput, ap_v, ap_c, ap_k, ap_sc, ap_op, ap_un, ap_t, ap_tr, ap_andV, ap_orV, ap_notV, ap_and, ap_or, ap_not, ap_if, ap_chain, ap_nil, ap_cons, ap_tup, ap_lst, ap_cb, ap_dget, ap_din, ap_dnew, ap_lrg, ap_rg1, ap_rg2, ap_ono, ap_oso, ap_sl, ap_bm, ap_bm0, ap_fI, ap_fB, ap_fIc, ap_fAddS, ap_fSB, ap_fIxL, ap_fIxT, ap_fIxS, ap_fCat, ap_fRep, ap_fCatT, ap_fIsN, ap_fNotN, ap_fSlL, ap_fSlS, ap_fSlT, ap_eq_i, ap_ne_i, ap_eq_s, ap_ne_s, ap_eq_b, ap_ne_b, ap_onInt, ap_onB, ap_onLst, ap_onTup, ap_onStr, ap_onDct, ap_onKeyI, ap_onKeyS, ap_lenL, ap_lenT, ap_lenC, ap_lenS, ap_lenD, ap_intI, ap_intB, ap_boolI, ap_boolB, ap_listL, ap_listT, ap_tupL, ap_mm, ap_strip, ap_wgN, ap_wgT, ap_wgLen, ap_wgNil, ap_wgCons, ap_wIL, ap_wIT, ap_wILv, ap_wIR1, ap_wIR2, ap_wIE, ap_wIZ, ap_wIS, ap_isa_NoneType_bool, ap_isa_NoneType_int, ap_isa_NoneType_str, ap_isa_NoneType_list, ap_isa_NoneType_tuple, ap_isa_NoneType_dict, ap_isa_bool_bool, ap_isa_bool_int, ap_isa_bool_str, ap_isa_bool_list, ap_isa_bool_tuple, ap_isa_bool_dict, ap_isa_int_bool, ap_isa_int_int, ap_isa_int_str, ap_isa_int_list, ap_isa_int_tuple, ap_isa_int_dict, ap_isa_str_bool, ap_isa_str_int, ap_isa_str_str, ap_isa_str_list, ap_isa_str_tuple, ap_isa_str_dict, ap_isa_list_bool, ap_isa_list_int, ap_isa_list_str, ap_isa_list_list, ap_isa_list_tuple, ap_isa_list_dict, ap_isa_tuple_bool, ap_isa_tuple_int, ap_isa_tuple_str, ap_isa_tuple_list, ap_isa_tuple_tuple, ap_isa_tuple_dict, ap_isa_dict_bool, ap_isa_dict_int, ap_isa_dict_str, ap_isa_dict_list, ap_isa_dict_tuple, ap_isa_dict_dict, ap_isNon_NoneType, ap_isInt_NoneType, ap_tyN_NoneType, ap_isNon_bool, ap_isInt_bool, ap_tyN_bool, ap_isNon_int, ap_isInt_int, ap_tyN_int, ap_isNon_str, ap_isInt_str, ap_tyN_str, ap_isNon_list, ap_isInt_list, ap_tyN_list, ap_isNon_tuple, ap_isInt_tuple, ap_tyN_tuple, ap_isNon_dict, ap_isInt_dict, ap_tyN_dict, ap_for, ap_lc, ap_tystr, ap_tylist, ownL, ownD, endsP, startP, List.zipWith_cons_cons, List.zipWith_nil_left, List.zipWith_nil_right, List.length_cons, List.length_nil, List.replicate, List.getElem?_cons_zero, List.getElem?_cons_succ, List.cons_append, List.nil_append, List.set_cons_zero, List.set_cons_succ, wipeP, scB, decide_eq_true_eq, Bool.not_eq_true', Bool.not_eq_eq_eq_not, Bool.not_true, Bool.not_false, if_true, if_false, true_and, and_true, reduceIte, reduceCtorEq, wFrz, Bool.true_eq_false, Bool.false_eq_true, decide_eq_false_iff_not, Int.toNat_natCast, List.length_map, Nat.reduceAdd, Nat.reduceSub, ap_sgn, ap_aug, ap_xfE, ap_lkh, ap_some, ap_fldR, pn_Sheaf_0, px_Sheaf_0, lk_Sheaf_1_0, pn_Sheaf_1_0, px_Sheaf_1_0, pn_Sheaf_1, px_Sheaf_1, lk_Sheaf_2_0, pn_Sheaf_2_0, px_Sheaf_2_0, lk_Sheaf_2_1, pn_Sheaf_2_1, px_Sheaf_2_1, pn_Sheaf_2, px_Sheaf_2, lk_Sheaf_3_0, pn_Sheaf_3_0, px_Sheaf_3_0, lk_Sheaf_3_1, pn_Sheaf_3_1, px_Sheaf_3_1, lk_Sheaf_3_2, pn_Sheaf_3_2, px_Sheaf_3_2, nm_Sheaf___len__, nm_Sheaf___iter__, nm_Sheaf___eq__, nm_Sheaf_rows, nm_Sheaf___add__, fl_0, fl_1, fl_2, fl_3, fl_4, fl_5, fl_6, fl_7, fl_8, fl_9, fl_10, fl_11, fl_12, flr_1, flr_2, flr_3, flr_4, flr_5, flr_6, flr_7, flr_8, flr_9, flr_10, flr_11, flr_12, ap_fldS, ap_insI, ap_insS, ap_selfO, ap_raise, ap_try, ap_tryO, ap_xf, ap_isD, ap_isO, ap_isOT, ap_iown, ap_dget2, ap_onT_b, ap_onT_n, ap_onT_i, ap_onT_s, ap_onT_l, ap_onT_t, initP, endsI, ne_eq, not_false_eq_true, not_true_eq_false, aq_call0, aq_callX, aq_callN0, aq_callNX, aq_callD0, aq_callDX, aq_prop, aq_meth, aq_lenO, aq_eqO, aq_addO, aq_fIxScr, aq_fMax, aq_fMin, aq_fSum, aq_fAll, aq_fAny, aq_fSortI, aq_fEqD, aq_fNeD, aq_fInL, aq_fInT, aq_fInL0, ap_p, ap_ixN, ixOk, map_emp, any_nil, any_cons, gx_last, rng_len, enumP_len, List.length_append, List.length_set, List.length_reverse, List.length_singleton, and_assoc, List.cons.injEq, Prod.mk.injEq, P.lst.injEq, P.tup.injEq, P.dct.injEq, int_inj, str_inj, row_inj, bl_inj, ii_inj, dd_inj, exists_and_left, exists_eq, exists_eq', exists_eq_right, exists_eq_right', noX_f, noX'_f, ite_self, if_false_right, Option.some.injEq, P.int.injEq, P.str.injEq, P.bl.injEq, exists_eq_left, exists_eq_left', Int.reduceLT, Int.reduceLE, Int.reduceAdd, Int.reduceSub, Int.reduceMul, Int.reduceNeg, Int.reduceEq, Int.reduceNe, Nat.reduceLeDiff, Nat.zero_add, Nat.reduceMul, Nat.reduceEqDiff, Nat.reduceLT, Int.cast_ofNat_Int, decide_true, decide_false, Bool.true_and, Bool.false_and, Bool.and_true, Bool.and_false, Bool.true_or, Bool.false_or, Bool.or_true, Bool.or_false, Bool.and_eq_true, Bool.or_eq_true, and_self, Bool.not_eq_true, beq_self_eq_true, bne_self_eq_false, Nat.le_refl, List.isEmpty_nil, List.isEmpty_cons, and_false, false_and, or_false, false_or, or_true, true_or, implies_true, forall_const, rsn_total_reach, rsn_total_record, rsn_total_height, rsn_reach_total, rsn_reach_record, rsn_reach_height, rsn_record_total, rsn_record_reach, rsn_record_height, rsn_height_total, rsn_height_reach, rsn_height_record, ap_stp, stpL_map, ap_listO, ap_trg, ap_gf, ap_gseq, ap_g0, ap_gp, ap_gy, ap_gfrz, ap_eg, ap_lgN, ap_lgD, ap_pop, ap_rvs, map_dropLast', ap_fRng2, ap_orT, ap_onTN, ap_onTL, List.isEmpty_map, aq_count, aq_fDEq, ap_forK, ap_lcK, aq_fSortII, aq_KOk, mo_v, mo_b, ap_wIRv, ap_fRng1, ap_isB, ap_nisB, ap_lc2, aq_inD, aq_ninD, ap_dgetT, ap_dinT, ap_dninT, ap_onDtt, ap_dputT, ap_ownDT, ap_dnewT, aq_keyR, ap_wIEv, ap_augS, aq_aug, ap_isDL, adrs_nil, adrs_cons, List.map_id_fun', List.map_id', int_one, str_one, row_one, row_one', dd_one, dd_one1, ii_one, int_app, str_app', row_app, maxI_2, minI_2, maxI_1, minI_1, aq_atI, aq_atS, take_len, cntB_f, cntM_f, aq_dvalI, aq_dgetI, aq_dinI, aq_putI, keyV_d, sok_keys, aq_fSortS, aq_fSortDI, fil_f, ap_wIZAl, List.append_nil, Nat.add_zero, ap_star, ap_onSeqT, ap_onSeqL, aq_retO0, aq_retO1, aq_retO2, aq_retO3, aq_retO4, aq_retO5, aq_retO6, aq_retO7, aq_retO8, ap_ieo, map_rev, eq_self, cut_map, rng_inj, nil_map, aq_at, at0, at1, at2, at3, at4, at5, atL, ap_never, ap_revL, ap_rem, ap_remI, aq_index, ap_find, ap_lrg3, ap_listD, ap_dictD, gx_0, gx_1, gx_2, gx_3, gx_4, gx_5, gx_6, gx_7, gx_8, gx_9, gx_10, gx_11, gx_12, gx_13, gx_14, gx_15, gx_16, gx_17, gx_18, gx_19, gx_20, gx_21, gx_22, gx_23, gx_24, gx_25, gx_26, gx_27, gx_28, gx_29, gx_30, gx_31, gx_32, gx_33, gxm_0, gxm_1, gxm_2, gxm_3, sizeL, ap_wIR3, *])
local macro_rules | `(tactic| walk_at "s") => `(tactic| first | omega | exact mul_s (by omega) (by omega) | exact div_s (by omega) (by omega) | assumption | exact rfl | (simp only [List.length_map, List.length_append, List.length_cons, List.length_nil, List.length_set, List.length_reverse, List.length_take, List.length_drop, List.length_zipIdx, List.length_zip, List.length_range, rng_len, enumP_len, rgI_len, sizeL]; omega))
local macro_rules | `(tactic| walk_at "g") => `(tactic| repeat (refine And.intro (by walk_at "s") ?_))
local macro_rules | `(tactic| walk_at "f") => `(tactic| ((repeat' (first | assumption | (refine And.intro ?_ ?_) | split)) <;> (try (walk_at "s"))))
local macro_rules | `(tactic| walk_at "m") => `(tactic| simp only [ite_and', ite_or', ite_nand'])
local macro_rules | `(tactic| walk_at "x") => `(tactic| (walk_at "w"; walk_at "g"))
theorem atI_ex {α : Type} {xs : List α} {i : Int} (h0 : 0 ≤ i) (h1 : i < (xs.length : Int)) : ∃ c, c ∈ xs ∧ atI xs i = some c := by
  refine ⟨xs[i.toNat]'(by omega), List.getElem_mem _, ?_⟩
  unfold atI ixN
  simp only [h0, h1, if_true, and_self, Option.bind_some]
  first
    | exact List.getElem?_eq_getElem _
    | (rw [if_pos (by omega)]; exact List.getElem?_eq_getElem _)
theorem cutS_lo' {z : Str} {j : Int} (h : 0 ≤ j) : (cutS z (some j) none).cps.toList = z.cps.toList.drop j.toNat := by
  have e : (cutS z (some j) none).cps.toList = cutL z.cps.toList (some j) none := by unfold cutS cutL; rfl
  rw [e, cutL_lo h]
theorem rec_sub {z : Str} {c : Nat} {i : Int} (hz : isRec z = true) (hc : c ∈ signs) (h0 : 0 ≤ i) (h1 : i < (z.length : Int)) : isRec (cutS z none (some i) ++ ⟨#[c]⟩ ++ cutS z (some (i + 1)) none) = true := by
  have hl := isRec_len hz
  unfold isRec at hz ⊢
  simp only [Bool.and_eq_true, decide_eq_true_eq, List.all_eq_true] at hz ⊢
  have e1 : (cutS z none (some i)).length = i.toNat := by
    show (cutS z none (some i)).cps.toList.length = _
    rw [cutS_hi h0, List.length_take, len_list]
    omega
  have e2 : (cutS z (some (i + 1)) none).length = z.length - (i + 1).toNat := by
    show (cutS z (some (i + 1)) none).cps.toList.length = _
    rw [cutS_lo' (by omega), List.length_drop, len_list]
  rw [app_len, app_len, one_len, e1, e2]
  refine ⟨by omega, by omega, fun x hx => ?_⟩
  rw [app_mem, app_mem] at hx
  rcases hx with (hx | hx) | hx
  · rw [cutS_hi h0] at hx
    exact hz.2.2 x (List.mem_of_mem_take hx)
  · have hx : x ∈ [c] := hx
    rw [List.mem_singleton.mp hx]; exact hc
  · rw [cutS_lo' (by omega)] at hx
    exact hz.2.2 x (List.mem_of_mem_drop hx)
theorem letters_len : (Str.ofString "abcdefghijklmnopqrstuvwxyz0123456789").cps.toList.length = 36 := by decide +kernel

/-- the addresses of the classes -/
structure CA where
  none_ : Unit
  InvalidSheaf : Addr
  Sheaf : Addr
/-- a sheaf: its rows, its latest time, its earliest -/
abbrev shfP (A : CA) (rs : List (Int × Str)) (t b : Int) : P := .ins A.Sheaf ["_rows", "_top", "_bottom"] [rl rs, .int t, .int b]
/-- a sheaf by its rows -/
abbrev shf (A : CA) (rs : List (Int × Str)) : P := shfP A rs (maxI (rs.map Prod.fst)) (minI (rs.map Prod.fst))

--@@DEF valid_record
def p_valid_record (_ : CA) : PSp := fun xs Q _ => ∃ z : Str, xs = [.str z] ∧ Q (.bl (isRec z))

instance ap_valid_record {A : CA} {z : Str} : PAp (p_valid_record A) [.str z] (fun Q X => Q (.bl (isRec z))) := ⟨fun Q X => by
  unfold p_valid_record
  simp only [List.cons.injEq, P.lst.injEq, P.tup.injEq, P.ins.injEq, P.int.injEq, P.str.injEq, P.bl.injEq, P.scr.injEq, int_inj, str_inj, bl_inj, row_inj, and_true, true_and, and_assoc, exists_and_left, exists_eq_left', exists_eq_left, eq_self]⟩
def w_valid_record (A : CA) : WS :=
  (wRet (wAndV (wChain (fB fun i j => decide (i ≤ j)) (fB fun i j => decide (i ≤ j)) (wK (.int 1)) (wCB fLenS (wCons (wC 0) wNil)) (wK (.int 8))) (wOp fEq (wBM "str" fStrip (wC 0) (wCons (wK (.str "abcdefghijklmnopqrstuvwxyz0123456789")) wNil)) (wK (.str "")))))
theorem pure_valid_record (A : CA) : ∀ xs Q X, p_valid_record A xs Q X → w_valid_record A (endsP false Q X) (startP ["text"] [.v] xs) := by
  rintro _ Q X ⟨z, rfl, q⟩
  unfold w_valid_record
  walk_at "pl"
  unfold isRec at q
  split
  · rename_i h
    rw [decide_eq_true (show 1 ≤ z.length by omega), Bool.true_and] at q
    split
    · rename_i h2
      rw [decide_eq_true (show z.length ≤ 8 by omega), Bool.true_and, ← strip_rec] at q
      exact q
    · rename_i h2
      rw [decide_eq_false (show ¬ z.length ≤ 8 by omega)] at q
      exact q
  · rename_i h
    rw [decide_eq_false (show ¬ 1 ≤ z.length by omega)] at q
    exact q
--@@DEF _law_cell
def p__law_cell (_ : CA) : PSp := fun xs Q _ => ∃ (ns : List Int) (k : Int), xs = [.scr ns, .int k] ∧ 0 ≤ k ∧ ∀ c : Int, Q (.int c)

instance ap__law_cell {A : CA} {ns : List Int} {k : Int} : PAp (p__law_cell A) [.scr ns, .int k] (fun Q X => 0 ≤ k ∧ ∀ c : Int, Q (.int c)) := ⟨fun Q X => by
  unfold p__law_cell
  simp only [List.cons.injEq, P.lst.injEq, P.tup.injEq, P.ins.injEq, P.int.injEq, P.str.injEq, P.bl.injEq, P.scr.injEq, int_inj, str_inj, bl_inj, row_inj, and_true, true_and, and_assoc, exists_and_left, exists_eq_left', exists_eq_left, eq_self]⟩
def w__law_cell (A : CA) : WS :=
  (wSeq (wIfS (wT (wOp (fB fun i j => decide (i < j)) (wC 1) (wCB fLen (wCons (wC 0) wNil))))
   (wRet (wCB fInt1 (wCons (wOp fIxScr (wC 0) (wC 1)) wNil)))
   wNx)
  (wRet (wK (.int 0))))
theorem pure__law_cell (A : CA) : ∀ xs Q X, p__law_cell A xs Q X → w__law_cell A (endsP false Q X) (startP ["script", "k"] [.v, .v] xs) := by
  rintro _ Q X ⟨ns, k, rfl, h0, q⟩
  unfold w__law_cell
  walk_at "pl"
  split
  · have hk : k.toNat < ns.length := by omega
    exact ⟨ns[k.toNat], at_nn h0 (List.getElem?_eq_getElem hk), q _⟩
  · exact q _
--@@DEF _law_draws
def p__law_draws (_ : CA) : PSp := fun xs Q _ => ∃ (c : Int) (ss : List Int), xs = [.int c, il ss] ∧ ss.length ≤ 100000 ∧ (∀ s ∈ ss, 0 < s ∧ s < 1073741824) ∧ ∀ ds : List Int, InB ds ss → Q (il ds)

instance ap__law_draws {A : CA} {c : Int} {xs : List P} {ss : List Int} [h : EL P.int xs ss] : PAp (p__law_draws A) [.int c, .lst xs] (fun Q X => ss.length ≤ 100000 ∧ (∀ s ∈ ss, 0 < s ∧ s < 1073741824) ∧ ∀ ds : List Int, InB ds ss → Q (il ds)) := ⟨fun Q X => by
  unfold p__law_draws
  simp only [h.eq, List.cons.injEq, P.lst.injEq, P.tup.injEq, P.ins.injEq, P.int.injEq, P.str.injEq, P.bl.injEq, P.scr.injEq, int_inj, str_inj, bl_inj, row_inj, and_true, true_and, and_assoc, exists_and_left, exists_eq_left', exists_eq_left, eq_self]⟩
def w__law_draws (A : CA) : WS :=
  (wSeq (wAO 2 (wLst wNil))
  (wSeq (wAV 3 (wCB fInt1 (wCons (wC 0) wNil)))
  (wSeq (wAV 4 (wOp (fB fun i j => decide (j ≤ i)) (wC 3) (wOp (fIc CPow fun i j => i ^ j.toNat) (wK (.int 10)) (wK (.int 18)))))
  (wSeq (wFor (wIR1 (wCons (wCB fLen (wCons (wC 1) wNil)) wNil)) (wgN 5)
   (wIfS (wAnd (wT (wC 4)) (wT (wOp (fB fun i j => decide (j < i)) (wC 3) (wK (.int 0)))))
    (wSeq (wApp 2 (wOp (fIc (fun _ j => 0 < j) fun i j => i % j) (wCB fInt1 (wCons (wC 3) wNil)) (wOp fIxL (wC 1) (wC 5))))
    (wAV 3 (wOp (fIc CDivW fun i j => i / j) (wCB fInt1 (wCons (wC 3) wNil)) (wOp fIxL (wC 1) (wC 5)))))
    (wSeq (wAV 6 (wOp (fIc (fun _ j => 0 < j) fun i j => i % j) (wCB fInt1 (wCons (wOp (fI fun i j => i + j) (wOp (fI fun i j => i + j) (wC 0) (wOp (fIc CMulW fun i j => i * j) (wK (.int 7919)) (wC 5))) (wK (.int 13))) wNil)) (wK (.int 2147483647))))
    (wSeq (wAV 6 (wOp (fIc (fun _ j => 0 < j) fun i j => i % j) (wCB fInt1 (wCons (wOp (fIc CMulW fun i j => i * j) (wC 6) (wOp (fI fun i j => i + j) (wC 6) (wK (.int 48271)))) wNil)) (wK (.int 2147483629))))
    (wSeq (wAV 6 (wOp (fIc (fun _ j => 0 < j) fun i j => i % j) (wCB fInt1 (wCons (wOp (fI fun i j => i + j) (wOp (fIc CMulW fun i j => i * j) (wC 6) (wOp (fI fun i j => i + j) (wC 6) (wK (.int 69621)))) (wOp (fIc CMulW fun i j => i * j) (wK (.int 31)) (wC 5))) wNil)) (wK (.int 2147483647))))
    (wApp 2 (wOp (fIc (fun _ j => 0 < j) fun i j => i % j) (wCB fInt1 (wCons (wOp (fIc CDivW fun i j => i / j) (wC 6) (wK (.int 9))) wNil)) (wOp fIxL (wC 1) (wC 5)))))))))
  (wRetO 2)))))
theorem pure__law_draws (A : CA) : ∀ xs Q X, p__law_draws A xs Q X → w__law_draws A (endsP true Q X) (startP ["cell", "sizes", "drawn", "left", "packed", "k", "mixed"] [.v, .b] xs) := by
  rintro _ Q X ⟨c, ss, rfl, hn, hs, q⟩
  unfold w__law_draws
  walk_at "pl"
  refine ⟨by decide, by unfold CPow; decide, ?_⟩
  have hm : (ss.map P.int).length = ss.length := il_len
  refine ⟨by omega, by omega, for_r
    (fun i e => ∃ (ds : List Int) (l : Int) (b : Bool) (v5 v6 : Option (Mo × P)), e = [some (.v, .int c), some (.b, il ss), some (.o, il ds), some (.v, .int l), some (.v, .bl b), v5, v6] ∧ InB ds (ss.take i))
    ⟨[], _, _, _, _, rfl, trivial⟩ ?_ ?_⟩
  · rintro i _ hi ⟨ds, l, b, v5, v6, rfl, hI⟩
    obtain ⟨s, es, hsm, ea⟩ := at_ii (ns := ss) (k := 0 + (i : Int)) (by omega) (by omega)
    have hs' := hs s hsm
    have hi2 : ss[i]? = some s := by rw [← es]; congr 1; omega
    have hl := hI.len
    rw [List.length_take] at hl
    have more : ∀ d, 0 ≤ d → d < s → InB (ds ++ [d]) (ss.take (i + 1)) := fun d h0 h1 => by
      rw [List.take_add_one, hi2]
      exact hI.snoc h0 h1
    have k1 : CMulW 7919 (0 + (i : Int)) := mul_s (by omega) (by omega)
    have k2 : CMulW 31 (0 + (i : Int)) := mul_s (by omega) (by omega)
    walk_at "pl"
    have hz : ds.length < sizeLine := szt (by omega)
    have md : ∀ x : Int, 0 ≤ x % s ∧ x % s < s := fun x => ⟨Int.emod_nonneg _ (by omega), Int.emod_lt_of_pos _ hs'.1⟩
    split
    · split
      · exact ⟨_, ea, hs'.1, hz, _, ea, div_s hs'.1 (by omega), ds ++ [l % s], _, _, _, _, by rw [il_snoc], more _ (md _).1 (md _).2⟩
      · exact ⟨k1, by decide, mul_s (by omega) (by omega), by decide, mul_s (by omega) (by omega), k2, by decide, div_s (by decide) (by decide), _, ea, hs'.1, hz, ds ++ [_], _, _, _, _, by rw [il_snoc], more _ (md _).1 (md _).2⟩
    · exact ⟨k1, by decide, mul_s (by omega) (by omega), by decide, mul_s (by omega) (by omega), k2, by decide, div_s (by decide) (by decide), _, ea, hs'.1, hz, ds ++ [_], _, _, _, _, by rw [il_snoc], more _ (md _).1 (md _).2⟩
  · rintro _ ⟨ds, l, b, v5, v6, rfl, hI⟩
    rw [List.take_length] at hI
    walk_at "pl"
    exact q ds hI
--@@DEF _law_shaped
def p__law_shaped (_ : CA) : PSp := fun xs Q _ => ∃ (rs : List (Int × Str)) (s b g : Int) (n : Nat), xs = [rl rs, .int s, .int b, .int g] ∧ GoodR rs n (-100000) 100000 ∧ n ≤ 1000 ∧ (-100000 ≤ b ∧ b ≤ 100000) ∧ (0 ≤ g ∧ g ≤ 1000) ∧
  ∀ rs2, GoodR rs2 n (-1000000) 1000000 → Q (rl rs2)
def w__law_shaped (A : CA) : WS :=
  (wSeq (wIfS (wT (wOp fEq (wC 1) (wK (.int 0))))
   (wRet (wLc (wIL (wC 0)) (wgN 4) (fun _ Q _ => Q true) (wTup (wCons (wV 2) (wCons (wOp fIxT (wC 4) (wK (.int 1))) wNil))) [4]))
   wNx)
  (wSeq (wIfS (wT (wOp fEq (wC 1) (wK (.int 2))))
   (wRet (wLc (wIR1 (wCons (wCB fLen (wCons (wC 0) wNil)) wNil)) (wgN 5) (fun _ Q _ => Q true) (wTup (wCons (wOp (fI fun i j => i + j) (wC 2) (wOp (fIc CMulW fun i j => i * j) (wC 3) (wOp (fIc (fun _ j => 0 < j) fun i j => i % j) (wCB fInt1 (wCons (wOp (fI fun i j => i + j) (wOp (fI fun i j => i - j) (wOp fIxT (wOp fIxL (wC 0) (wC 5)) (wK (.int 0))) (wC 2)) (wC 5)) wNil)) (wK (.int 2))))) (wCons (wOp fIxT (wOp fIxL (wC 0) (wC 5)) (wK (.int 1))) wNil))) [5]))
   wNx)
  (wSeq (wIfS (wT (wOp fEq (wC 1) (wK (.int 3))))
   (wRet (wLc (wIR1 (wCons (wCB fLen (wCons (wC 0) wNil)) wNil)) (wgN 5) (fun _ Q _ => Q true) (wTup (wCons (wOp (fI fun i j => i + j) (wC 2) (wC 5)) (wCons (wOp fIxT (wOp fIxL (wC 0) (wC 5)) (wK (.int 1))) wNil))) [5]))
   wNx)
  (wRet (wV 0)))))
theorem pure__law_shaped (A : CA) : ∀ xs Q X, p__law_shaped A xs Q X → w__law_shaped A (endsP false Q X) (startP ["rows", "shape", "base", "gap", "row", "k"] [.v, .v, .v, .v] xs) := by
  rintro _ Q X ⟨rs, s, b, g, n, rfl, hR, hn, hb, hg, q⟩
  have hl := hR.ln
  have at_r : ∀ i : Nat, i < n → ∃ t z, atI (rs.map rowP) (0 + (i : Int)) = some (.tup [.int t, .str z]) ∧ isRec z = true ∧ -100000 ≤ t ∧ t ≤ 100000 := fun i hi => by
    obtain ⟨⟨t, z⟩, _, hm, ha⟩ := at_rr (rs := rs) (k := 0 + (i : Int)) (by omega) (by omega)
    exact ⟨t, z, ha, hR.rc _ hm, (hR.sh _ hm).1, (hR.sh _ hm).2⟩
  unfold w__law_shaped
  walk_at "pl"
  split
  · refine lc_rr (fun r => rowP (b, r.2)) (by omega) (fun r Q _ hQ => ?_) ?_
    · walk_at "pl"
      exact ⟨_, rfl, sz (by decide), hQ⟩
    · rw [show rs.map (fun r => rowP (b, r.2)) = (rs.map fun r => (b, r.2)).map rowP by rw [List.map_map]; rfl]
      refine q _ ⟨by rw [List.length_map]; exact hl, fun r hr => ?_, fun r hr => ?_⟩ <;> obtain ⟨r0, h0, rfl⟩ := List.mem_map.mp hr
      · exact hR.rc r0 h0
      · show _ ≤ b ∧ b ≤ _
        omega
  split
  · refine ⟨by omega, by omega, lc_rows (n := n) (by omega) (by omega) (fun i Q hi hQ => ?_) q⟩
    obtain ⟨t, z, ha, hz, h1, h2⟩ := at_r i hi
    have m2 := Int.emod_two_eq (t - b + (0 + (i : Int)))
    have m1 : CMulW g ((t - b + (0 + (i : Int))) % 2) := mul_s (by omega) (by omega)
    walk_at "pq"
    refine hQ _ _ hz ?_ ?_ <;> rcases m2 with h | h <;> rw [h] <;> omega
  split
  · refine ⟨by omega, by omega, lc_rows (n := n) (by omega) (by omega) (fun i Q hi hQ => ?_) q⟩
    obtain ⟨t, z, ha, hz, h1, h2⟩ := at_r i hi
    walk_at "pq"
    refine hQ _ _ hz ?_ ?_ <;> omega
  · exact q rs ⟨hl, hR.rc, fun r hr => by have := hR.sh r hr; omega⟩
--@@DEF _law_same_rows
def p__law_same_rows (A : CA) : PSp := fun xs Q X =>
  (∃ (rs rs2 : List (Int × Str)), xs = [rl rs, rl rs2] ∧ (rs.length ≤ 1000 ∧ rs2.length ≤ 1000 ∧ Q (.bl (decide (rs = rs2)))))
instance ap__law_same_rows {A : CA} {rs rs2 : List (Int × Str)} {xs_rs : List P} [h_rs : EL rowP xs_rs rs] {xs_rs2 : List P} [h_rs2 : EL rowP xs_rs2 rs2] : PAp (p__law_same_rows A) [.lst xs_rs, .lst xs_rs2] (fun Q X =>
  rs.length ≤ 1000 ∧ rs2.length ≤ 1000 ∧ Q (.bl (decide (rs = rs2)))) := ⟨fun Q X => by
  unfold p__law_same_rows
  simp only [h_rs.eq, h_rs2.eq, List.cons.injEq, P.lst.injEq, P.tup.injEq, P.ins.injEq, P.int.injEq, P.str.injEq, P.bl.injEq, P.scr.injEq, P.dct.injEq, int_inj, str_inj, bl_inj, row_inj, ii_inj, dd_inj, il_inj, tl_inj, dI_inj, rs_inj, and_true, true_and, and_assoc, exists_and_left, exists_eq_left', exists_eq_left, eq_self, reduceCtorEq, false_and, and_false, exists_false, or_false, false_or, List.nil_eq, List.map_eq_nil_iff]⟩
def w__law_same_rows (A : CA) : WS :=
  (wSeq (wIfS (wOr (wNot (wT (wCB fIsi (wCons (wC 0) (wCons (wK (.ty "list")) wNil))))) (wT (wOp fNe (wCB fLen (wCons (wC 0) wNil)) (wCB fLen (wCons (wC 1) wNil)))))
   (wRet (wK (.bl false)))
   wNx)
  (wSeq (wFor (wIR1 (wCons (wCB fLen (wCons (wC 1) wNil)) wNil)) (wgN 2)
   (wSeq (wAV 3 (wOp fIxL (wC 0) (wC 2)))
   (wSeq (wIfS (wOr (wNot (wT (wCB fIsi (wCons (wC 3) (wCons (wK (.ty "tuple")) wNil))))) (wT (wOp fNe (wCB fLen (wCons (wC 3) wNil)) (wK (.int 2)))))
    (wRet (wK (.bl false)))
    wNx)
   (wSeq (wIfS (wOr (wNot (wT (wCB fIsi (wCons (wOp fIxT (wC 3) (wK (.int 0))) (wCons (wK (.ty "int")) wNil))))) (wOr (wT (wCB fIsi (wCons (wOp fIxT (wC 3) (wK (.int 0))) (wCons (wK (.ty "bool")) wNil)))) (wNot (wT (wCB fIsi (wCons (wOp fIxT (wC 3) (wK (.int 1))) (wCons (wK (.ty "str")) wNil)))))))
    (wRet (wK (.bl false)))
    wNx)
   (wIfS (wOr (wT (wOp fNe (wOp fIxT (wC 3) (wK (.int 0))) (wOp fIxT (wOp fIxL (wC 1) (wC 2)) (wK (.int 0))))) (wT (wOp fNe (wOp fIxT (wC 3) (wK (.int 1))) (wOp fIxT (wOp fIxL (wC 1) (wC 2)) (wK (.int 1))))))
    (wRet (wK (.bl false)))
    wNx)))))
  (wRet (wK (.bl true)))))
theorem pure__law_same_rows (A : CA) : ∀ xs Q X, p__law_same_rows A xs Q X → w__law_same_rows A (endsP false Q X) (startP ["told", "rows", "k", "row"] [.b, .b] xs) := by
  rintro _ Q X ⟨rs, rs2, rfl, hr, hr2, q⟩
  unfold w__law_same_rows
  walk_at "x"
  split
  · rename_i h
    rw [decide_eq_false (fun e => h (by rw [e]))] at q
    exact q
  rename_i h
  refine ⟨by omega, by omega, ?_⟩
  refine forKr [2, 3] (fun i => rs.take i = rs2.take i) (by simp) (fun i e' hi hI he' => ?_) ⟨_, _, rfl⟩ ?_
  · obtain ⟨v2, v3, rfl⟩ := he'
    walk_at "x"
    have e1 : rs[i]? = some (gx rs (i : Int)) := by rw [gx_get (by omega), List.getElem?_eq_getElem (by omega)]
    have e2 : rs2[i]? = some (gx rs2 (i : Int)) := by rw [gx_get (by omega), List.getElem?_eq_getElem (by omega)]
    rw [show (0 : Int) + (i : Int) = (i : Int) by omega]
    split
    · rename_i h1
      rw [decide_eq_false (fun e => h1 (by rw [e]))] at q
      exact q
    rename_i h1
    refine ⟨by omega, by omega, ?_⟩
    split
    · rename_i h2
      rw [decide_eq_false (fun e => h2 (by rw [e]))] at q
      exact q
    rename_i h2
    rw [take_snoc' e1, take_snoc' e2, hI]
    congr 2
    exact Prod.ext (Decidable.not_not.mp h1) (Decidable.not_not.mp h2)
  · rintro e' hI ⟨v2, v3, rfl⟩
    have hl : rs.length = rs2.length := by omega
    rw [take_len, ← hl, take_len] at hI
    rw [decide_eq_true hI] at q
    walk_at "w"
    exact q
--@@DEF Sheaf___len__
def p_Sheaf___len__ (A : CA) : PSp := fun xs Q _ => ∃ (rs : List (Int × Str)) (t b : Int), xs = [shfP A rs t b] ∧ Q (.int rs.length)

instance ap_Sheaf___len__ {A : CA} {rs : List (Int × Str)} {t b : Int} : PAp (p_Sheaf___len__ A) [shfP A rs t b] (fun Q X => Q (.int rs.length)) := ⟨fun Q X => by
  unfold p_Sheaf___len__
  simp only [List.cons.injEq, P.lst.injEq, P.tup.injEq, P.ins.injEq, P.int.injEq, P.str.injEq, P.bl.injEq, P.scr.injEq, int_inj, str_inj, bl_inj, row_inj, and_true, true_and, and_assoc, exists_and_left, exists_eq_left', exists_eq_left, eq_self]⟩
def w_Sheaf___len__ (A : CA) : WS :=
  (wRet (wCB fLen (wCons (wFldR A.Sheaf "_rows" (wC 0)) wNil)))
theorem pure_Sheaf___len__ (A : CA) : ∀ xs Q X, p_Sheaf___len__ A xs Q X → w_Sheaf___len__ A (endsP false Q X) (startP ["self"] [.b] xs) := by
  rintro _ Q X ⟨rs, t, b, rfl, q⟩
  unfold w_Sheaf___len__ shfP
  walk_at "pl"
  exact q
--@@DEF Sheaf___eq__
def p_Sheaf___eq__ (A : CA) : PSp := fun xs Q _ => ∃ (rs : List (Int × Str)) (t b : Int) (rs2 : List (Int × Str)) (t2 b2 : Int), xs = [shfP A rs t b, shfP A rs2 t2 b2] ∧ Q (.bl (decide (rs = rs2)))

instance ap_Sheaf___eq__ {A : CA} {rs rs2 : List (Int × Str)} {t b t2 b2 : Int} : PAp (p_Sheaf___eq__ A) [shfP A rs t b, shfP A rs2 t2 b2] (fun Q X => Q (.bl (decide (rs = rs2)))) := ⟨fun Q X => by
  unfold p_Sheaf___eq__
  simp only [List.cons.injEq, P.lst.injEq, P.tup.injEq, P.ins.injEq, P.int.injEq, P.str.injEq, P.bl.injEq, P.scr.injEq, int_inj, str_inj, bl_inj, row_inj, and_true, true_and, and_assoc, exists_and_left, exists_eq_left', exists_eq_left, eq_self]⟩
def w_Sheaf___eq__ (A : CA) : WS :=
  (wRet (wAndV (wCB (fIsO A.Sheaf) (wCons (wC 1) (wCons (wK (.adr A.Sheaf)) wNil))) (wOp fEqD (wFldR A.Sheaf "_rows" (wC 0)) (wFldR A.Sheaf "_rows" (wC 1)))))
theorem pure_Sheaf___eq__ (A : CA) : ∀ xs Q X, p_Sheaf___eq__ A xs Q X → w_Sheaf___eq__ A (endsP false Q X) (startP ["self", "other"] [.b, .b] xs) := by
  rintro _ Q X ⟨rs, t, b, rs2, t2, b2, rfl, q⟩
  unfold w_Sheaf___eq__ shfP
  walk_at "pl"
  rw [eq_rl]
  exact ⟨sh_rl, sh_rl, q⟩
--@@DEF Sheaf_rows
def p_Sheaf_rows (A : CA) : PSp := fun xs Q _ => ∃ (rs : List (Int × Str)) (t b : Int), xs = [shfP A rs t b] ∧ Q (rl rs)

instance ap_Sheaf_rows {A : CA} {rs : List (Int × Str)} {t b : Int} : PAp (p_Sheaf_rows A) [shfP A rs t b] (fun Q X => Q (rl rs)) := ⟨fun Q X => by
  unfold p_Sheaf_rows
  simp only [List.cons.injEq, P.lst.injEq, P.tup.injEq, P.ins.injEq, P.int.injEq, P.str.injEq, P.bl.injEq, P.scr.injEq, int_inj, str_inj, bl_inj, row_inj, and_true, true_and, and_assoc, exists_and_left, exists_eq_left', exists_eq_left, eq_self]⟩
def w_Sheaf_rows (A : CA) : WS :=
  (wRet (wCB fList (wCons (wFldR A.Sheaf "_rows" (wC 0)) wNil)))
theorem pure_Sheaf_rows (A : CA) : ∀ xs Q X, p_Sheaf_rows A xs Q X → w_Sheaf_rows A (endsP true Q X) (startP ["self"] [.b] xs) := by
  rintro _ Q X ⟨rs, t, b, rfl, q⟩
  unfold w_Sheaf_rows shfP
  walk_at "pl"
  exact q
--@@DEF _law_names
/-- the drawn sizes of names -/
abbrev nmS (n : Nat) : List Int := [2, 36, 35] ++ (List.replicate n [7, 36, 36, 36]).flatten
theorem nmS_get {n : Nat} {j k : Nat} (hk : k < n) (hj : j < 4) : (nmS n)[3 + 4 * k + j]? = ([7, 36, 36, 36] : List Int)[j]? := by
  unfold nmS
  rw [List.getElem?_append_right (by simp only [List.length_cons, List.length_nil]; omega)]
  have e : 3 + 4 * k + j - ([2, 36, 35] : List Int).length = 4 * k + j := by simp only [List.length_cons, List.length_nil]; omega
  rw [e, flat_get _ _ _ (by decide) (by simp only [List.length_cons, List.length_nil]; omega)]
  congr 1
  simp only [List.length_cons, List.length_nil]
  omega
theorem nmS_P {n : Nat} : P.int 2 :: P.int 36 :: P.int 35 :: (List.replicate n [P.int 7, P.int 36, P.int 36, P.int 36]).flatten = (nmS n).map P.int := by
  unfold nmS
  rw [List.map_append, List.map_flatten, List.map_replicate]
  rfl
def p__law_names (_ : CA) : PSp := fun xs Q _ => ∃ (c n : Int), xs = [.int c, .int n] ∧ 0 ≤ n ∧ n ≤ 1000 ∧ ∀ ys : List Str, (ys.length : Int) = n → (∀ y ∈ ys, isRec y = true) → ys.Nodup → Q (sl ys)
/-- two letters, a front: what a longer name is -/
theorem name_rec {F T : Str} {hi : Option Int} (hF : ChP (fun c => c ∈ signs) F) (hT : ChP (fun c => c ∈ signs) T) (lF : F.length = 3) (lT : T.length = 2) :
    isRec (cutS (F ++ F) none hi ++ T) = true ∧ isRec (T ++ cutS (F ++ F) none hi) = true ∧ (F ++ F).length = 6 ∧ (cutS (F ++ F) none hi).length ≤ 6 := by
  have h1 : (F ++ F).length = 6 := by rw [Str.length_append, lF]
  have h2 := cutS_length (F ++ F) none hi
  have h3 : ChP (fun c => c ∈ signs) (cutS (F ++ F) none hi) := (hF.app hF).cut
  exact ⟨rec_of (by rw [Str.length_append]; omega) (by rw [Str.length_append]; omega) (h3.app hT), rec_of (by rw [Str.length_append]; omega) (by rw [Str.length_append]; omega) (hT.app h3), h1, by omega⟩
structure NmI (kf : Str → List Nat) (kv : Nat → List Nat) (ys : List Str) (i : Nat) : Prop where
  ln : ys.length = i
  rc : ∀ y ∈ ys, isRec y = true
  tg : ∀ (j : Nat) y, ys[j]? = some y → kf y = kv j
theorem NmI.more {kf : Str → List Nat} {kv : Nat → List Nat} {ys : List Str} {i : Nat} {y : Str} (h : NmI kf kv ys i) (hy : isRec y = true) (ht : kf y = kv i) : NmI kf kv (ys ++ [y]) (i + 1) := by
  refine ⟨by rw [List.length_append, h.ln]; rfl, fun z hz => ?_, fun j z hz => ?_⟩
  · rcases List.mem_append.mp hz with hz | hz
    · exact h.rc z hz
    · rw [List.mem_singleton.mp hz]; exact hy
  · by_cases hj : j < ys.length
    · rw [List.getElem?_append_left hj] at hz; exact h.tg j z hz
    · rw [List.getElem?_append_right (by omega)] at hz
      by_cases h0 : j - ys.length = 0
      · rw [h0] at hz
        have e : y = z := Option.some.inj hz
        have hj2 : j = i := by have := h.ln; omega
        rw [← e, hj2]; exact ht
      · rw [show j - ys.length = (j - ys.length - 1) + 1 by omega] at hz; cases hz
theorem NmI.nodup {kf : Str → List Nat} {kv : Nat → List Nat} {ys : List Str} {i : Nat} (h : NmI kf kv ys i) (hi : ∀ j k, j < i → k < i → kv j = kv k → j = k) : ys.Nodup := by
  unfold List.Nodup
  rw [List.pairwise_iff_getElem]
  intro j k hj hk hjk e
  have e1 := h.tg j _ (List.getElem?_eq_getElem hj)
  have e2 := h.tg k _ (List.getElem?_eq_getElem hk)
  rw [e, e2] at e1
  have := hi k j (by have := h.ln; omega) (by have := h.ln; omega) e1
  omega
/-- the letter at a place -/
def lett (k : Int) : Nat := (LET.cps.toList[k.toNat]?).getD 0
theorem lett_inj {a b : Int} (h0 : 0 ≤ a) (h1 : a < 36) (h2 : 0 ≤ b) (h3 : b < 36) (h : lett a = lett b) : a = b := by
  have key : ∀ x : Fin 36, ∀ y : Fin 36, (LET.cps.toList[x.1]?).getD 0 = (LET.cps.toList[y.1]?).getD 0 → x = y := by decide +kernel
  have := key ⟨a.toNat, by omega⟩ ⟨b.toNat, by omega⟩ h
  have := congrArg Fin.val this
  simp only at this
  omega
theorem lett_at {k : Int} {c : Nat} (h0 : 0 ≤ k) (h : atI LET.cps.toList k = some c) : c = lett k := by
  unfold atI at h
  cases e : ixN LET.cps.toList.length k with
  | none => rw [e] at h; cases h
  | some j =>
    rw [e] at h
    have h : LET.cps.toList[j]? = some c := h
    obtain ⟨_, rfl⟩ := ixN_some.mp e
    unfold lett
    unfold ixj at h
    rw [if_pos h0] at h
    rw [h]; rfl
theorem str_app {a b : Str} : (a ++ b).cps.toList = a.cps.toList ++ b.cps.toList := by
  show (a.cps ++ b.cps).toList = _
  simp
/-- names are told apart -/
theorem nm_keys (d0 d1 d2 n : Int) (h10 : 0 ≤ d1) (h11 : d1 < 36) (h20 : 0 ≤ d2) (h21 : d2 < 35) (hn : n ≤ 1000) : ∃ (kf : Str → List Nat) (kv : Nat → List Nat), (∀ j k : Nat, (j : Int) < n → (k : Int) < n → kv j = kv k → j = k) ∧
    (∀ (i : Nat) t, d0 = 0 → n * (1 + d2 / 5) ≤ 36 → atI LET.cps.toList ((d1 + (0 + (i : Int)) * (1 + d2 / 5)) % 36) = some t → kf ⟨#[t]⟩ = kv i) ∧
    (∀ (i : Nat) (F : Str) c7 c8, ¬ (d0 = 0 ∧ n * (1 + d2 / 5) ≤ 36) → atI LET.cps.toList ((36 * d1 + d2 + 7 * (0 + (i : Int))) % 1296 / 36) = some c7 → atI LET.cps.toList ((36 * d1 + d2 + 7 * (0 + (i : Int))) % 1296 % 36) = some c8 →
      (d2 % 2 = 0 → kf (F ++ ((⟨#[c7]⟩ : Str) ++ ⟨#[c8]⟩)) = kv i) ∧ (d2 % 2 = 1 → kf (((⟨#[c7]⟩ : Str) ++ ⟨#[c8]⟩) ++ F) = kv i)) := by
  by_cases hA : d0 = 0 ∧ n * (1 + d2 / 5) ≤ 36
  · refine ⟨fun y => y.cps.toList, fun i => [lett ((d1 + (0 + (i : Int)) * (1 + d2 / 5)) % 36)], fun j k hj hk e => ?_, fun i t _ _ ha => ?_, fun i F c7 c8 h => absurd hA h⟩
    · have e := lett_inj (Int.emod_nonneg _ (by decide)) (Int.emod_lt_of_pos _ (by decide)) (Int.emod_nonneg _ (by decide)) (Int.emod_lt_of_pos _ (by decide)) (List.cons.inj e).1
      obtain ⟨_, hA⟩ := hA
      have hs : 1 ≤ 1 + d2 / 5 := by omega
      generalize 1 + d2 / 5 = st at *
      have b1 : (0 : Int) ≤ (j : Int) * st := Int.mul_nonneg (by omega) (by omega)
      have b2 : (0 : Int) ≤ (k : Int) * st := Int.mul_nonneg (by omega) (by omega)
      have b3 : ((j : Int) + 1) * st ≤ n * st := Int.mul_le_mul_of_nonneg_right (by omega) (by omega)
      have b4 : ((k : Int) + 1) * st ≤ n * st := Int.mul_le_mul_of_nonneg_right (by omega) (by omega)
      rw [Int.add_mul, Int.one_mul] at b3 b4
      rw [Int.zero_add, Int.zero_add] at e
      have e2 : (j : Int) * st = (k : Int) * st := by omega
      have := Int.eq_of_mul_eq_mul_right (by omega) e2
      omega
    · rw [lett_at (Int.emod_nonneg _ (by decide)) ha]
  · have inj : ∀ j k : Nat, (j : Int) < n → (k : Int) < n → [lett ((36 * d1 + d2 + 7 * (0 + (j : Int))) % 1296 / 36), lett ((36 * d1 + d2 + 7 * (0 + (j : Int))) % 1296 % 36)] = [lett ((36 * d1 + d2 + 7 * (0 + (k : Int))) % 1296 / 36), lett ((36 * d1 + d2 + 7 * (0 + (k : Int))) % 1296 % 36)] → j = k := fun j k hj hk e => by
      have e1 := lett_inj (by omega) (by omega) (by omega) (by omega) (List.cons.inj e).1
      have e2 := lett_inj (by omega) (by omega) (by omega) (by omega) (List.cons.inj (List.cons.inj e).2).1
      omega
    rcases (by omega : d2 % 2 = 0 ∨ d2 % 2 = 1) with h | h
    · refine ⟨fun y => y.cps.toList.drop (y.cps.toList.length - 2), _, inj, fun i t a b => absurd ⟨a, b⟩ hA, fun i F c7 c8 _ a b => ⟨fun _ => ?_, fun z => absurd z (by omega)⟩⟩
      rw [lett_at (by omega) a, lett_at (by omega) b]
      simp only [str_app, List.length_append, List.length_cons, List.length_nil]
      rw [List.drop_append_of_le_length (by omega), show F.cps.toList.length + (0 + 1 + (0 + 1)) - 2 = F.cps.toList.length by omega, List.drop_length]
      rfl
    · refine ⟨fun y => y.cps.toList.take 2, _, inj, fun i t a b => absurd ⟨a, b⟩ hA, fun i F c7 c8 _ a b => ⟨fun z => absurd z (by omega), fun _ => ?_⟩⟩
      rw [lett_at (by omega) a, lett_at (by omega) b]
      simp only [str_app]
      rfl
instance ap__law_names {A : CA} {c n : Int} : PAp (p__law_names A) [.int c, .int n] (fun Q X => 0 ≤ n ∧ n ≤ 1000 ∧ ∀ ys : List Str, (ys.length : Int) = n → (∀ y ∈ ys, isRec y = true) → ys.Nodup → Q (sl ys)) := ⟨fun Q X => by
  unfold p__law_names
  simp only [List.cons.injEq, P.int.injEq, and_true, and_assoc, exists_and_left, exists_eq_left']⟩
def w__law_names (A : CA) : WS :=
  (wSeq (wAV 2 (wK (.str "abcdefghijklmnopqrstuvwxyz0123456789")))
  (wSeq (wAV 3 (wCall0 (p__law_draws A) (wCons (wV 0) (wCons (wOp fCat (wLst (wCons (wK (.int 2)) (wCons (wK (.int 36)) (wCons (wK (.int 35)) wNil)))) (wOp fRep (wLst (wCons (wK (.int 7)) (wCons (wK (.int 36)) (wCons (wK (.int 36)) (wCons (wK (.int 36)) wNil))))) (wC 1))) wNil))))
  (wSeq (wAO 4 (wLst wNil))
  (wSeq (wFor (wIR1 (wCons (wC 1) wNil)) (wgN 5)
   (wSeq (wAV 6 (wOp (fIc (fun _ j => 0 < j) fun i j => i % j) (wCB fInt1 (wCons (wOp (fI fun i j => i + j) (wOp fIxL (wC 3) (wK (.int 1))) (wOp (fIc CMulW fun i j => i * j) (wC 5) (wOp (fI fun i j => i + j) (wK (.int 1)) (wOp (fIc CDivW fun i j => i / j) (wOp fIxL (wC 3) (wK (.int 2))) (wK (.int 5)))))) wNil)) (wK (.int 36))))
   (wIfS (wAnd (wT (wOp fEq (wOp fIxL (wC 3) (wK (.int 0))) (wK (.int 0)))) (wT (wOp (fB fun i j => decide (i ≤ j)) (wOp (fIc CMulW fun i j => i * j) (wC 1) (wOp (fI fun i j => i + j) (wK (.int 1)) (wOp (fIc CDivW fun i j => i / j) (wOp fIxL (wC 3) (wK (.int 2))) (wK (.int 5))))) (wK (.int 36)))))
    (wApp 4 (wOp fIxS (wC 2) (wC 6)))
    (wSeq (wAV 7 (wOp (fIc (fun _ j => 0 < j) fun i j => i % j) (wCB fInt1 (wCons (wOp (fI fun i j => i + j) (wOp (fI fun i j => i + j) (wOp (fIc CMulW fun i j => i * j) (wK (.int 36)) (wOp fIxL (wC 3) (wK (.int 1)))) (wOp fIxL (wC 3) (wK (.int 2)))) (wOp (fIc CMulW fun i j => i * j) (wK (.int 7)) (wC 5))) wNil)) (wK (.int 1296))))
    (wSeq (wAV 8 (wOp (fIc CMulW fun i j => i * j) (wOp (fIc CMulW fun i j => i * j) (wK (.int 4)) (wC 5)) (wCB fInt1 (wCons (wOp (fB fun i j => decide (j < i)) (wOp (fIc (fun _ j => 0 < j) fun i j => i % j) (wCB fInt1 (wCons (wOp fIxL (wC 3) (wK (.int 2))) wNil)) (wK (.int 4))) (wK (.int 1))) wNil))))
    (wSeq (wAV 9 (wOp fAddS (wOp fAddS (wOp fIxS (wC 2) (wOp fIxL (wC 3) (wOp (fI fun i j => i + j) (wK (.int 4)) (wC 8)))) (wOp fIxS (wC 2) (wOp fIxL (wC 3) (wOp (fI fun i j => i + j) (wK (.int 5)) (wC 8))))) (wOp fIxS (wC 2) (wOp fIxL (wC 3) (wOp (fI fun i j => i + j) (wK (.int 6)) (wC 8))))))
    (wSeq (wAV 9 (wSl fSlS (wOp fAddS (wC 9) (wC 9)) wONo (wOSo (wOp fIxL (wC 3) (wOp (fI fun i j => i + j) (wK (.int 3)) (wC 8))))))
    (wSeq (wAV 10 (wOp fAddS (wOp fIxS (wC 2) (wOp (fIc CDivW fun i j => i / j) (wC 7) (wK (.int 36)))) (wOp fIxS (wC 2) (wOp (fIc (fun _ j => 0 < j) fun i j => i % j) (wCB fInt1 (wCons (wC 7) wNil)) (wK (.int 36))))))
    (wApp 4 (wOp fIxL (wLst (wCons (wOp fAddS (wC 9) (wC 10)) (wCons (wOp fAddS (wC 10) (wC 9)) wNil))) (wOp (fIc (fun _ j => 0 < j) fun i j => i % j) (wCB fInt1 (wCons (wOp fIxL (wC 3) (wK (.int 2))) wNil)) (wK (.int 2)))))))))))))
  (wRetO 4)))))
theorem pure__law_names (A : CA) : ∀ xs Q X, p__law_names A xs Q X → w__law_names A (endsP true Q X) (startP ["cell", "count", "letters", "drawn", "names", "k", "code", "place", "own", "front", "telling"] [.v, .v] xs) := by
  rintro _ Q X ⟨c, n, rfl, hn0, hn1, q⟩
  unfold w__law_names
  walk_at "pl"
  generalize hL : Str.ofString "abcdefghijklmnopqrstuvwxyz0123456789" = L
  have let_at : ∀ {k : Int}, 0 ≤ k → k < 36 → ∃ c, c ∈ signs ∧ atI L.cps.toList k = some c := fun {k} h0 h1 => by rw [← hL]; exact let_at h0 h1
  refine ⟨sz (by decide), sz (by decide), by omega, by omega, sz (by omega), sz (by rw [flat_len]; simp; omega), ?_⟩
  rw [nmS_P]
  refine ⟨c, nmS n.toNat, rfl, by unfold nmS; rw [List.length_append, flat_len]; simp; omega, fun s hs => ?_, fun ds hd => ?_⟩
  · have hs : s ∈ ([2, 36, 35] : List Int) ∨ s ∈ ([7, 36, 36, 36] : List Int) := (List.mem_append.mp hs).imp id flat_mem
    simp only [List.mem_cons, List.not_mem_nil, or_false] at hs
    omega
  walk_at "pl"
  obtain ⟨d0, _, hd0, h00, h01⟩ := hd.get (k := 0) (s := 2) (by decide) rfl
  obtain ⟨d1, _, hd1, h10, h11⟩ := hd.get (k := 1) (s := 36) (by decide) rfl
  obtain ⟨d2, _, hd2, h20, h21⟩ := hd.get (k := 2) (s := 35) (by decide) rfl
  obtain ⟨kf, kv, kinj, kA, kB⟩ := nm_keys d0 d1 d2 n h10 h11 h20 h21 hn1
  rw [show LET = L from hL] at kA kB
  clear hL
  refine ⟨sz (by decide), by omega, by omega, for_r
    (fun i e => ∃ (ys : List Str) (v5 v6 v7 v8 v9 v10 : Option (Mo × P)), e = [some (.v, .int c), some (.v, .int n), some (.v, .str L), some (.v, il ds), some (.o, sl ys), v5, v6, v7, v8, v9, v10] ∧ NmI kf kv ys i)
    ⟨[], none, none, none, none, none, none, rfl, ⟨rfl, fun y hy => absurd hy (List.not_mem_nil), fun j y h => by simp at h⟩⟩ ?_ ?_⟩
  · rintro i _ hi ⟨ys, v5, v6, v7, v8, v9, v10, rfl, hI⟩
    have hyl := hI.ln
    have hz : ys.length < sizeLine := szt (by omega)
    have m1 : CMulW (0 + (i : Int)) (1 + d2 / 5) := mul_s (by omega) (by omega)
    have m2 : CMulW n (1 + d2 / 5) := mul_s (by omega) (by omega)
    have m3 : CMulW 7 (0 + (i : Int)) := mul_s (by omega) (by omega)
    have m4 : CMulW 36 d1 := mul_s (by omega) (by omega)
    have m5 : CMulW 4 (0 + (i : Int)) := mul_s (by omega) (by omega)
    -- a longer name
    have long : ∀ x : Int, ∃ r : Prop, r := fun _ => ⟨True, trivial⟩
    obtain ⟨m, hm, hW⟩ : ∃ m : Nat, m < n.toNat ∧ 4 * (0 + (i : Int)) * (if 1 < d2 % 4 then 1 else 0) = 4 * (m : Int) := by
      by_cases hb : 1 < d2 % 4
      · exact ⟨i, hi, by rw [if_pos hb]; omega⟩
      · exact ⟨0, by omega, by rw [if_neg hb]; omega⟩
    obtain ⟨e3, _, he3, _, _⟩ := hd.get (k := 3 + 4 * (m : Int)) (s := 7) (by omega) (by rw [show (3 + 4 * (m : Int)).toNat = 3 + 4 * m + 0 by omega, nmS_get hm (by decide)]; rfl)
    have pick : ∀ j : Nat, 1 ≤ j → j < 4 → ∃ e c, atI (ds.map P.int) (((3 + j : Nat) : Int) + 4 * (m : Int)) = some (.int e) ∧ c ∈ signs ∧ atI L.cps.toList e = some c := fun j hj0 hj => by
      obtain ⟨e, _, he, h0, h1⟩ := hd.get (k := ((3 + j : Nat) : Int) + 4 * (m : Int)) (s := 36) (by omega) (by
        rw [show (((3 + j : Nat) : Int) + 4 * (m : Int)).toNat = 3 + 4 * m + j by omega, nmS_get hm hj]
        match j, hj0, hj with
        | 1, _, _ => rfl
        | 2, _, _ => rfl
        | 3, _, _ => rfl)
      obtain ⟨c, hc, ha⟩ := let_at h0 h1
      exact ⟨e, c, he, hc, ha⟩
    obtain ⟨e4, c4, he4, hc4, ha4⟩ := pick 1 (by decide) (by decide)
    obtain ⟨e5, c5, he5, hc5, ha5⟩ := pick 2 (by decide) (by decide)
    obtain ⟨e6, c6, he6, hc6, ha6⟩ := pick 3 (by decide) (by decide)
    have he4 : atI (ds.map P.int) (4 + 4 * (m : Int)) = some (.int e4) := he4
    have he5 : atI (ds.map P.int) (5 + 4 * (m : Int)) = some (.int e5) := he5
    have he6 : atI (ds.map P.int) (6 + 4 * (m : Int)) = some (.int e6) := he6
    obtain ⟨c7, c8, hc7, hc8, ha7, ha8⟩ : ∃ c7 c8, c7 ∈ signs ∧ c8 ∈ signs ∧ atI L.cps.toList ((36 * d1 + d2 + 7 * (0 + (i : Int))) % 1296 / 36) = some c7 ∧ atI L.cps.toList ((36 * d1 + d2 + 7 * (0 + (i : Int))) % 1296 % 36) = some c8 := by
      have hp0 : 0 ≤ (36 * d1 + d2 + 7 * (0 + (i : Int))) % 1296 := Int.emod_nonneg _ (by decide)
      have hp1 : (36 * d1 + d2 + 7 * (0 + (i : Int))) % 1296 < 1296 := Int.emod_lt_of_pos _ (by decide)
      generalize (36 * d1 + d2 + 7 * (0 + (i : Int))) % 1296 = pl at hp0 hp1 ⊢
      obtain ⟨c7, hc7, ha7⟩ := let_at (k := pl / 36) (Int.ediv_nonneg hp0 (by decide)) (Int.ediv_lt_of_lt_mul (by decide) (show pl < 36 * 36 from hp1))
      obtain ⟨c8, hc8, ha8⟩ := let_at (k := pl % 36) (Int.emod_nonneg _ (by decide)) (Int.emod_lt_of_pos _ (by decide))
      exact ⟨c7, c8, hc7, hc8, ha7, ha8⟩
    clear pick long
    obtain ⟨t, ht1, ht2⟩ := let_at (k := (d1 + (0 + (i : Int)) * (1 + d2 / 5)) % 36) (Int.emod_nonneg _ (by decide)) (Int.emod_lt_of_pos _ (by decide))
    have k1 : CDivW d2 5 := div_s (by omega) (by omega)
    have k2 : CMulW (4 * (0 + (i : Int))) (if 1 < d2 % 4 then 1 else 0) := by split <;> exact mul_s (by omega) (by omega)
    have kA1 := kA i t
    have kB1 := fun F hh => kB i F c7 c8 hh ha7 ha8
    have hid := Hid.mk (And.intro kA1 (And.intro kB1 kinj))
    clear let_at q kA kB kA1 kB1 kinj
    have hone : ∀ c : Nat, (⟨#[c]⟩ : Str).length = 1 := fun _ => rfl
    walk_at "pq"
    obtain ⟨kA1, kB1, kinj⟩ := hid.get
    clear hid
    have hF : ChP (fun c => c ∈ signs) ((⟨#[c4]⟩ : Str) ++ ⟨#[c5]⟩ ++ ⟨#[c6]⟩) := ((ChP.one hc4).app (ChP.one hc5)).app (ChP.one hc6)
    have hT : ChP (fun c => c ∈ signs) ((⟨#[c7]⟩ : Str) ++ ⟨#[c8]⟩) := (ChP.one hc7).app (ChP.one hc8)
    have lF2 : ((⟨#[c4]⟩ : Str) ++ ⟨#[c5]⟩).length = 2 := by rw [Str.length_append, hone, hone]
    have lF : ((⟨#[c4]⟩ : Str) ++ ⟨#[c5]⟩ ++ ⟨#[c6]⟩).length = 3 := by rw [Str.length_append, lF2, hone]
    have lT : ((⟨#[c7]⟩ : Str) ++ ⟨#[c8]⟩).length = 2 := by rw [Str.length_append, hone, hone]
    rw [lF2]
    generalize (⟨#[c4]⟩ : Str) ++ ⟨#[c5]⟩ ++ ⟨#[c6]⟩ = F at *
    generalize (⟨#[c7]⟩ : Str) ++ ⟨#[c8]⟩ = T at *
    obtain ⟨r1, r2, l6, lc⟩ := name_rec (hi := some e3) hF hT lF lT
    split
    · rename_i hd00
      split
      · rename_i hcn
        exact ⟨hyl ▸ hz, ys ++ [⟨#[t]⟩], _, _, _, _, _, _, by rw [sl_snoc], hI.more (rec_of (by rw [hone]; omega) (by rw [hone]; omega) (ChP.one ht1)) (kA1 hd00 hcn ht2)⟩
      · rename_i hcn
        have kB2 := fun F => kB1 F fun z => hcn z.2
        refine ⟨sz (by omega), sz (by omega), div_s (by omega) (by omega), sz (by omega), sz (by omega), ?_⟩
        rcases (by omega : d2 % 2 = 0 ∨ d2 % 2 = 1) with h | h
        · have kB3 := (kB2 (cutS (F ++ F) none (some e3))).1 h
          rw [h]
          exact ⟨_, rfl, hyl ▸ hz, ys ++ [_], _, _, _, _, _, _, by rw [sl_snoc], hI.more r1 kB3⟩
        · have kB3 := (kB2 (cutS (F ++ F) none (some e3))).2 h
          rw [h]
          exact ⟨_, rfl, hyl ▸ hz, ys ++ [_], _, _, _, _, _, _, by rw [sl_snoc], hI.more r2 kB3⟩
    · rename_i hd00
      have kB2 := fun F => kB1 F fun z => hd00 z.1
      refine ⟨sz (by omega), sz (by omega), div_s (by omega) (by omega), sz (by omega), sz (by omega), ?_⟩
      rcases (by omega : d2 % 2 = 0 ∨ d2 % 2 = 1) with h | h
      · have kB3 := (kB2 (cutS (F ++ F) none (some e3))).1 h
        rw [h]
        exact ⟨_, rfl, hyl ▸ hz, ys ++ [_], _, _, _, _, _, _, by rw [sl_snoc], hI.more r1 kB3⟩
      · have kB3 := (kB2 (cutS (F ++ F) none (some e3))).2 h
        rw [h]
        exact ⟨_, rfl, hyl ▸ hz, ys ++ [_], _, _, _, _, _, _, by rw [sl_snoc], hI.more r2 kB3⟩
  · rintro _ ⟨ys, v5, v6, v7, v8, v9, v10, rfl, hI⟩
    walk_at "pl"
    have := hI.ln
    exact q ys (by omega) hI.rc (hI.nodup fun j k hj hk => kinj j k (by omega) (by omega))
--@@DEF _law_rows
def p__law_rows (A : CA) : PSp := fun xs Q X =>
  (∃ (c : Int) (ns : List Str) (n sp b : Int), xs = [.int c, sl ns, .int n, .int sp, .int b] ∧ ((0 < ns.length ∧ ns.length ≤ 1000) ∧ (∀ z ∈ ns, isRec z = true) ∧ (0 ≤ n ∧ n ≤ 1000) ∧ (0 < sp ∧ sp ≤ 1000) ∧ ∀ rs : List (Int × Str), GoodR rs n.toNat b (b + sp - 1) → (∀ r ∈ rs, r.2 ∈ ns) → Q (rl rs)))
instance ap__law_rows {A : CA} {c : Int} {ns : List Str} {n sp b : Int} {xs_ns : List P} [h_ns : EL P.str xs_ns ns] : PAp (p__law_rows A) [.int c, .lst xs_ns, .int n, .int sp, .int b] (fun Q X =>
  (0 < ns.length ∧ ns.length ≤ 1000) ∧ (∀ z ∈ ns, isRec z = true) ∧ (0 ≤ n ∧ n ≤ 1000) ∧ (0 < sp ∧ sp ≤ 1000) ∧ ∀ rs : List (Int × Str), GoodR rs n.toNat b (b + sp - 1) → (∀ r ∈ rs, r.2 ∈ ns) → Q (rl rs)) := ⟨fun Q X => by
  unfold p__law_rows
  simp only [h_ns.eq, List.cons.injEq, P.lst.injEq, P.tup.injEq, P.ins.injEq, P.int.injEq, P.str.injEq, P.bl.injEq, P.scr.injEq, P.dct.injEq, int_inj, str_inj, bl_inj, row_inj, ii_inj, dd_inj, il_inj, tl_inj, dI_inj, rs_inj, and_true, true_and, and_assoc, exists_and_left, exists_eq_left', exists_eq_left, eq_self, reduceCtorEq, false_and, and_false, exists_false, or_false, false_or, List.nil_eq, List.map_eq_nil_iff]⟩
def w__law_rows (A : CA) : WS :=
  (wSeq (wAV 5 (wCall0 (p__law_draws A) (wCons (wV 0) (wCons (wOp fRep (wLst (wCons (wV 3) (wCons (wCB fLen (wCons (wC 1) wNil)) wNil))) (wC 2)) wNil))))
  (wRet (wLc (wIR1 (wCons (wC 2) wNil)) (wgN 6) (fun _ Q _ => Q true) (wTup (wCons (wOp (fI fun i j => i + j) (wC 4) (wOp fIxL (wC 5) (wOp (fIc CMulW fun i j => i * j) (wK (.int 2)) (wC 6)))) (wCons (wOp fIxL (wC 1) (wOp fIxL (wC 5) (wOp (fI fun i j => i + j) (wOp (fIc CMulW fun i j => i * j) (wK (.int 2)) (wC 6)) (wK (.int 1))))) wNil))) [6])))
theorem pure__law_rows (A : CA) : ∀ xs Q X, p__law_rows A xs Q X → w__law_rows A (endsP true Q X) (startP ["cell", "names", "count", "spread", "base", "drawn", "k"] [.v, .b, .v, .v, .v] xs) := by
  rintro _ Q X ⟨c, ns, n, sp, b, rfl, hl, hz, hn, hs, q⟩
  unfold w__law_rows
  walk_at "w"
  refine ⟨by omega, by omega, by omega, ?_, fun s hs' => ?_, fun ds hd => ?_⟩
  · rw [rep_len]; simp only [List.length_cons, List.length_nil]; omega
  · have := flat_mem hs'
    simp only [List.mem_cons, List.not_mem_nil, or_false] at this
    omega
  have hdl := hd.len
  rw [rep_len] at hdl
  simp only [List.length_cons, List.length_nil] at hdl
  refine ⟨by omega, by omega, ?_⟩
  apply lcAny (f := rowP) (Pb := fun _ (r : Int × Str) => (isRec r.2 = true ∧ b ≤ r.1 ∧ r.1 ≤ b + sp - 1) ∧ r.2 ∈ ns)
  · rw [rgI_len]; omega
  · intro k hk Q hQ
    have hk := rgI_mem.mp hk
    have h1 := hd.rp (k := 2 * k) (by omega) (by simp only [List.length_cons, List.length_nil]; omega)
    have h2 := hd.rp (k := 2 * k + 1) (by omega) (by simp only [List.length_cons, List.length_nil]; omega)
    rw [show (2 * k) % (([sp, (ns.length : Int)].length : Nat) : Int) = 0 by simp only [List.length_cons, List.length_nil]; omega, gx_0] at h1
    rw [show (2 * k + 1) % (([sp, (ns.length : Int)].length : Nat) : Int) = 1 by simp only [List.length_cons, List.length_nil]; omega, gx_1] at h2
    walk_at "w"
    have hm : gx ns (gx ds (2 * k + 1)) ∈ ns := gx_mem ⟨by omega, by omega⟩
    exact ⟨mul_s (by omega) (by omega), by omega, by omega, mul_s (by omega) (by omega), by omega, by omega, by omega, by omega, hQ (_, _) ⟨⟨hz _ hm, by show b ≤ b + _; omega, by show b + _ ≤ _; omega⟩, hm⟩⟩
  intro rs hrl hr
  rw [rgI_len] at hrl
  have key : ∀ r ∈ rs, (isRec r.2 = true ∧ b ≤ r.1 ∧ r.1 ≤ b + sp - 1) ∧ r.2 ∈ ns := fun r hm => by
    obtain ⟨i, hi⟩ := List.mem_iff_getElem?.mp hm
    have hi2 := (List.getElem?_eq_some_iff.mp hi).1
    exact hr i _ r (rgI_at (by omega)) hi
  exact q rs ⟨by omega, fun r hr => (key r hr).1.1, fun r hr => (key r hr).1.2⟩ fun r hr => (key r hr).2
--@@DEF _law_unlike_rows
def p__law_unlike_rows (A : CA) : PSp := fun xs Q X =>
  (∃ (c : Int) (ns : List Str) (n sp b : Int), xs = [.int c, sl ns, .int n, .int sp, .int b] ∧ (n ≤ (ns.length : Int) ∧ (∀ z ∈ ns, isRec z = true) ∧ (0 ≤ n ∧ n ≤ 1000) ∧ (0 < sp ∧ sp ≤ 1000) ∧ ∀ rs : List (Int × Str), GoodR rs n.toNat b (b + sp - 1) → rs.map Prod.snd = ns.take n.toNat → Q (rl rs)))
instance ap__law_unlike_rows {A : CA} {c : Int} {ns : List Str} {n sp b : Int} {xs_ns : List P} [h_ns : EL P.str xs_ns ns] : PAp (p__law_unlike_rows A) [.int c, .lst xs_ns, .int n, .int sp, .int b] (fun Q X =>
  n ≤ (ns.length : Int) ∧ (∀ z ∈ ns, isRec z = true) ∧ (0 ≤ n ∧ n ≤ 1000) ∧ (0 < sp ∧ sp ≤ 1000) ∧ ∀ rs : List (Int × Str), GoodR rs n.toNat b (b + sp - 1) → rs.map Prod.snd = ns.take n.toNat → Q (rl rs)) := ⟨fun Q X => by
  unfold p__law_unlike_rows
  simp only [h_ns.eq, List.cons.injEq, P.lst.injEq, P.tup.injEq, P.ins.injEq, P.int.injEq, P.str.injEq, P.bl.injEq, P.scr.injEq, P.dct.injEq, int_inj, str_inj, bl_inj, row_inj, ii_inj, dd_inj, il_inj, tl_inj, dI_inj, rs_inj, and_true, true_and, and_assoc, exists_and_left, exists_eq_left', exists_eq_left, eq_self, reduceCtorEq, false_and, and_false, exists_false, or_false, false_or, List.nil_eq, List.map_eq_nil_iff]⟩
def w__law_unlike_rows (A : CA) : WS :=
  (wSeq (wAV 5 (wCall0 (p__law_draws A) (wCons (wV 0) (wCons (wOp fRep (wLst (wCons (wV 3) wNil)) (wC 2)) wNil))))
  (wRet (wLc (wIR1 (wCons (wC 2) wNil)) (wgN 6) (fun _ Q _ => Q true) (wTup (wCons (wOp (fI fun i j => i + j) (wC 4) (wOp fIxL (wC 5) (wC 6))) (wCons (wOp fIxL (wC 1) (wC 6)) wNil))) [6])))
theorem pure__law_unlike_rows (A : CA) : ∀ xs Q X, p__law_unlike_rows A xs Q X → w__law_unlike_rows A (endsP true Q X) (startP ["cell", "names", "count", "spread", "base", "drawn", "k"] [.v, .b, .v, .v, .v] xs) := by
  rintro _ Q X ⟨c, ns, n, sp, b, rfl, hl, hz, hn, hs, q⟩
  unfold w__law_unlike_rows
  walk_at "w"
  refine ⟨by omega, by omega, by omega, ?_, fun s hs' => ?_, fun ds hd => ?_⟩
  · rw [rep_len]; simp only [List.length_cons, List.length_nil]; omega
  · have := flat_mem hs'
    simp only [List.mem_cons, List.not_mem_nil, or_false] at this
    omega
  have hdl := hd.len
  rw [rep_len] at hdl
  simp only [List.length_cons, List.length_nil] at hdl
  refine ⟨by omega, by omega, ?_⟩
  apply lcAny (f := rowP) (Pb := fun k (r : Int × Str) => b ≤ r.1 ∧ r.1 ≤ b + sp - 1 ∧ r.2 = gx ns k)
  · rw [rgI_len]; omega
  · intro k hk Q hQ
    have hk := rgI_mem.mp hk
    have h1 := hd.rp (k := k) (by omega) (by simp only [List.length_cons, List.length_nil]; omega)
    rw [show k % (([sp].length : Nat) : Int) = 0 by simp only [List.length_cons, List.length_nil]; omega, gx_0] at h1
    walk_at "w"
    exact ⟨by omega, by omega, by omega, by omega, hQ (_, _) ⟨by show b ≤ b + _; omega, by show b + _ ≤ _; omega, rfl⟩⟩
  intro rs hrl hr
  rw [rgI_len] at hrl
  have key : ∀ (i : Nat) r, rs[i]? = some r → (b ≤ r.1 ∧ r.1 ≤ b + sp - 1) ∧ ns[i]? = some r.2 := fun i r hi => by
    have hi2 := (List.getElem?_eq_some_iff.mp hi).1
    obtain ⟨h1, h2, h3⟩ := hr i _ r (rgI_at (by omega)) hi
    refine ⟨⟨h1, h2⟩, ?_⟩
    rw [h3, show (0 : Int) + (i : Int) = (i : Int) by omega, gx_get (by omega), List.getElem?_eq_getElem (by omega)]
  have mem : ∀ r ∈ rs, (b ≤ r.1 ∧ r.1 ≤ b + sp - 1) ∧ r.2 ∈ ns := fun r hm => by
    obtain ⟨i, hi⟩ := List.mem_iff_getElem?.mp hm
    exact ⟨(key i r hi).1, List.mem_of_getElem? (key i r hi).2⟩
  refine q rs ⟨by omega, fun r hr => hz _ (mem r hr).2, fun r hr => (mem r hr).1⟩ ?_
  refine List.ext_getElem? fun i => ?_
  rw [List.getElem?_map, List.getElem?_take]
  cases e : rs[i]? with
  | none =>
    have := List.getElem?_eq_none_iff.mp e
    rw [if_neg (by omega)]; rfl
  | some r =>
    have hi2 := (List.getElem?_eq_some_iff.mp e).1
    rw [if_pos (by omega), (key i r e).2]; rfl
--@@DEF _law_variant
def p__law_variant (A : CA) : PSp := fun xs Q X =>
  (∃ (rs : List (Int × Str)) (c k : Int), xs = [rl rs, .int c, .int k] ∧ ((0 < rs.length ∧ rs.length ≤ 40) ∧ (∀ r ∈ rs, isRec r.2 = true) ∧ ∀ ys : List (Int × Str), 0 < ys.length → ys.length ≤ 41 → (∀ r ∈ ys, isRec r.2 = true) → Q (rl ys)))
instance ap__law_variant {A : CA} {rs : List (Int × Str)} {c k : Int} {xs_rs : List P} [h_rs : EL rowP xs_rs rs] : PAp (p__law_variant A) [.lst xs_rs, .int c, .int k] (fun Q X =>
  (0 < rs.length ∧ rs.length ≤ 40) ∧ (∀ r ∈ rs, isRec r.2 = true) ∧ ∀ ys : List (Int × Str), 0 < ys.length → ys.length ≤ 41 → (∀ r ∈ ys, isRec r.2 = true) → Q (rl ys)) := ⟨fun Q X => by
  unfold p__law_variant
  simp only [h_rs.eq, List.cons.injEq, P.lst.injEq, P.tup.injEq, P.ins.injEq, P.int.injEq, P.str.injEq, P.bl.injEq, P.scr.injEq, P.dct.injEq, int_inj, str_inj, bl_inj, row_inj, ii_inj, dd_inj, il_inj, tl_inj, dI_inj, rs_inj, and_true, true_and, and_assoc, exists_and_left, exists_eq_left', exists_eq_left, eq_self, reduceCtorEq, false_and, and_false, exists_false, or_false, false_or, List.nil_eq, List.map_eq_nil_iff]⟩
def w__law_variant (A : CA) : WS :=
  (wSeq (wAV 3 (wK (.str "abcdefghijklmnopqrstuvwxyz0123456789")))
  (wSeq (wAV 4 (wCall0 (p__law_draws A) (wCons (wV 1) (wCons (wLst (wCons (wK (.int 40)) (wCons (wK (.int 40)) (wCons (wK (.int 2)) (wCons (wK (.int 8)) (wCons (wK (.int 35)) wNil)))))) wNil))))
  (wSeq (wAV 5 (wOp (fIc (fun _ j => 0 < j) fun i j => i % j) (wCB fInt1 (wCons (wOp fIxL (wC 4) (wK (.int 0))) wNil)) (wCB fLen (wCons (wC 0) wNil))))
  (wSeq (wAV 6 (wOp (fIc (fun _ j => 0 < j) fun i j => i % j) (wCB fInt1 (wCons (wOp fIxL (wC 4) (wK (.int 1))) wNil)) (wCB fLen (wCons (wC 0) wNil))))
  (wSeq (wAV 7 (wOp fIxT (wOp fIxL (wC 0) (wC 5)) (wK (.int 1))))
  (wSeq (wAO 8 (wCB fList (wCons (wC 0) wNil)))
  (wCut (wIfS (wT (wOp fEq (wC 2) (wK (.int 1))))
   (wSet 8 (wTup (wCons (wOp (fI fun i j => i - j) (wOp (fI fun i j => i + j) (wOp fIxT (wOp fIxL (wC 0) (wC 5)) (wK (.int 0))) (wK (.int 1))) (wOp (fIc CMulW fun i j => i * j) (wK (.int 2)) (wOp fIxL (wC 4) (wK (.int 2))))) (wCons (wV 7) wNil))) (wC 5))
   wNx)
  (wCut (wIfS (wT (wOp fEq (wC 2) (wK (.int 2))))
   (wSeq (wAV 9 (wOp (fIc (fun _ j => 0 < j) fun i j => i % j) (wCB fInt1 (wCons (wOp fIxL (wC 4) (wK (.int 3))) wNil)) (wCB fLenS (wCons (wC 7) wNil))))
   (wSeq (wAV 10 (wOp (fIc (fun _ j => 0 < j) fun i j => i % j) (wCB fInt1 (wCons (wOp (fI fun i j => i + j) (wOp (fI fun i j => i + j) (wBM "str" fFind (wC 3) (wCons (wOp fIxS (wC 7) (wC 9)) wNil)) (wK (.int 1))) (wOp fIxL (wC 4) (wK (.int 4)))) wNil)) (wK (.int 36))))
   (wSet 8 (wTup (wCons (wOp fIxT (wOp fIxL (wC 0) (wC 5)) (wK (.int 0))) (wCons (wOp fAddS (wOp fAddS (wSl fSlS (wC 7) wONo (wOSo (wC 9))) (wOp fIxS (wC 3) (wC 10))) (wSl fSlS (wC 7) (wOSo (wOp (fI fun i j => i + j) (wC 9) (wK (.int 1)))) wONo)) wNil))) (wC 5))))
   wNx)
  (wCut (wIfS (wT (wOp fEq (wC 2) (wK (.int 3))))
   (wSeq (wSet 8 (wOp fIxL (wC 0) (wC 6)) (wC 5))
   (wSet 8 (wOp fIxL (wC 0) (wC 5)) (wC 6)))
   wNx)
  (wCut (wIfS (wAnd (wT (wOp fEq (wC 2) (wK (.int 4)))) (wT (wOp (fB fun i j => decide (j < i)) (wCB fLen (wCons (wC 0) wNil)) (wK (.int 1)))))
   (wPop 8)
   wNx)
  (wCut (wIfS (wAnd (wT (wOp fEq (wC 2) (wK (.int 5)))) (wT (wOp (fB fun i j => decide (i < j)) (wCB fLen (wCons (wC 0) wNil)) (wK (.int 40)))))
   (wApp 8 (wOp fIxL (wC 0) (wC 5)))
   wNx)
  (wRetO 8))))))))))))
theorem pure__law_variant (A : CA) : ∀ xs Q X, p__law_variant A xs Q X → w__law_variant A (endsP true Q X) (startP ["rows", "cell", "kind", "letters", "drawn", "place", "other", "record", "changed", "at", "code"] [.b, .v, .v] xs) := by
  rintro _ Q X ⟨rs, c, k, rfl, hn, hrc, q⟩
  unfold w__law_variant
  walk_at "x"
  refine ⟨by decide, fun ds hd => ?_⟩
  obtain ⟨d0, d1, d2, d3, d4, rfl, e0, e1, e2, e3, e4⟩ := hd.d5
  walk_at "x"
  have m0 := Int.emod_nonneg d0 (show (rs.length : Int) ≠ 0 by omega)
  have m1 := Int.emod_lt_of_pos d0 (show 0 < (rs.length : Int) by omega)
  have m2 := Int.emod_nonneg d1 (show (rs.length : Int) ≠ 0 by omega)
  have m3 := Int.emod_lt_of_pos d1 (show 0 < (rs.length : Int) by omega)
  generalize d0 % (rs.length : Int) = p at *
  generalize d1 % (rs.length : Int) = o at *
  have hLl := letters_len
  have hLm : ∀ c ∈ (Str.ofString "abcdefghijklmnopqrstuvwxyz0123456789").cps.toList, c ∈ signs := fun c h => h
  generalize (Str.ofString "abcdefghijklmnopqrstuvwxyz0123456789") = L at *
  have hrp := hrc _ (gx_mem (l := rs) (i := p) ⟨by omega, m1⟩)
  have hro := hrc _ (gx_mem (l := rs) (i := o) ⟨by omega, m3⟩)
  refine ⟨by omega, m1, ?_⟩
  have hset : ∀ {l : List (Int × Str)} {i : Nat} {r : Int × Str}, (∀ r ∈ l, isRec r.2 = true) → isRec r.2 = true → ∀ x ∈ l.set i r, isRec x.2 = true := fun h1 h2 x hx => by
    rcases List.mem_or_eq_of_mem_set hx with hx | rfl
    · exact h1 x hx
    · exact h2
  refine cutA 8 .o rl (fun c => c.length = rs.length ∧ ∀ r ∈ c, isRec r.2 = true) ?_ fun c1 h1 => ?_
  · walk_at "x"
    split
    · exact ⟨by omega, m1, mul_s (by omega) (by omega), by omega, m1, rs.set (ixj rs.length p) ((gx rs p).1 + 1 - 2 * d2, (gx rs p).2), by rw [List.map_set], by rw [List.length_set], hset hrc hrp⟩
    · exact hrc
  refine cutAT [9, 10] 8 .o rl (fun c => c.length = rs.length ∧ ∀ r ∈ c, isRec r.2 = true) ?_ fun c2 e' h2 he' => ?_
  · walk_at "x"
    split
    · have hlz := isRec_len hrp
      have a0 := Int.emod_nonneg d3 (show (((gx rs p).2.length : Nat) : Int) ≠ 0 by omega)
      have a1 := Int.emod_lt_of_pos d3 (show 0 < (((gx rs p).2.length : Nat) : Int) by omega)
      generalize d3 % (((gx rs p).2.length : Nat) : Int) = at_ at *
      obtain ⟨c, -, hc⟩ := atI_ex (xs := (gx rs p).2.cps.toList) a0 (by rw [len_list]; exact a1)
      refine ⟨by omega, c, hc, by omega, m1, ?_⟩
      have b0 := Int.emod_nonneg (Txt.find L { cps := #[c] } + 1 + d4) (show (36 : Int) ≠ 0 by decide)
      have b1 := Int.emod_lt_of_pos (Txt.find L { cps := #[c] } + 1 + d4) (show (0 : Int) < 36 by decide)
      generalize (Txt.find L { cps := #[c] } + 1 + d4) % 36 = cd at *
      obtain ⟨c2, hcm, hc2⟩ := atI_ex (xs := L.cps.toList) b0 (by rw [hLl]; exact b1)
      have hc2m : c2 ∈ signs := hLm _ hcm
      have hr := rec_sub hrp hc2m a0 a1
      have l1 := cutS_len (z := (gx rs p).2) (lo := none) (hi := some at_)
      have l2 := cutS_len (z := (gx rs p).2) (lo := some (at_ + 1)) (hi := none)
      exact ⟨c2, hc2, by rw [one_len]; omega, by rw [app_len, one_len]; omega, by omega, by omega, c1.set (ixj c1.length p) ((gx rs p).1, cutS (gx rs p).2 none (some at_) ++ ⟨#[c2]⟩ ++ cutS (gx rs p).2 (some (at_ + 1)) none), by rw [List.length_set]; exact h1.1, hset h1.2 hr, by rw [List.map_set]⟩
    · exact ⟨c1, h1.1, h1.2, rfl⟩
  obtain ⟨v9, v10, rfl⟩ := he'
  refine cutA 8 .o rl (fun c => c.length = rs.length ∧ ∀ r ∈ c, isRec r.2 = true) ?_ fun c3 h3 => ?_
  · walk_at "x"
    split
    · exact ⟨by omega, m3, by omega, by omega, by omega, m1, by omega, by omega, (c2.set (ixj c2.length p) (gx rs o)).set (ixj c2.length o) (gx rs p), by rw [List.map_set, List.map_set], by rw [List.length_set, List.length_set]; exact h2.1, hset (hset h2.2 hro) hrp⟩
    · exact h2
  refine cutA 8 .o rl (fun c => (0 < c.length ∧ c.length ≤ 40) ∧ ∀ r ∈ c, isRec r.2 = true) ?_ fun c4 h4 => ?_
  · walk_at "x"
    have hd3 : c3.dropLast.length = c3.length - 1 := List.length_dropLast
    split
    · split
      · exact ⟨by omega, by omega, by omega, fun r hr => h3.2 r (List.dropLast_subset _ hr)⟩
      · exact ⟨by omega, by omega, h3.2⟩
    · exact ⟨by omega, by omega, h3.2⟩
  refine cutA 8 .o rl (fun c => (0 < c.length ∧ c.length ≤ 41) ∧ ∀ r ∈ c, isRec r.2 = true) ?_ fun c5 h5 => ?_
  · walk_at "x"
    split
    · split
      · refine ⟨by omega, m1, by omega, by omega, by omega, fun r hr => ?_⟩
        rcases List.mem_append.mp hr with hr | hr
        · exact h4.2 r hr
        · rw [List.mem_singleton.mp hr]; exact hrp
      · exact ⟨by omega, by omega, h4.2⟩
    · exact ⟨by omega, by omega, h4.2⟩
  walk_at "x"
  exact q c5 h5.1.1 h5.1.2 h5.2
--@@DEF _law_wide_rows
def p__law_wide_rows (_ : CA) : PSp := fun xs Q _ => ∃ (sc : List Int) (k : Int), xs = [.scr sc, .int k] ∧ 0 ≤ k ∧ k ≤ 1000 ∧ ∀ rs n, GoodR rs n (-1000000) 1000000 → 1 ≤ n → n ≤ 40 → Q (rl rs)

instance ap__law_wide_rows {A : CA} {sc : List Int} {k : Int} : PAp (p__law_wide_rows A) [.scr sc, .int k] (fun Q X => 0 ≤ k ∧ k ≤ 1000 ∧ ∀ rs n, GoodR rs n (-1000000) 1000000 → 1 ≤ n → n ≤ 40 → Q (rl rs)) := ⟨fun Q X => by
  unfold p__law_wide_rows
  simp only [List.cons.injEq, P.lst.injEq, P.tup.injEq, P.ins.injEq, P.int.injEq, P.str.injEq, P.bl.injEq, P.scr.injEq, int_inj, str_inj, bl_inj, row_inj, and_true, true_and, and_assoc, exists_and_left, exists_eq_left', exists_eq_left, eq_self]⟩
def w__law_wide_rows (A : CA) : WS :=
  (wSeq (wAV 2 (wCall0 (p__law_draws A) (wCons (wCall0 (p__law_cell A) (wCons (wV 0) (wCons (wV 1) wNil))) (wCons (wLst (wCons (wK (.int 8)) (wCons (wK (.int 6)) (wCons (wK (.int 5)) (wCons (wK (.int 40)) (wCons (wK (.int 12)) (wCons (wK (.int 13)) (wCons (wK (.int 32)) (wCons (wK (.int 8)) (wCons (wK (.int 4)) (wCons (wK (.int 40)) (wCons (wK (.int 2)) (wCons (wK (.int 40)) wNil))))))))))))) wNil))))
  (wSeq (wAV 3 (wOp (fI fun i j => i + j) (wK (.int 1)) (wOp fIxL (wC 2) (wK (.int 1)))))
  (wSeq (wAV 4 (wOp (fI fun i j => i + j) (wK (.int 1)) (wOp fIxL (wC 2) (wK (.int 2)))))
  (wCut (wIfS (wT (wOp fEq (wOp fIxL (wC 2) (wK (.int 0))) (wK (.int 7))))
   (wSeq (wAV 3 (wOp (fI fun i j => i + j) (wK (.int 1)) (wOp fIxL (wC 2) (wK (.int 3)))))
   (wAV 4 (wOp (fI fun i j => i + j) (wK (.int 1)) (wOp fIxL (wC 2) (wK (.int 4))))))
   wNx)
  (wSeq (wAV 5 (wOp (fI fun i j => i - j) (wOp fIxL (wC 2) (wK (.int 5))) (wK (.int 6))))
  (wCut (wIfS (wT (wOp (fB fun i j => decide (i < j)) (wOp fIxL (wC 2) (wK (.int 6))) (wK (.int 2))))
   (wAV 5 (wOp (fI fun i j => i - j) (wOp (fIc CMulW fun i j => i * j) (wK (.int 1800)) (wOp fIxL (wC 2) (wK (.int 6)))) (wK (.int 900))))
   wNx)
  (wSeq (wAV 6 (wK (.int 4)))
  (wCut (wIfS (wT (wOp fEq (wOp fIxL (wC 2) (wK (.int 7))) (wK (.int 7))))
   (wAV 6 (wOp fIxL (wC 2) (wK (.int 8))))
   wNx)
  (wCut (wIfS (wT (wOp fEq (wC 6) (wK (.int 1))))
   (wAV 3 (wK (.int 1)))
   wNx)
  (wCut (wIfS (wT (wOp fEq (wC 6) (wK (.int 3))))
   (wAV 3 (wOp (fI fun i j => i + j) (wK (.int 1)) (wOp (fIc (fun _ j => 0 < j) fun i j => i % j) (wCB fInt1 (wCons (wOp fIxL (wC 2) (wK (.int 9))) wNil)) (wK (.int 12)))))
   wNx)
  (wSeq (wAV 7 (wCall0 (p__law_names A) (wCons (wCall0 (p__law_cell A) (wCons (wV 0) (wCons (wOp (fI fun i j => i + j) (wC 1) (wK (.int 2))) wNil))) (wCons (wV 3) wNil))))
  (wCut (wIfS (wT (wOp fEq (wOp fIxL (wC 2) (wK (.int 10))) (wK (.int 1))))
   (wAV 8 (wCall0 (p__law_unlike_rows A) (wCons (wCall0 (p__law_cell A) (wCons (wV 0) (wCons (wOp (fI fun i j => i + j) (wC 1) (wK (.int 1))) wNil))) (wCons (wC 7) (wCons (wV 3) (wCons (wV 4) (wCons (wV 5) wNil)))))))
   (wSeq (wAV 7 (wSl fSlL (wC 7) wONo (wOSo (wOp (fI fun i j => i + j) (wK (.int 1)) (wOp (fIc (fun _ j => 0 < j) fun i j => i % j) (wCB fInt1 (wCons (wOp fIxL (wC 2) (wK (.int 11))) wNil)) (wC 3))))))
   (wAV 8 (wCall0 (p__law_rows A) (wCons (wCall0 (p__law_cell A) (wCons (wV 0) (wCons (wOp (fI fun i j => i + j) (wC 1) (wK (.int 1))) wNil))) (wCons (wC 7) (wCons (wV 3) (wCons (wV 4) (wCons (wV 5) wNil)))))))))
  (wRet (wCall0 (p__law_shaped A) (wCons (wV 8) (wCons (wV 6) (wCons (wV 5) (wCons (wOp (fI fun i j => i + j) (wK (.int 1)) (wOp fIxL (wC 2) (wK (.int 9)))) wNil))))))))))))))))))
theorem pure__law_wide_rows (A : CA) : ∀ xs Q X, p__law_wide_rows A xs Q X → w__law_wide_rows A (endsP false Q X) (startP ["script", "at", "drawn", "count", "spread", "base", "shape", "names", "rows"] [.v, .v] xs) := by
  rintro _ Q X ⟨sc, k, rfl, hk0, hk1, q⟩
  unfold w__law_wide_rows
  walk_at "pl"
  refine ⟨sc, k, rfl, hk0, fun c => ?_⟩
  walk_at "pl"
  refine ⟨sz (by decide), c, [8, 6, 5, 40, 12, 13, 32, 8, 4, 40, 2, 40], rfl, by decide, by decide, fun ds hd => ?_⟩
  walk_at "pl"
  obtain ⟨d0, _, a0, l0, h0⟩ := hd.get (k := 0) (s := 8) (by decide) rfl
  obtain ⟨d1, _, a1, l1, h1⟩ := hd.get (k := 1) (s := 6) (by decide) rfl
  obtain ⟨d2, _, a2, l2, h2⟩ := hd.get (k := 2) (s := 5) (by decide) rfl
  obtain ⟨d3, _, a3, l3, h3⟩ := hd.get (k := 3) (s := 40) (by decide) rfl
  obtain ⟨d4, _, a4, l4, h4⟩ := hd.get (k := 4) (s := 12) (by decide) rfl
  obtain ⟨d5, _, a5, l5, h5⟩ := hd.get (k := 5) (s := 13) (by decide) rfl
  obtain ⟨d6, _, a6, l6, h6⟩ := hd.get (k := 6) (s := 32) (by decide) rfl
  obtain ⟨d7, _, a7, l7, h7⟩ := hd.get (k := 7) (s := 8) (by decide) rfl
  obtain ⟨d8, _, a8, l8, h8⟩ := hd.get (k := 8) (s := 4) (by decide) rfl
  obtain ⟨d9, _, a9, l9, h9⟩ := hd.get (k := 9) (s := 40) (by decide) rfl
  obtain ⟨d10, _, a10, l10, h10⟩ := hd.get (k := 10) (s := 2) (by decide) rfl
  obtain ⟨d11, _, a11, l11, h11⟩ := hd.get (k := 11) (s := 40) (by decide) rfl
  walk_at "pq"
  refine ⟨fun e => ∃ (ct sp : Int), e = [some (.v, .scr sc), some (.v, .int k), some (.v, il ds), some (.v, .int ct), some (.v, .int sp), none, none, none, none] ∧ 1 ≤ ct ∧ ct ≤ 40 ∧ 1 ≤ sp ∧ sp ≤ 12, ?_, ?_⟩
  · walk_at "pq"
    split
    · exact ⟨_, _, rfl, by omega, by omega, by omega, by omega⟩
    · exact ⟨_, _, rfl, by omega, by omega, by omega, by omega⟩
  clear a0 a1 a2 a3 a4 h0 h1 h2 h3 h4 l0 l1 l2 l3 l4
  rintro _ ⟨ct, sp, rfl, c0, c1, s0, s1⟩
  have m6 : CMulW 1800 d6 := mul_s (by omega) (by omega)
  walk_at "pq"
  refine ⟨fun e => ∃ (b : Int), e = [some (.v, .scr sc), some (.v, .int k), some (.v, il ds), some (.v, .int ct), some (.v, .int sp), some (.v, .int b), none, none, none] ∧ -900 ≤ b ∧ b ≤ 900, ?_, ?_⟩
  · walk_at "pq"
    split
    · exact ⟨_, rfl, by omega, by omega⟩
    · exact ⟨_, rfl, by omega, by omega⟩
  rintro _ ⟨b, rfl, b0, b1⟩
  walk_at "pq"
  refine ⟨fun e => ∃ (sh : Int), e = [some (.v, .scr sc), some (.v, .int k), some (.v, il ds), some (.v, .int ct), some (.v, .int sp), some (.v, .int b), some (.v, .int sh), none, none] ∧ True, ?_, ?_⟩
  · walk_at "pq"
    split
    · exact ⟨_, rfl⟩
    · exact ⟨_, rfl⟩
  rintro _ ⟨sh, rfl, _⟩
  refine ⟨fun e => ∃ (ct : Int), e = [some (.v, .scr sc), some (.v, .int k), some (.v, il ds), some (.v, .int ct), some (.v, .int sp), some (.v, .int b), some (.v, .int sh), none, none] ∧ 1 ≤ ct ∧ ct ≤ 40, ?_, ?_⟩
  · walk_at "pq"
    split
    · exact ⟨_, rfl, by omega, by omega⟩
    · exact ⟨_, rfl, by omega, by omega⟩
  clear c0 c1 ct
  rintro _ ⟨ct, rfl, c0, c1⟩
  refine ⟨fun e => ∃ (ct : Int), e = [some (.v, .scr sc), some (.v, .int k), some (.v, il ds), some (.v, .int ct), some (.v, .int sp), some (.v, .int b), some (.v, .int sh), none, none] ∧ 1 ≤ ct ∧ ct ≤ 40, ?_, ?_⟩
  · walk_at "pq"
    split
    · exact ⟨_, rfl, by omega, by omega⟩
    · exact ⟨_, rfl, by omega, by omega⟩
  clear c0 c1 ct
  rintro _ ⟨ct, rfl, c0, c1⟩
  walk_at "pl"
  refine ⟨sc, _, rfl, by omega, fun c2 => ?_⟩
  walk_at "pl"
  refine ⟨c2, ct, rfl, by omega, by omega, fun ns hn hr _ => ?_⟩
  walk_at "pl"
  refine ⟨fun e => ∃ (ns : List Str) (rs : List (Int × Str)), e = [some (.v, .scr sc), some (.v, .int k), some (.v, il ds), some (.v, .int ct), some (.v, .int sp), some (.v, .int b), some (.v, .int sh), some (.v, sl ns), some (.v, rl rs)] ∧ GoodR rs ct.toNat (-100000) 100000, ?_, ?_⟩
  · walk_at "pq"
    split
    · refine ⟨sc, _, rfl, by omega, fun c3 => ⟨c3, ns, ct, sp, b, rfl, by omega, hr, by omega, by omega, fun rs hR _ => ⟨ns, rs, rfl, hR.mono (by omega) (by omega)⟩⟩⟩
    · have hm0 : 0 ≤ d11 % ct := Int.emod_nonneg _ (by omega)
      have hm1 : d11 % ct < ct := Int.emod_lt_of_pos _ (by omega)
      refine ⟨by omega, sc, _, rfl, by omega, fun c3 => ?_⟩
      rw [cut_sl (by omega)]
      exact ⟨c3, _, ct, sp, b, rfl, ⟨by rw [List.length_take]; omega, by rw [List.length_take]; omega⟩, fun z hz => hr z (List.mem_of_mem_take hz), by omega, by omega, fun rs hR _ => ⟨_, rs, rfl, hR.mono (by omega) (by omega)⟩⟩
  rintro _ ⟨ns2, rs, rfl, hR⟩
  walk_at "pq"
  exact ⟨rs, sh, b, 1 + d9, ct.toNat, rfl, hR, by omega, by omega, by omega, fun rs2 h2 => q rs2 _ h2 (by omega) (by omega)⟩
--@@DEF Sheaf___init__
def p_Sheaf___init__ (A : CA) : PSp := fun xs Q X => ∃ (rs : List (Int × Str)), xs = [rl rs] ∧ rs.length ≤ 1000 ∧
  (rs = [] → X A.InvalidSheaf ["index"] [.int 0]) ∧ (rs ≠ [] → 0 ≤ fb rs → X A.InvalidSheaf ["index"] [.int (fb rs)]) ∧
  (rs ≠ [] → fb rs < 0 → ∀ t b, (∃ r ∈ rs, r.1 = t) → (∀ r ∈ rs, r.1 ≤ t) → (∃ r ∈ rs, r.1 = b) → (∀ r ∈ rs, b ≤ r.1) → Q (shfP A rs t b))
theorem enum_rl {rs : List (Int × Str)} {i : Nat} {x : P} (h : (enumP (rs.map rowP))[i]? = some x) : ∃ r, rs[i]? = some r ∧ x = .tup [.int i, rowP r] := by
  have hi : i < rs.length := by have := (List.getElem?_eq_some_iff.mp h).1; rw [enumP_len, List.length_map] at this; exact this
  have e := enumP_at (xs := rs.map rowP) (i := i) (x := rowP rs[i]) (by rw [List.getElem?_map, List.getElem?_eq_getElem hi]; rfl)
  rw [e] at h
  cases h
  exact ⟨rs[i], List.getElem?_eq_getElem hi, rfl⟩

instance ap_Sheaf___init__ {A : CA} {xs : List P} {rs : List (Int × Str)} [h : EL rowP xs rs] : PAp (p_Sheaf___init__ A) [.lst xs] (fun Q X => rs.length ≤ 1000 ∧ if okR rs then Q (shf A rs) else if rs = [] then X A.InvalidSheaf ["index"] [.int 0] else X A.InvalidSheaf ["index"] [.int (fb rs)]) := ⟨fun Q X => by
  unfold p_Sheaf___init__
  rw [h.eq]
  refine propext ⟨fun ⟨rs2, e, h1, h2, h3, h4⟩ => ?_, fun ⟨h1, h2⟩ => ⟨rs, rfl, h1, fun e => ?_, fun e f => ?_, fun e f t b t1 t2 b1 b2 => ?_⟩⟩
  · simp only [List.cons.injEq, P.lst.injEq, row_inj, and_true] at e
    subst e
    refine ⟨h1, ?_⟩
    by_cases hr : rs = []
    · rw [if_neg fun z => z.1 hr, if_pos hr]; exact h2 hr
    · by_cases hf : fb rs < 0
      · have hl : 0 < (rs.map Prod.fst).length := by rw [List.length_map]; exact List.length_pos_iff.mpr hr
        obtain ⟨r, m1, m2⟩ := List.mem_map.mp (maxI_mem hl)
        obtain ⟨r', m3, m4⟩ := List.mem_map.mp (minI_mem hl)
        rw [if_pos ⟨hr, hf⟩]
        exact h4 hr hf _ _ ⟨r, m1, m2⟩ (fun r hr => le_maxI (List.mem_map_of_mem hr)) ⟨r', m3, m4⟩ fun r hr => minI_le (List.mem_map_of_mem hr)
      · rw [if_neg fun z => hf z.2, if_neg hr]; exact h3 hr (by omega)
  · rw [if_neg fun z => z.1 e, if_pos e] at h2; exact h2
  · rw [if_neg fun z => absurd z.2 (by omega), if_neg e] at h2; exact h2
  · rw [if_pos ⟨e, f⟩] at h2
    obtain ⟨r, m1, m2⟩ := t1
    obtain ⟨r', m3, m4⟩ := b1
    have e1 : maxI (rs.map Prod.fst) = t := maxI_eq (List.mem_map.mpr ⟨r, m1, m2⟩) fun x hx => by
      obtain ⟨q, hq, rfl⟩ := List.mem_map.mp hx
      exact t2 q hq
    have e2 : minI (rs.map Prod.fst) = b := minI_eq (List.mem_map.mpr ⟨r', m3, m4⟩) fun x hx => by
      obtain ⟨q, hq, rfl⟩ := List.mem_map.mp hx
      exact b2 q hq
    rw [← e1, ← e2]
    exact h2⟩
def w_Sheaf___init__ (A : CA) : WS :=
  (wSeq (wFldS A.Sheaf 0 "_rows" (wCB fList (wCons (wC 1) wNil)))
  (wSeq (wIfS (wNot (wTr (wFldR A.Sheaf "_rows" (wC 0))))
   (wRaise A.InvalidSheaf ["index"] (wCons (wK (.int 0)) wNil))
   wNx)
  (wSeq (wFor (wIE (wCons (wFldR A.Sheaf "_rows" (wC 0)) wNil)) (wgT (wgLen 2 (wgCons (wgN 2) (wgCons (wgN 3) wgNil))))
   (wIfS (wNot (wT (wCall0 (p_valid_record A) (wCons (wOp fIxT (wC 3) (wK (.int 1))) wNil))))
    (wRaise A.InvalidSheaf ["index"] (wCons (wV 2) wNil))
    wNx))
  (wSeq (wFldS A.Sheaf 0 "_top" (wCB fMax (wCons (wLc (wIL (wFldR A.Sheaf "_rows" (wC 0))) (wgN 3) (fun _ Q _ => Q true) (wOp fIxT (wC 3) (wK (.int 0))) [3]) wNil)))
  (wFldS A.Sheaf 0 "_bottom" (wCB fMin (wCons (wLc (wIL (wFldR A.Sheaf "_rows" (wC 0))) (wgN 3) (fun _ Q _ => Q true) (wOp fIxT (wC 3) (wK (.int 0))) [3]) wNil)))))))
theorem pure_Sheaf___init__ (A : CA) : ∀ a xs Q X, p_Sheaf___init__ A xs Q X → w_Sheaf___init__ A (endsI a Q X) (initP ["self", "rows", "index", "row"] a A.Sheaf [.b] xs) := by
  rintro a _ Q X ⟨rs, rfl, hn, h1, h2, h3⟩
  unfold w_Sheaf___init__
  walk_at "pl"
  split
  · rename_i e
    exact h1 (by simpa using e)
  rename_i e
  have hne : rs ≠ [] := fun h => e (by rw [h]; rfl)
  refine for_l (fun i e => ∃ v2 v3 : Option (Mo × P), e = [some (.o, .slf a A.Sheaf ["_rows"] [rl rs]), some (.b, rl rs), v2, v3] ∧ ∀ j < i, ∀ q, rs[j]? = some q → isRec q.2 = true)
    ⟨_, _, rfl, fun j hj => absurd hj (Nat.not_lt_zero _)⟩ ?_ ?_
  · rintro i x _ hx ⟨v2, v3, rfl, hj⟩
    obtain ⟨r, hr, rfl⟩ := enum_rl hx
    walk_at "pq"
    refine ⟨r.2, rfl, ?_⟩
    walk_at "pl"
    split
    · rename_i hb
      have h4 := h2 hne
      rw [fb_some hr hb hj] at h4
      exact h4 (by omega)
    · rename_i hb
      refine ⟨_, _, rfl, fun j hj2 q2 hq2 => ?_⟩
      by_cases hji : j < i
      · exact hj j hji q2 hq2
      · have hji : j = i := by omega
        subst hji
        rw [hr] at hq2
        have hq3 : r = q2 := Option.some.inj hq2
        subst hq3
        simpa using hb
  · rintro _ ⟨v2, v3, rfl, hj⟩
    rw [enumP_len, List.length_map] at hj
    have hf : fb rs < 0 := by rw [fb_none fun j q2 hq2 => hj j (List.getElem?_eq_some_iff.mp hq2).1 q2 hq2]; decide
    have hp : 0 < (rs.map Prod.fst).length := by rw [List.length_map]; exact List.length_pos_iff.mpr hne
    walk_at "pq"
    refine lc_time (by omega) (fun r Q _ hQ => by walk_at "pq") ⟨_, rfl, hp, fun t ht1 ht2 => ?_⟩
    refine lc_time (by omega) (fun r Q _ hQ => by walk_at "pq") ⟨_, rfl, hp, fun b hb1 hb2 => ?_⟩
    refine h3 hne hf t b ?_ (fun r hr => ht2 _ (List.mem_map_of_mem hr)) ?_ fun r hr => hb2 _ (List.mem_map_of_mem hr)
    · obtain ⟨r, h, e⟩ := List.mem_map.mp ht1
      exact ⟨r, h, e⟩
    · obtain ⟨r, h, e⟩ := List.mem_map.mp hb1
      exact ⟨r, h, e⟩
--@@DEF _law_holds
def p__law_holds (A : CA) : PSp := fun xs Q X =>
  (∃ (rs ys : List (Int × Str)) (t b : Int), xs = [shfP A rs t b, rl ys] ∧ (rs.length ≤ 1000 ∧ ys.length ≤ 1000 ∧ Q (.bl (decide (rs = ys)))))
instance ap__law_holds {A : CA} {rs ys : List (Int × Str)} {t b : Int} {xs_ys : List P} [h_ys : EL rowP xs_ys ys] : PAp (p__law_holds A) [shfP A rs t b, .lst xs_ys] (fun Q X =>
  rs.length ≤ 1000 ∧ ys.length ≤ 1000 ∧ Q (.bl (decide (rs = ys)))) := ⟨fun Q X => by
  unfold p__law_holds
  simp only [h_ys.eq, List.cons.injEq, P.lst.injEq, P.tup.injEq, P.ins.injEq, P.int.injEq, P.str.injEq, P.bl.injEq, P.scr.injEq, P.dct.injEq, int_inj, str_inj, bl_inj, row_inj, ii_inj, dd_inj, il_inj, tl_inj, dI_inj, rs_inj, and_true, true_and, and_assoc, exists_and_left, exists_eq_left', exists_eq_left, eq_self, reduceCtorEq, false_and, and_false, exists_false, or_false, false_or, List.nil_eq, List.map_eq_nil_iff]⟩
def w__law_holds (A : CA) : WS :=
  (wRet (wAndV (wOp fEq (wCB (fLenO A.Sheaf (p_Sheaf___len__ A)) (wCons (wC 0) wNil)) (wCB fLen (wCons (wC 1) wNil))) (wAndV (wCall0 (p__law_same_rows A) (wCons (wMeth A.Sheaf "rows" (p_Sheaf_rows A) (wC 0) wNil) (wCons (wC 1) wNil))) (wCall0 (p__law_same_rows A) (wCons (wCB (fListO A.Sheaf "_rows") (wCons (wC 0) wNil)) (wCons (wC 1) wNil))))))
theorem pure__law_holds (A : CA) : ∀ xs Q X, p__law_holds A xs Q X → w__law_holds A (endsP false Q X) (startP ["sheaf", "rows"] [.b, .b] xs) := by
  rintro _ Q X ⟨rs, ys, t, b, rfl, hn, hy, q⟩
  unfold w__law_holds
  walk_at "x"
  split
  · refine ⟨hn, hy, ?_⟩
    split
    · exact ⟨by omega, hn, hy, q⟩
    · rename_i h
      rw [decide_eq_false h] at q
      exact q
  · rename_i h
    rw [decide_eq_false (fun e => h (by rw [e]))] at q
    exact q
--@@DEF _law_equals
def p__law_equals (A : CA) : PSp := fun xs Q X =>
  (∃ (rs : List (Int × Str)) (c : Int), xs = [shf A rs, rl rs, .int c] ∧ ((0 < rs.length ∧ rs.length ≤ 40) ∧ (∀ r ∈ rs, isRec r.2 = true) ∧ Q (.bl true)))
instance ap__law_equals {A : CA} {rs : List (Int × Str)} {c : Int} {xs_rs : List P} [h_rs : EL rowP xs_rs rs] : PAp (p__law_equals A) [shf A rs, .lst xs_rs, .int c] (fun Q X =>
  (0 < rs.length ∧ rs.length ≤ 40) ∧ (∀ r ∈ rs, isRec r.2 = true) ∧ Q (.bl true)) := ⟨fun Q X => by
  unfold p__law_equals
  simp only [h_rs.eq, List.cons.injEq, P.lst.injEq, P.tup.injEq, P.ins.injEq, P.int.injEq, P.str.injEq, P.bl.injEq, P.scr.injEq, P.dct.injEq, int_inj, str_inj, bl_inj, row_inj, ii_inj, dd_inj, il_inj, tl_inj, dI_inj, rs_inj, and_true, true_and, and_assoc, exists_and_left, exists_eq_left', exists_eq_left, eq_self, reduceCtorEq, false_and, and_false, exists_false, or_false, false_or, List.nil_eq, List.map_eq_nil_iff]⟩
def w__law_equals (A : CA) : WS :=
  (wSeq (wFor (wIR1 (wCons (wK (.int 6)) wNil)) (wgN 3)
   (wSeq (wAV 4 (wCall0 (p__law_variant A) (wCons (wC 1) (wCons (wV 2) (wCons (wV 3) wNil)))))
   (wSeq (wAV 5 (wCall0 (p_Sheaf___init__ A) (wCons (wCB fList (wCons (wC 4) wNil)) wNil)))
   (wIfS (wOr (wT (wOp fNe (wCB fBool1 (wCons (wOp (fEqO A.Sheaf (p_Sheaf___eq__ A)) (wC 0) (wC 5)) wNil)) (wOp fEqD (wC 4) (wC 1)))) (wT (wOp fNe (wCB fBool1 (wCons (wOp (fEqO A.Sheaf (p_Sheaf___eq__ A)) (wC 5) (wC 0)) wNil)) (wOp fEqD (wC 4) (wC 1)))))
    (wRet (wK (.bl false)))
    wNx))))
  (wRet (wK (.bl true))))
theorem pure__law_equals (A : CA) : ∀ xs Q X, p__law_equals A xs Q X → w__law_equals A (endsP false Q X) (startP ["sheaf", "rows", "cell", "kind", "changed", "other"] [.b, .b, .v] xs) := by
  rintro _ Q X ⟨rs, c, rfl, hn, hrc, q⟩
  unfold w__law_equals
  walk_at "x"
  refine forKr [3, 4, 5] (fun _ => True) trivial (fun i e' hi _ he' => ?_) ⟨_, _, _, rfl⟩ ?_
  · obtain ⟨v3, v4, v5, rfl⟩ := he'
    walk_at "x"
    intro ys h0 h1 h2
    refine ⟨by omega, okR_of h0 h2, ?_⟩
    rw [if_neg fun h => h (decide_eq_decide.mpr eq_comm)]
    trivial
  rintro e' _ ⟨v3, v4, v5, rfl⟩
  walk_at "x"
  exact q
--@@DEF Sheaf___add__
def p_Sheaf___add__ (A : CA) : PSp := fun xs Q X =>
  (∃ (rs rs2 : List (Int × Str)) (t b t2 b2 : Int), xs = [shfP A rs t b, shfP A rs2 t2 b2] ∧ (rs.length ≤ 500 ∧ rs2.length ≤ 500 ∧ okR (rs ++ rs2) ∧ Q (shf A (rs ++ rs2))))
instance ap_Sheaf___add__ {A : CA} {rs rs2 : List (Int × Str)} {t b t2 b2 : Int}  : PAp (p_Sheaf___add__ A) [shfP A rs t b, shfP A rs2 t2 b2] (fun Q X =>
  rs.length ≤ 500 ∧ rs2.length ≤ 500 ∧ okR (rs ++ rs2) ∧ Q (shf A (rs ++ rs2))) := ⟨fun Q X => by
  unfold p_Sheaf___add__
  simp only [List.cons.injEq, P.lst.injEq, P.tup.injEq, P.ins.injEq, P.int.injEq, P.str.injEq, P.bl.injEq, P.scr.injEq, P.dct.injEq, int_inj, str_inj, bl_inj, row_inj, ii_inj, dd_inj, il_inj, tl_inj, dI_inj, rs_inj, and_true, true_and, and_assoc, exists_and_left, exists_eq_left', exists_eq_left, eq_self, reduceCtorEq, false_and, and_false, exists_false, or_false, false_or, List.nil_eq, List.map_eq_nil_iff]⟩
def w_Sheaf___add__ (A : CA) : WS :=
  (wSeq (wIfS (wNot (wT (wCB (fIsO A.Sheaf) (wCons (wC 1) (wCons (wK (.adr A.Sheaf)) wNil)))))
   wNever
   wNx)
  (wRet (wCall0 (p_Sheaf___init__ A) (wCons (wOp fCat (wFldR A.Sheaf "_rows" (wC 0)) (wFldR A.Sheaf "_rows" (wC 1))) wNil))))
theorem pure_Sheaf___add__ (A : CA) : ∀ xs Q X, p_Sheaf___add__ A xs Q X → w_Sheaf___add__ A (endsP false Q X) (startP ["self", "other"] [.b, .b] xs) := by
  rintro _ Q X ⟨rs, rs2, t, b, t2, b2, rfl, h1, h2, h3, q⟩
  unfold w_Sheaf___add__
  walk_at "x"
  exact q
--@@DEF _law_sums
def p__law_sums (A : CA) : PSp := fun xs Q X =>
  (∃ (as bs cs : List (Int × Str)), xs = [rl as, rl bs, rl cs] ∧ (((0 < as.length ∧ as.length ≤ 40) ∧ (0 < bs.length ∧ bs.length ≤ 40) ∧ (0 < cs.length ∧ cs.length ≤ 40)) ∧ (∀ r ∈ as, isRec r.2 = true) ∧ (∀ r ∈ bs, isRec r.2 = true) ∧ (∀ r ∈ cs, isRec r.2 = true) ∧ Q (.bl true)))
instance ap__law_sums {A : CA} {as bs cs : List (Int × Str)} {xs_as : List P} [h_as : EL rowP xs_as as] {xs_bs : List P} [h_bs : EL rowP xs_bs bs] {xs_cs : List P} [h_cs : EL rowP xs_cs cs] : PAp (p__law_sums A) [.lst xs_as, .lst xs_bs, .lst xs_cs] (fun Q X =>
  ((0 < as.length ∧ as.length ≤ 40) ∧ (0 < bs.length ∧ bs.length ≤ 40) ∧ (0 < cs.length ∧ cs.length ≤ 40)) ∧ (∀ r ∈ as, isRec r.2 = true) ∧ (∀ r ∈ bs, isRec r.2 = true) ∧ (∀ r ∈ cs, isRec r.2 = true) ∧ Q (.bl true)) := ⟨fun Q X => by
  unfold p__law_sums
  simp only [h_as.eq, h_bs.eq, h_cs.eq, List.cons.injEq, P.lst.injEq, P.tup.injEq, P.ins.injEq, P.int.injEq, P.str.injEq, P.bl.injEq, P.scr.injEq, P.dct.injEq, int_inj, str_inj, bl_inj, row_inj, ii_inj, dd_inj, il_inj, tl_inj, dI_inj, rs_inj, and_true, true_and, and_assoc, exists_and_left, exists_eq_left', exists_eq_left, eq_self, reduceCtorEq, false_and, and_false, exists_false, or_false, false_or, List.nil_eq, List.map_eq_nil_iff]⟩
def w__law_sums (A : CA) : WS :=
  (wSeq (wAV 3 (wCall0 (p_Sheaf___init__ A) (wCons (wCB fList (wCons (wC 0) wNil)) wNil)))
  (wSeq (wAV 4 (wCall0 (p_Sheaf___init__ A) (wCons (wCB fList (wCons (wC 1) wNil)) wNil)))
  (wSeq (wAV 5 (wCall0 (p_Sheaf___init__ A) (wCons (wCB fList (wCons (wC 2) wNil)) wNil)))
  (wSeq (wAV 6 (wOp (fAddO A.Sheaf (p_Sheaf___add__ A)) (wC 3) (wC 4)))
  (wSeq (wIfS (wOr (wNot (wT (wCB (fIsO A.Sheaf) (wCons (wC 6) (wCons (wK (.adr A.Sheaf)) wNil))))) (wNot (wT (wCall0 (p__law_holds A) (wCons (wC 6) (wCons (wOp fCat (wC 0) (wC 1)) wNil))))))
   (wRet (wK (.bl false)))
   wNx)
  (wSeq (wAO 7 (wMeth A.Sheaf "rows" (p_Sheaf_rows A) (wC 6) wNil))
  (wSeq (wSet 7 (wTup (wCons (wOp (fI fun i j => i + j) (wOp fIxT (wOp fIxL (wC 0) (wK (.int 0))) (wK (.int 0))) (wK (.int 1))) (wCons (wOp fIxT (wOp fIxL (wC 0) (wK (.int 0))) (wK (.int 1))) wNil))) (wK (.int 0)))
  (wSeq (wApp 7 (wTup (wCons (wOp fIxT (wOp fIxL (wC 0) (wK (.int 0))) (wK (.int 0))) (wCons (wK (.str "spoilt")) wNil))))
  (wSeq (wIfS (wOr (wNot (wT (wCall0 (p__law_holds A) (wCons (wOp (fAddO A.Sheaf (p_Sheaf___add__ A)) (wC 4) (wC 3)) (wCons (wOp fCat (wC 1) (wC 0)) wNil))))) (wNot (wT (wCall0 (p__law_holds A) (wCons (wOp (fAddO A.Sheaf (p_Sheaf___add__ A)) (wC 3) (wC 3)) (wCons (wOp fCat (wC 0) (wC 0)) wNil))))))
   (wRet (wK (.bl false)))
   wNx)
  (wSeq (wAV 8 (wOp (fAddO A.Sheaf (p_Sheaf___add__ A)) (wC 6) (wC 5)))
  (wSeq (wIfS (wOr (wNot (wT (wCall0 (p__law_holds A) (wCons (wC 8) (wCons (wOp fCat (wOp fCat (wC 0) (wC 1)) (wC 2)) wNil))))) (wNot (wT (wCall0 (p__law_holds A) (wCons (wOp (fAddO A.Sheaf (p_Sheaf___add__ A)) (wC 3) (wOp (fAddO A.Sheaf (p_Sheaf___add__ A)) (wC 4) (wC 5))) (wCons (wOp fCat (wOp fCat (wC 0) (wC 1)) (wC 2)) wNil))))))
   (wRet (wK (.bl false)))
   wNx)
  (wSeq (wIfS (wNot (wT (wOp (fEqO A.Sheaf (p_Sheaf___eq__ A)) (wC 8) (wOp (fAddO A.Sheaf (p_Sheaf___add__ A)) (wC 3) (wOp (fAddO A.Sheaf (p_Sheaf___add__ A)) (wC 4) (wC 5))))))
   (wRet (wK (.bl false)))
   wNx)
  (wSeq (wIfS (wOr (wNot (wT (wCall0 (p__law_holds A) (wCons (wC 3) (wCons (wC 0) wNil))))) (wOr (wNot (wT (wCall0 (p__law_holds A) (wCons (wC 4) (wCons (wC 1) wNil))))) (wNot (wT (wCall0 (p__law_holds A) (wCons (wC 5) (wCons (wC 2) wNil)))))))
   (wRet (wK (.bl false)))
   wNx)
  (wRet (wCall0 (p__law_holds A) (wCons (wC 6) (wCons (wOp fCat (wC 0) (wC 1)) wNil)))))))))))))))))
theorem pure__law_sums (A : CA) : ∀ xs Q X, p__law_sums A xs Q X → w__law_sums A (endsP false Q X) (startP ["one", "two", "three", "left", "middle", "right", "pair", "told", "whole"] [.b, .b, .b] xs) := by
  rintro _ Q X ⟨as, bs, cs, rfl, hn, ha, hb, hc, q⟩
  unfold w__law_sums
  have happ : ∀ {x y : List (Int × Str)}, (∀ r ∈ x, isRec r.2 = true) → (∀ r ∈ y, isRec r.2 = true) → ∀ r ∈ x ++ y, isRec r.2 = true := fun h1 h2 r hr => (List.mem_append.mp hr).elim (h1 r) (h2 r)
  have oa := okR_of hn.1.1 ha
  have ob := okR_of hn.2.1.1 hb
  have oc := okR_of hn.2.2.1 hc
  have ok2 : ∀ {x y : List (Int × Str)}, 0 < x.length → (∀ r ∈ x, isRec r.2 = true) → (∀ r ∈ y, isRec r.2 = true) → okR (x ++ y) := fun h0 h1 h2 => okR_of (by rw [List.length_append]; omega) (happ h1 h2)
  have oab := ok2 hn.1.1 ha hb
  have oba := ok2 hn.2.1.1 hb ha
  have oaa := ok2 hn.1.1 ha ha
  have obc := ok2 hn.2.1.1 hb hc
  have oabc := ok2 (by rw [List.length_append]; omega) (happ ha hb) hc
  have oabc2 := ok2 hn.1.1 ha (happ hb hc)
  walk_at "x"
  have e := List.append_assoc as bs cs
  rw [if_neg fun h => h e.symm]
  refine ⟨by omega, by omega, obc, by omega, by omega, oabc2, ?_⟩
  rw [if_neg fun h => h e]
  exact ⟨by omega, by omega, by omega, by omega, by omega, by omega, by omega, by omega, by omega, q⟩
--@@DEF law
def p_law (_ : CA) : PSp := pLaw
def w_law (A : CA) : WS :=
  (wSeq (wAV 1 (wCall0 (p__law_wide_rows A) (wCons (wV 0) (wCons (wK (.int 0)) wNil))))
  (wSeq (wAO 2 (wCB fList (wCons (wC 1) wNil)))
  (wSeq (wAV 3 (wCall0 (p_Sheaf___init__ A) (wCons (wC 2) wNil)))
  (wSeq (wIfS (wT (wOp fNeD (wC 2) (wC 1)))
   (wRet (wK (.bl false)))
   wNx)
  (wSeq (wSet 2 (wTup (wCons (wOp (fI fun i j => i + j) (wOp fIxT (wOp fIxL (wC 1) (wK (.int 0))) (wK (.int 0))) (wK (.int 1))) (wCons (wOp fIxT (wOp fIxL (wC 1) (wK (.int 0))) (wK (.int 1))) wNil))) (wK (.int 0)))
  (wSeq (wApp 2 (wTup (wCons (wOp fIxT (wOp fIxL (wC 1) (wK (.int 0))) (wK (.int 0))) (wCons (wK (.str "spoilt")) wNil))))
  (wSeq (wIfS (wNot (wT (wCall0 (p__law_holds A) (wCons (wC 3) (wCons (wC 1) wNil)))))
   (wRet (wK (.bl false)))
   wNx)
  (wSeq (wAO 4 (wMeth A.Sheaf "rows" (p_Sheaf_rows A) (wC 3) wNil))
  (wSeq (wSet 4 (wTup (wCons (wOp (fI fun i j => i + j) (wOp fIxT (wOp fIxL (wC 1) (wK (.int 0))) (wK (.int 0))) (wK (.int 1))) (wCons (wOp fIxT (wOp fIxL (wC 1) (wK (.int 0))) (wK (.int 1))) wNil))) (wK (.int 0)))
  (wSeq (wApp 4 (wTup (wCons (wOp fIxT (wOp fIxL (wC 1) (wK (.int 0))) (wK (.int 0))) (wCons (wK (.str "spoilt")) wNil))))
  (wSeq (wIfS (wOr (wNot (wT (wCall0 (p__law_holds A) (wCons (wC 3) (wCons (wC 1) wNil))))) (wNot (wT (wCall0 (p__law_equals A) (wCons (wC 3) (wCons (wC 1) (wCons (wCall0 (p__law_cell A) (wCons (wV 0) (wCons (wK (.int 9)) wNil))) wNil)))))))
   (wRet (wK (.bl false)))
   wNx)
  (wRet (wCall0 (p__law_sums A) (wCons (wSl fSlL (wC 1) wONo (wOSo (wK (.int 14)))) (wCons (wSl fSlL (wCall0 (p__law_wide_rows A) (wCons (wV 0) (wCons (wK (.int 3)) wNil))) wONo (wOSo (wK (.int 13)))) (wCons (wSl fSlL (wCall0 (p__law_wide_rows A) (wCons (wV 0) (wCons (wK (.int 6)) wNil))) wONo (wOSo (wK (.int 13)))) wNil))))))))))))))))
theorem pure_law (A : CA) : ∀ xs Q X, p_law A xs Q X → w_law A (endsP false Q X) (startP ["script", "rows", "given", "sheaf", "told"] [.v] xs) := by
  rintro _ Q X ⟨sc, rfl, hn, q⟩
  unfold w_law
  walk_at "x"
  intro rs n hR n0 n1
  have hl := hR.ln
  have hrc : ∀ r ∈ rs, isRec r.2 = true := hR.rc
  have hok := hR.ok n0
  refine ⟨by omega, hok, by omega, by omega, by omega, by omega, by omega, by omega, by omega, by omega, by omega, by omega, by omega, by omega, by omega, by omega, by omega, by omega, by omega, by omega, by omega, by omega, by omega, by omega, by omega, by omega, hrc, ?_⟩
  intro rs2 n2 hR2 m0 m1 rs3 n3 hR3 k0 k1
  have hl2 := hR2.ln
  have hl3 := hR3.ln
  rw [cutL_hi (by omega), cutL_hi (by omega), cutL_hi (by omega)]
  have t1 : (rs.take (Int.toNat 14)).length = min 14 rs.length := List.length_take
  have t2 : (rs2.take (Int.toNat 13)).length = min 13 rs2.length := List.length_take
  have t3 : (rs3.take (Int.toNat 13)).length = min 13 rs3.length := List.length_take
  exact ⟨by omega, by omega, by omega, by omega, by omega, by omega, fun r hr => hrc r (List.mem_of_mem_take hr), fun r hr => hR2.rc r (List.mem_of_mem_take hr), fun r hr => hR3.rc r (List.mem_of_mem_take hr), q⟩
end Pf
--@@ROW

namespace Pf
open PySem PySem.Spec PyProof.Rows L2
def topS (i : Nat) : Stmt := PySem.Challenge.pw_wornsheaf_k02_sheaf_keeps_rows.main.body.getD i (.Pass ⟨0, 0, 0, 0⟩)
abbrev s_valid_record : Stmt := topS 7
theorem sc_valid_record : FnScope ["text"] ["text"] (defScope s_valid_record) := ⟨rfl, rfl, rfl, by decide +kernel, rfl, by decide +kernel, by decide +kernel⟩
abbrev s__law_cell : Stmt := topS 10
theorem sc__law_cell : FnScope ["script", "k"] ["script", "k"] (defScope s__law_cell) := ⟨rfl, rfl, rfl, by decide +kernel, rfl, by decide +kernel, by decide +kernel⟩
abbrev s__law_draws : Stmt := topS 11
theorem sc__law_draws : FnScope ["cell", "sizes", "drawn", "left", "packed", "k", "mixed"] ["cell", "sizes"] (defScope s__law_draws) := ⟨rfl, rfl, rfl, by decide +kernel, rfl, by decide +kernel, by decide +kernel⟩
abbrev s__law_shaped : Stmt := topS 15
theorem sc__law_shaped : FnScope ["rows", "shape", "base", "gap", "row", "k"] ["rows", "shape", "base", "gap"] (defScope s__law_shaped) := ⟨rfl, rfl, rfl, by decide +kernel, rfl, by decide +kernel, by decide +kernel⟩
abbrev s__law_same_rows : Stmt := topS 17
theorem sc__law_same_rows : FnScope ["told", "rows", "k", "row"] ["told", "rows"] (defScope s__law_same_rows) := ⟨rfl, rfl, rfl, by decide +kernel, rfl, by decide +kernel, by decide +kernel⟩
abbrev s_InvalidSheaf___init__ : Stmt := inClass (topS 3) 0
theorem sc_InvalidSheaf___init__ : FnScope ["self", "index"] ["self", "index"] (defScope s_InvalidSheaf___init__) := ⟨rfl, rfl, rfl, by decide +kernel, rfl, by decide +kernel, by decide +kernel⟩
abbrev s_Sheaf___len__ : Stmt := inClass (topS 8) 1
theorem sc_Sheaf___len__ : FnScope ["self"] ["self"] (defScope s_Sheaf___len__) := ⟨rfl, rfl, rfl, by decide +kernel, rfl, by decide +kernel, by decide +kernel⟩
abbrev s_Sheaf___iter__ : Stmt := inClass (topS 8) 2
theorem sc_Sheaf___iter__ : FnScope ["self"] ["self"] (defScope s_Sheaf___iter__) := ⟨rfl, rfl, rfl, by decide +kernel, rfl, by decide +kernel, by decide +kernel⟩
abbrev s_Sheaf___eq__ : Stmt := inClass (topS 8) 3
theorem sc_Sheaf___eq__ : FnScope ["self", "other"] ["self", "other"] (defScope s_Sheaf___eq__) := ⟨rfl, rfl, rfl, by decide +kernel, rfl, by decide +kernel, by decide +kernel⟩
abbrev s_Sheaf_rows : Stmt := inClass (topS 8) 7
theorem sc_Sheaf_rows : FnScope ["self"] ["self"] (defScope s_Sheaf_rows) := ⟨rfl, rfl, rfl, by decide +kernel, rfl, by decide +kernel, by decide +kernel⟩
abbrev s__law_names : Stmt := topS 12
theorem sc__law_names : FnScope ["cell", "count", "letters", "drawn", "names", "k", "code", "place", "own", "front", "telling"] ["cell", "count"] (defScope s__law_names) := ⟨rfl, rfl, rfl, by decide +kernel, rfl, by decide +kernel, by decide +kernel⟩
abbrev s__law_rows : Stmt := topS 13
theorem sc__law_rows : FnScope ["cell", "names", "count", "spread", "base", "drawn", "k"] ["cell", "names", "count", "spread", "base"] (defScope s__law_rows) := ⟨rfl, rfl, rfl, by decide +kernel, rfl, by decide +kernel, by decide +kernel⟩
abbrev s__law_unlike_rows : Stmt := topS 14
theorem sc__law_unlike_rows : FnScope ["cell", "names", "count", "spread", "base", "drawn", "k"] ["cell", "names", "count", "spread", "base"] (defScope s__law_unlike_rows) := ⟨rfl, rfl, rfl, by decide +kernel, rfl, by decide +kernel, by decide +kernel⟩
abbrev s__law_variant : Stmt := topS 19
theorem sc__law_variant : FnScope ["rows", "cell", "kind", "letters", "drawn", "place", "other", "record", "changed", "at", "code"] ["rows", "cell", "kind"] (defScope s__law_variant) := ⟨rfl, rfl, rfl, by decide +kernel, rfl, by decide +kernel, by decide +kernel⟩
abbrev s__law_wide_rows : Stmt := topS 16
theorem sc__law_wide_rows : FnScope ["script", "at", "drawn", "count", "spread", "base", "shape", "names", "rows"] ["script", "at"] (defScope s__law_wide_rows) := ⟨rfl, rfl, rfl, by decide +kernel, rfl, by decide +kernel, by decide +kernel⟩
abbrev s_Sheaf___init__ : Stmt := inClass (topS 8) 0
theorem sc_Sheaf___init__ : FnScope ["self", "rows", "index", "row"] ["self", "rows"] (defScope s_Sheaf___init__) := ⟨rfl, rfl, rfl, by decide +kernel, rfl, by decide +kernel, by decide +kernel⟩
abbrev s__law_holds : Stmt := topS 18
theorem sc__law_holds : FnScope ["sheaf", "rows"] ["sheaf", "rows"] (defScope s__law_holds) := ⟨rfl, rfl, rfl, by decide +kernel, rfl, by decide +kernel, by decide +kernel⟩
abbrev s__law_equals : Stmt := topS 20
theorem sc__law_equals : FnScope ["sheaf", "rows", "cell", "kind", "changed", "other"] ["sheaf", "rows", "cell"] (defScope s__law_equals) := ⟨rfl, rfl, rfl, by decide +kernel, rfl, by decide +kernel, by decide +kernel⟩
abbrev s_Sheaf___add__ : Stmt := inClass (topS 8) 4
theorem sc_Sheaf___add__ : FnScope ["self", "other"] ["self", "other"] (defScope s_Sheaf___add__) := ⟨rfl, rfl, rfl, by decide +kernel, rfl, by decide +kernel, by decide +kernel⟩
abbrev s__law_sums : Stmt := topS 21
theorem sc__law_sums : FnScope ["one", "two", "three", "left", "middle", "right", "pair", "told", "whole"] ["one", "two", "three"] (defScope s__law_sums) := ⟨rfl, rfl, rfl, by decide +kernel, rfl, by decide +kernel, by decide +kernel⟩
abbrev s_law : Stmt := topS 22
theorem sc_law : FnScope ["script", "rows", "given", "sheaf", "told"] ["script"] (defScope s_law) := ⟨rfl, rfl, rfl, by decide +kernel, rfl, by decide +kernel, by decide +kernel⟩
--@@ENV
structure Env (K : PySem.W.Frag) (mg : Str → Option Value) where
  C_InvalidSheaf : Addr
  C_Sheaf : Addr
  C_WornError : Addr
  f_valid_record : Addr
  d_valid_record : FuncData
  F_valid_record : Fun K "valid_record" "valid_record" s_valid_record f_valid_record d_valid_record
  b_valid_record : Binds K d_valid_record ["text"] []
  g_valid_record : mg "valid_record" = some (.ref f_valid_record)
  f__law_cell : Addr
  d__law_cell : FuncData
  F__law_cell : Fun K "_law_cell" "_law_cell" s__law_cell f__law_cell d__law_cell
  b__law_cell : Binds K d__law_cell ["script", "k"] []
  g__law_cell : mg "_law_cell" = some (.ref f__law_cell)
  f__law_draws : Addr
  d__law_draws : FuncData
  F__law_draws : Fun K "_law_draws" "_law_draws" s__law_draws f__law_draws d__law_draws
  b__law_draws : Binds K d__law_draws ["cell", "sizes"] []
  g__law_draws : mg "_law_draws" = some (.ref f__law_draws)
  f__law_shaped : Addr
  d__law_shaped : FuncData
  F__law_shaped : Fun K "_law_shaped" "_law_shaped" s__law_shaped f__law_shaped d__law_shaped
  b__law_shaped : Binds K d__law_shaped ["rows", "shape", "base", "gap"] []
  g__law_shaped : mg "_law_shaped" = some (.ref f__law_shaped)
  f__law_same_rows : Addr
  d__law_same_rows : FuncData
  F__law_same_rows : Fun K "_law_same_rows" "_law_same_rows" s__law_same_rows f__law_same_rows d__law_same_rows
  b__law_same_rows : Binds K d__law_same_rows ["told", "rows"] []
  g__law_same_rows : mg "_law_same_rows" = some (.ref f__law_same_rows)
  f_InvalidSheaf___init__ : Addr
  d_InvalidSheaf___init__ : FuncData
  F_InvalidSheaf___init__ : Fun K "__init__" "InvalidSheaf.__init__" s_InvalidSheaf___init__ f_InvalidSheaf___init__ d_InvalidSheaf___init__
  b_InvalidSheaf___init__ : Binds K d_InvalidSheaf___init__ ["self", "index"] []
  f_Sheaf___len__ : Addr
  d_Sheaf___len__ : FuncData
  F_Sheaf___len__ : Fun K "__len__" "Sheaf.__len__" s_Sheaf___len__ f_Sheaf___len__ d_Sheaf___len__
  b_Sheaf___len__ : Binds K d_Sheaf___len__ ["self"] []
  f_Sheaf___iter__ : Addr
  d_Sheaf___iter__ : FuncData
  F_Sheaf___iter__ : Fun K "__iter__" "Sheaf.__iter__" s_Sheaf___iter__ f_Sheaf___iter__ d_Sheaf___iter__
  b_Sheaf___iter__ : Binds K d_Sheaf___iter__ ["self"] []
  f_Sheaf___eq__ : Addr
  d_Sheaf___eq__ : FuncData
  F_Sheaf___eq__ : Fun K "__eq__" "Sheaf.__eq__" s_Sheaf___eq__ f_Sheaf___eq__ d_Sheaf___eq__
  b_Sheaf___eq__ : Binds K d_Sheaf___eq__ ["self", "other"] []
  f_Sheaf_rows : Addr
  d_Sheaf_rows : FuncData
  F_Sheaf_rows : Fun K "rows" "Sheaf.rows" s_Sheaf_rows f_Sheaf_rows d_Sheaf_rows
  b_Sheaf_rows : Binds K d_Sheaf_rows ["self"] []
  f__law_names : Addr
  d__law_names : FuncData
  F__law_names : Fun K "_law_names" "_law_names" s__law_names f__law_names d__law_names
  b__law_names : Binds K d__law_names ["cell", "count"] []
  g__law_names : mg "_law_names" = some (.ref f__law_names)
  f__law_rows : Addr
  d__law_rows : FuncData
  F__law_rows : Fun K "_law_rows" "_law_rows" s__law_rows f__law_rows d__law_rows
  b__law_rows : Binds K d__law_rows ["cell", "names", "count", "spread", "base"] []
  g__law_rows : mg "_law_rows" = some (.ref f__law_rows)
  f__law_unlike_rows : Addr
  d__law_unlike_rows : FuncData
  F__law_unlike_rows : Fun K "_law_unlike_rows" "_law_unlike_rows" s__law_unlike_rows f__law_unlike_rows d__law_unlike_rows
  b__law_unlike_rows : Binds K d__law_unlike_rows ["cell", "names", "count", "spread", "base"] []
  g__law_unlike_rows : mg "_law_unlike_rows" = some (.ref f__law_unlike_rows)
  f__law_variant : Addr
  d__law_variant : FuncData
  F__law_variant : Fun K "_law_variant" "_law_variant" s__law_variant f__law_variant d__law_variant
  b__law_variant : Binds K d__law_variant ["rows", "cell", "kind"] []
  g__law_variant : mg "_law_variant" = some (.ref f__law_variant)
  f__law_wide_rows : Addr
  d__law_wide_rows : FuncData
  F__law_wide_rows : Fun K "_law_wide_rows" "_law_wide_rows" s__law_wide_rows f__law_wide_rows d__law_wide_rows
  b__law_wide_rows : Binds K d__law_wide_rows ["script", "at"] []
  g__law_wide_rows : mg "_law_wide_rows" = some (.ref f__law_wide_rows)
  f_Sheaf___init__ : Addr
  d_Sheaf___init__ : FuncData
  F_Sheaf___init__ : Fun K "__init__" "Sheaf.__init__" s_Sheaf___init__ f_Sheaf___init__ d_Sheaf___init__
  b_Sheaf___init__ : Binds K d_Sheaf___init__ ["self", "rows"] []
  f__law_holds : Addr
  d__law_holds : FuncData
  F__law_holds : Fun K "_law_holds" "_law_holds" s__law_holds f__law_holds d__law_holds
  b__law_holds : Binds K d__law_holds ["sheaf", "rows"] []
  g__law_holds : mg "_law_holds" = some (.ref f__law_holds)
  f__law_equals : Addr
  d__law_equals : FuncData
  F__law_equals : Fun K "_law_equals" "_law_equals" s__law_equals f__law_equals d__law_equals
  b__law_equals : Binds K d__law_equals ["sheaf", "rows", "cell"] []
  g__law_equals : mg "_law_equals" = some (.ref f__law_equals)
  f_Sheaf___add__ : Addr
  d_Sheaf___add__ : FuncData
  F_Sheaf___add__ : Fun K "__add__" "Sheaf.__add__" s_Sheaf___add__ f_Sheaf___add__ d_Sheaf___add__
  b_Sheaf___add__ : Binds K d_Sheaf___add__ ["self", "other"] []
  f__law_sums : Addr
  d__law_sums : FuncData
  F__law_sums : Fun K "_law_sums" "_law_sums" s__law_sums f__law_sums d__law_sums
  b__law_sums : Binds K d__law_sums ["one", "two", "three"] []
  g__law_sums : mg "_law_sums" = some (.ref f__law_sums)
  f_law : Addr
  d_law : FuncData
  F_law : Fun K "law" "law" s_law f_law d_law
  b_law : Binds K d_law ["script"] []
  g_law : mg "law" = some (.ref f_law)
  t__RECORD_SIGNS : Tok
  g__RECORD_SIGNS : mg "_RECORD_SIGNS" = some (.str "abcdefghijklmnopqrstuvwxyz0123456789" t__RECORD_SIGNS)
  t__LONGEST_RECORD : Tok
  g__LONGEST_RECORD : mg "_LONGEST_RECORD" = some (.int 8 t__LONGEST_RECORD)
  n_len : mg "len" = none
  n_int : mg "int" = none
  n_range : mg "range" = none
  n_list : mg "list" = none
  n_isinstance : mg "isinstance" = none
  n_tuple : mg "tuple" = none
  n_str : mg "str" = none
  n_bool : mg "bool" = none
  n_iter : mg "iter" = none
  n_enumerate : mg "enumerate" = none
  n_max : mg "max" = none
  n_min : mg "min" = none
  ox_InvalidSheaf : OexC K C_InvalidSheaf
  xf_InvalidSheaf : XfC K C_InvalidSheaf
  ins_Sheaf : InsC K C_Sheaf
  g_Sheaf : mg "Sheaf" = some (.ref C_Sheaf)
  pg_Sheaf : PySem.W.plainGet K C_Sheaf Str.empty = true
  hd_Sheaf : PySem.W.hasDictIn K C_Sheaf = true
  po_Sheaf : PySem.W.plainOver K C_Sheaf = true
  sa_Sheaf : PySem.W.findIn K (.ref C_Sheaf) "__setattr__" = some (some (.builtin "object.__setattr__"))
  na_Sheaf__rows : NoAttr K C_Sheaf "_rows"
  na_Sheaf__top : NoAttr K C_Sheaf "_top"
  na_Sheaf__bottom : NoAttr K C_Sheaf "_bottom"
  g_InvalidSheaf : mg "InvalidSheaf" = some (.ref C_InvalidSheaf)
  na_InvalidSheaf_index : PySem.W.findIn K (.ref C_InvalidSheaf) "index" = some none
  iC_InvalidSheaf : PySem.W.findIn K (.ref C_InvalidSheaf) "__init__" = some (some (.ref f_InvalidSheaf___init__))
  tI_InvalidSheaf : PySem.W.typeIn K (.ref f_InvalidSheaf___init__) = some (.type "function")
  at_Sheaf___iter__ : PySem.W.findIn K (.ref C_Sheaf) "__iter__" = some (some (.ref f_Sheaf___iter__))
  fn_Sheaf___iter__ : PySem.W.isFn K (.ref f_Sheaf___iter__) = true
  at_Sheaf___len__ : PySem.W.findIn K (.ref C_Sheaf) "__len__" = some (some (.ref f_Sheaf___len__))
  fn_Sheaf___len__ : PySem.W.isFn K (.ref f_Sheaf___len__) = true
  me_Sheaf_rows : Meth K C_Sheaf "rows" f_Sheaf_rows
  mk_Sheaf : Mk K C_Sheaf f_Sheaf___init__
  at_Sheaf___eq__ : PySem.W.findIn K (.ref C_Sheaf) "__eq__" = some (some (.ref f_Sheaf___eq__))
  fn_Sheaf___eq__ : PySem.W.isFn K (.ref f_Sheaf___eq__) = true
  at_Sheaf___add__ : PySem.W.findIn K (.ref C_Sheaf) "__add__" = some (some (.ref f_Sheaf___add__))
  fn_Sheaf___add__ : PySem.W.isFn K (.ref f_Sheaf___add__) = true
  sf_Sheaf : PySem.W.selfFirst K C_Sheaf = true
  g_WornError : mg "WornError" = some (.ref C_WornError)
section
variable {P : Program} {w : World} {K : PySem.W.Frag} {mg : Str → Option Value} {base : Heap}
theorem Env.cl_Sheaf (T : Env K mg) : Cls K T.C_Sheaf := ⟨T.pg_Sheaf, T.hd_Sheaf, T.po_Sheaf, T.sa_Sheaf⟩
def Env.ca (T : Env K mg) : CA := ⟨(), T.C_InvalidSheaf, T.C_Sheaf⟩
--@@DEF valid_record
theorem ok_valid_record (T : Env K mg) : FnOk P w K mg base CX0 1 T.f_valid_record T.d_valid_record ["text"] (spOf K [.v] false (p_valid_record T.ca)) :=
  fn_sim (ms := [.v]) (ro := false) (b := w_valid_record T.ca) T.F_valid_record sc_valid_record rfl (fun cdv A outer s H E hr => ⟨_, (pss_one (ps_ret (pe_and (pe_chain op_le op_le pe_int (pe_callB call_len_str (by rfl) T.n_len (by decide +kernel) (pa_cons (pv 0) pa_nil)) (pe_glob (v := .int 8) (by rfl) T.g__LONGEST_RECORD ⟨_, rfl⟩)) (pe_one (pe_cmpR op_eq (pe_bm PySem.F.plainAttrs_str PySem.F.slot_str_strip PySem.F.type_str_strip mt_stripChars (pv 0) (pa_cons (pe_glob (v := .str "abcdefghijklmnopqrstuvwxyz0123456789") (by rfl) T.g__RECORD_SIGNS ⟨_, rfl⟩) pa_nil)) pe_str (nomark _)))))),
    (ss_rv (se_and (se_vc (se_chain os_b os_b (se_vc se_int) (se_vc (se_cb cs_lenS (sa_b (se_c 0) sa_nil))) (se_vc se_int))) (se_op os_eq (se_vc (se_bm ms_strip (se_c 0) (sa_b (se_vc (se_str (sok_by (by decide +kernel)))) sa_nil))) (se_vc (se_str (sok_by (by decide +kernel)))))))⟩) (fun _ _ _ h => h) (fun xs Q h => pure_valid_record T.ca xs Q noX h)
--@@DEF _law_cell
theorem ok__law_cell (T : Env K mg) : FnOk P w K mg base CX0 1 T.f__law_cell T.d__law_cell ["script", "k"] (spOf K [.v, .v] false (p__law_cell T.ca)) :=
  fn_sim (ms := [.v, .v]) (ro := false) (b := w__law_cell T.ca) T.F__law_cell sc__law_cell rfl (fun cdv A outer s H E hr => ⟨_, (pss_cons (ps_if (pt_cmpR op_lt (pv 1) (pe_callB call_len_seq (by rfl) T.n_len (by decide +kernel) (pa_cons (pv 0) pa_nil)) (nomark _))
   (pss_one (ps_ret (pe_callTy call_int1 (by rfl) T.n_int (by decide +kernel) (pa_cons (pe_ix ix_list (pv 0) (pv 1) (fun _ _ => rfl)) pa_nil))))
   pss_nil)
  (pss_one (ps_ret pe_int))),
    (ss_seq (ss_if (st_test (se_vc (se_op os_b (se_c 1) (se_vc (se_cb cs_len (sa_b (se_c 0) sa_nil))))))
   (ss_rv (se_cb cs_int1 (sa_b (se_vc (se_op os_ixScr (se_c 0) (se_c 1))) sa_nil)))
   ss_nx)
  (ss_rv se_int))⟩) (fun _ _ _ h => h) (fun xs Q h => pure__law_cell T.ca xs Q noX h)
--@@DEF _law_draws
theorem ok__law_draws (T : Env K mg) : FnOk P w K mg base CX0 1 T.f__law_draws T.d__law_draws ["cell", "sizes"] (spOf K [.v, .b] true (p__law_draws T.ca)) :=
  fn_sim (ms := [.v, .b]) (ro := true) (b := w__law_draws T.ca) T.F__law_draws sc__law_draws rfl (fun cdv A outer s H E hr => ⟨_, (pss_cons (ps_set (i := 2) sc__law_draws.nd rfl (Or.inl rfl) (pe_lst pa_nil))
  (pss_cons (ps_set (i := 3) sc__law_draws.nd rfl (Or.inl rfl) (pe_callTy call_int1 (by rfl) T.n_int (by decide +kernel) (pa_cons (pv 0) pa_nil)))
  (pss_cons (ps_set (i := 4) sc__law_draws.nd rfl (Or.inl rfl) (pe_cmpR op_ge (pv 3) (pe_op op_pow pe_int pe_int) (nomark _)))
  (pss_cons (ps_for PassesOwn.never rfl (pi_range1 (by rfl) T.n_range (pa_cons (pe_callB call_len_seq (by rfl) T.n_len (by decide +kernel) (pa_cons (pv 1) pa_nil)) pa_nil)) (pg_name (i := 5) sc__law_draws.nd rfl (Or.inl rfl))
   (pss_one (ps_if (PW.pt (pw_and (pt_val (pv 4)) (pw_and1 (pt_cmpR op_gt (pv 3) pe_int (nomark _)))))
    (pss_cons (ps_expr (pe_bm PySem.F.plainAttrs_list PySem.F.slot_list_append PySem.F.type_list_append mt_append (pv 2) (pa_cons (pe_op op_mod (pe_callTy call_int1 (by rfl) T.n_int (by decide +kernel) (pa_cons (pv 3) pa_nil)) (pe_ix ix_list (pv 1) (pv 5) (fun _ _ => rfl))) pa_nil)))
    (pss_one (ps_set (i := 3) sc__law_draws.nd rfl (Or.inl rfl) (pe_op op_fdivW (pe_callTy call_int1 (by rfl) T.n_int (by decide +kernel) (pa_cons (pv 3) pa_nil)) (pe_ix ix_list (pv 1) (pv 5) (fun _ _ => rfl))))))
    (pss_cons (ps_set (i := 6) sc__law_draws.nd rfl (Or.inl rfl) (pe_op op_mod (pe_callTy call_int1 (by rfl) T.n_int (by decide +kernel) (pa_cons (pe_op op_add (pe_op op_add (pv 0) (pe_op op_mulW pe_int (pv 5))) pe_int) pa_nil)) pe_int))
    (pss_cons (ps_set (i := 6) sc__law_draws.nd rfl (Or.inl rfl) (pe_op op_mod (pe_callTy call_int1 (by rfl) T.n_int (by decide +kernel) (pa_cons (pe_op op_mulW (pv 6) (pe_op op_add (pv 6) pe_int)) pa_nil)) pe_int))
    (pss_cons (ps_set (i := 6) sc__law_draws.nd rfl (Or.inl rfl) (pe_op op_mod (pe_callTy call_int1 (by rfl) T.n_int (by decide +kernel) (pa_cons (pe_op op_add (pe_op op_mulW (pv 6) (pe_op op_add (pv 6) pe_int)) (pe_op op_mulW pe_int (pv 5))) pa_nil)) pe_int))
    (pss_one (ps_expr (pe_bm PySem.F.plainAttrs_list PySem.F.slot_list_append PySem.F.type_list_append mt_append (pv 2) (pa_cons (pe_op op_mod (pe_callTy call_int1 (by rfl) T.n_int (by decide +kernel) (pa_cons (pe_op op_fdivW (pv 6) pe_int) pa_nil)) (pe_ix ix_list (pv 1) (pv 5) (fun _ _ => rfl))) pa_nil))))))))))
  (pss_one (ps_ret (pv 2))))))),
    (ss_seq (ss_ao (i := 2) (se_lst sa_nil))
  (ss_seq (ss_av (i := 3) (se_cb cs_int1 (sa_b (se_c 0) sa_nil)))
  (ss_seq (ss_av (i := 4) (se_op os_b (se_c 3) (se_vc (se_op os_ic (se_vc se_int) (se_vc se_int)))))
  (ss_seq (ss_for (si_r1 (sa_b (se_vc (se_cb cs_len (sa_b (se_c 1) sa_nil))) sa_nil)) (sg_n 5)
   (ss_if (st_and (st_val (se_c 4)) (st_test (se_vc (se_op os_b (se_c 3) (se_vc se_int)))))
    (ss_seq (ss_app (i := 2) (se_op os_ic (se_vc (se_cb cs_int1 (sa_b (se_c 3) sa_nil))) (se_vc (se_op os_ixL (se_c 1) (se_c 5)))))
    (ss_av (i := 3) (se_op os_ic (se_vc (se_cb cs_int1 (sa_b (se_c 3) sa_nil))) (se_vc (se_op os_ixL (se_c 1) (se_c 5))))))
    (ss_seq (ss_av (i := 6) (se_op os_ic (se_vc (se_cb cs_int1 (sa_b (se_vc (se_op os_i (se_vc (se_op os_i (se_c 0) (se_vc (se_op os_ic (se_vc se_int) (se_c 5))))) (se_vc se_int))) sa_nil))) (se_vc se_int)))
    (ss_seq (ss_av (i := 6) (se_op os_ic (se_vc (se_cb cs_int1 (sa_b (se_vc (se_op os_ic (se_c 6) (se_vc (se_op os_i (se_c 6) (se_vc se_int))))) sa_nil))) (se_vc se_int)))
    (ss_seq (ss_av (i := 6) (se_op os_ic (se_vc (se_cb cs_int1 (sa_b (se_vc (se_op os_i (se_vc (se_op os_ic (se_c 6) (se_vc (se_op os_i (se_c 6) (se_vc se_int))))) (se_vc (se_op os_ic (se_vc se_int) (se_c 5))))) sa_nil))) (se_vc se_int)))
    (ss_app (i := 2) (se_op os_ic (se_vc (se_cb cs_int1 (sa_b (se_vc (se_op os_ic (se_c 6) (se_vc se_int))) sa_nil))) (se_vc (se_op os_ixL (se_c 1) (se_c 5))))))))))
  (ss_roV 2)))))⟩) (fun _ _ _ h => h) (fun xs Q h => pure__law_draws T.ca xs Q noX h)
--@@DEF _law_shaped
theorem ok__law_shaped (T : Env K mg) : FnOk P w K mg base CX0 1 T.f__law_shaped T.d__law_shaped ["rows", "shape", "base", "gap"] (spOf K [.v, .v, .v, .v] false (p__law_shaped T.ca)) :=
  fn_sim (ms := [.v, .v, .v, .v]) (ro := false) (b := w__law_shaped T.ca) T.F__law_shaped sc__law_shaped rfl (fun cdv A outer s H E hr => ⟨_, (pss_cons (ps_if (pt_cmpR op_eq (pv 1) pe_int (nomark _))
   (pss_one (ps_ret (pe_lcX (own := [("row", 4)]) rfl sc__law_shaped.nd (pi_list (pv 0)) (blkOk_by (N := ["rows", "shape", "base", "gap", "row", "k"]) (sc := defScope s__law_shaped) (own := [("row", 4)]) (by decide +kernel)) (fun _ _ _ _ _ => (pg_name (i := 4) sc__law_shaped.nd rfl (Or.inl rfl))) (fun _ _ _ _ _ => pts_nil) (fun _ _ _ _ _ => (pe_tup (pa_cons (pv 2) (pa_cons (pe_ix ix_tup (pv 4) pe_int (fun _ _ => rfl)) pa_nil)))))))
   pss_nil)
  (pss_cons (ps_if (pt_cmpR op_eq (pv 1) pe_int (nomark _))
   (pss_one (ps_ret (pe_lcX (own := [("k", 5)]) rfl sc__law_shaped.nd (pi_range1 (by rfl) T.n_range (pa_cons (pe_callB call_len_seq (by rfl) T.n_len (by decide +kernel) (pa_cons (pv 0) pa_nil)) pa_nil)) (blkOk_by (N := ["rows", "shape", "base", "gap", "row", "k"]) (sc := defScope s__law_shaped) (own := [("k", 5)]) (by decide +kernel)) (fun _ _ _ _ _ => (pg_name (i := 5) sc__law_shaped.nd rfl (Or.inl rfl))) (fun _ _ _ _ _ => pts_nil) (fun _ _ _ _ _ => (pe_tup (pa_cons (pe_op op_add (pv 2) (pe_op op_mulW (pv 3) (pe_op op_mod (pe_callTy call_int1 (by rfl) T.n_int (by decide +kernel) (pa_cons (pe_op op_add (pe_op op_sub (pe_ix ix_tup (pe_ix ix_list (pv 0) (pv 5) (fun _ _ => rfl)) pe_int (fun _ _ => rfl)) (pv 2)) (pv 5)) pa_nil)) pe_int))) (pa_cons (pe_ix ix_tup (pe_ix ix_list (pv 0) (pv 5) (fun _ _ => rfl)) pe_int (fun _ _ => rfl)) pa_nil)))))))
   pss_nil)
  (pss_cons (ps_if (pt_cmpR op_eq (pv 1) pe_int (nomark _))
   (pss_one (ps_ret (pe_lcX (own := [("k", 5)]) rfl sc__law_shaped.nd (pi_range1 (by rfl) T.n_range (pa_cons (pe_callB call_len_seq (by rfl) T.n_len (by decide +kernel) (pa_cons (pv 0) pa_nil)) pa_nil)) (blkOk_by (N := ["rows", "shape", "base", "gap", "row", "k"]) (sc := defScope s__law_shaped) (own := [("k", 5)]) (by decide +kernel)) (fun _ _ _ _ _ => (pg_name (i := 5) sc__law_shaped.nd rfl (Or.inl rfl))) (fun _ _ _ _ _ => pts_nil) (fun _ _ _ _ _ => (pe_tup (pa_cons (pe_op op_add (pv 2) (pv 5)) (pa_cons (pe_ix ix_tup (pe_ix ix_list (pv 0) (pv 5) (fun _ _ => rfl)) pe_int (fun _ _ => rfl)) pa_nil)))))))
   pss_nil)
  (pss_one (ps_ret (pv 0)))))),
    (ss_seq (ss_if (st_test (se_vc (se_op os_eq (se_c 1) (se_vc se_int))))
   (ss_rv (se_ov (se_lc (si_listc (se_c 0)) (sg_all fun _ _ _ _ _ => (sg_n 4)) (st_all fun _ _ _ _ _ => st_yes) (se_all fun _ _ _ _ _ => (se_tup (sa_v (se_v 2) (sa_v (se_op os_ixT (se_c 4) (se_vc se_int)) sa_nil)))) (by decide))))
   ss_nx)
  (ss_seq (ss_if (st_test (se_vc (se_op os_eq (se_c 1) (se_vc se_int))))
   (ss_rv (se_ov (se_lc (SimI.c (si_r1 (sa_b (se_vc (se_cb cs_len (sa_b (se_c 0) sa_nil))) sa_nil))) (sg_all fun _ _ _ _ _ => (sg_n 5)) (st_all fun _ _ _ _ _ => st_yes) (se_all fun _ _ _ _ _ => (se_tup (sa_v (se_op os_i (se_c 2) (se_vc (se_op os_ic (se_c 3) (se_vc (se_op os_ic (se_vc (se_cb cs_int1 (sa_b (se_vc (se_op os_i (se_vc (se_op os_i (se_vc (se_op os_ixT (se_vc (se_op os_ixL (se_c 0) (se_c 5))) (se_vc se_int))) (se_c 2))) (se_c 5))) sa_nil))) (se_vc se_int)))))) (sa_v (se_op os_ixT (se_vc (se_op os_ixL (se_c 0) (se_c 5))) (se_vc se_int)) sa_nil)))) (by decide))))
   ss_nx)
  (ss_seq (ss_if (st_test (se_vc (se_op os_eq (se_c 1) (se_vc se_int))))
   (ss_rv (se_ov (se_lc (SimI.c (si_r1 (sa_b (se_vc (se_cb cs_len (sa_b (se_c 0) sa_nil))) sa_nil))) (sg_all fun _ _ _ _ _ => (sg_n 5)) (st_all fun _ _ _ _ _ => st_yes) (se_all fun _ _ _ _ _ => (se_tup (sa_v (se_op os_i (se_c 2) (se_c 5)) (sa_v (se_op os_ixT (se_vc (se_op os_ixL (se_c 0) (se_c 5))) (se_vc se_int)) sa_nil)))) (by decide))))
   ss_nx)
  (ss_rv (se_v 0)))))⟩) (fun _ _ _ h => h) (fun xs Q h => pure__law_shaped T.ca xs Q noX h)
--@@DEF _law_same_rows
theorem ok__law_same_rows (T : Env K mg) : FnOk P w K mg base CX0 1 T.f__law_same_rows T.d__law_same_rows ["told", "rows"] (spOf K [.b, .b] false (p__law_same_rows T.ca)) :=
  fn_sim (ms := [.b, .b]) (ro := false) (b := w__law_same_rows T.ca) T.F__law_same_rows sc__law_same_rows rfl (fun cdv A outer s H E hr => ⟨_, (pss_cons (ps_if (PW.pt (pw_or (pt_not (pt_val (pe_callB call_isi (by rfl) T.n_isinstance (by decide +kernel) (pa_cons (pv 0) (pa_cons (pe_bltn (v := .ty "list") (by rfl) T.n_list (by decide +kernel) rfl) pa_nil))))) (pw_or1 (pt_cmpR op_ne (pe_callB call_len_seq (by rfl) T.n_len (by decide +kernel) (pa_cons (pv 0) pa_nil)) (pe_callB call_len_seq (by rfl) T.n_len (by decide +kernel) (pa_cons (pv 1) pa_nil)) (nomark _)))))
   (pss_one (ps_ret pe_bl))
   pss_nil)
  (pss_cons (ps_for PassesOwn.never rfl (pi_range1 (by rfl) T.n_range (pa_cons (pe_callB call_len_seq (by rfl) T.n_len (by decide +kernel) (pa_cons (pv 1) pa_nil)) pa_nil)) (pg_name (i := 2) sc__law_same_rows.nd rfl (Or.inl rfl))
   (pss_cons (ps_set (i := 3) sc__law_same_rows.nd rfl (Or.inl rfl) (pe_ix ix_list (pv 0) (pv 2) (fun _ _ => rfl)))
   (pss_cons (ps_if (PW.pt (pw_or (pt_not (pt_val (pe_callB call_isi (by rfl) T.n_isinstance (by decide +kernel) (pa_cons (pv 3) (pa_cons (pe_bltn (v := .ty "tuple") (by rfl) T.n_tuple (by decide +kernel) rfl) pa_nil))))) (pw_or1 (pt_cmpR op_ne (pe_callB call_len_seq (by rfl) T.n_len (by decide +kernel) (pa_cons (pv 3) pa_nil)) pe_int (nomark _)))))
    (pss_one (ps_ret pe_bl))
    pss_nil)
   (pss_cons (ps_if (PW.pt (pw_or (pt_not (pt_val (pe_callB call_isi (by rfl) T.n_isinstance (by decide +kernel) (pa_cons (pe_ix ix_tup (pv 3) pe_int (fun _ _ => rfl)) (pa_cons (pe_bltn (v := .ty "int") (by rfl) T.n_int (by decide +kernel) rfl) pa_nil))))) (pw_or (pt_val (pe_callB call_isi (by rfl) T.n_isinstance (by decide +kernel) (pa_cons (pe_ix ix_tup (pv 3) pe_int (fun _ _ => rfl)) (pa_cons (pe_bltn (v := .ty "bool") (by rfl) T.n_bool (by decide +kernel) rfl) pa_nil)))) (pw_or1 (pt_not (pt_val (pe_callB call_isi (by rfl) T.n_isinstance (by decide +kernel) (pa_cons (pe_ix ix_tup (pv 3) pe_int (fun _ _ => rfl)) (pa_cons (pe_bltn (v := .ty "str") (by rfl) T.n_str (by decide +kernel) rfl) pa_nil)))))))))
    (pss_one (ps_ret pe_bl))
    pss_nil)
   (pss_one (ps_if (PW.pt (pw_or (pt_cmpR op_ne (pe_ix ix_tup (pv 3) pe_int (fun _ _ => rfl)) (pe_ix ix_tup (pe_ix ix_list (pv 1) (pv 2) (fun _ _ => rfl)) pe_int (fun _ _ => rfl)) (nomark _)) (pw_or1 (pt_cmpR op_ne (pe_ix ix_tup (pv 3) pe_int (fun _ _ => rfl)) (pe_ix ix_tup (pe_ix ix_list (pv 1) (pv 2) (fun _ _ => rfl)) pe_int (fun _ _ => rfl)) (nomark _)))))
    (pss_one (ps_ret pe_bl))
    pss_nil))))))
  (pss_one (ps_ret pe_bl)))),
    (ss_seq (ss_if (st_or (st_not (st_val (se_vc (se_cb cs_isi (sa_b (se_c 0) (sa_b (se_vc se_ty) sa_nil)))))) (st_test (se_vc (se_op os_ne (se_vc (se_cb cs_len (sa_b (se_c 0) sa_nil))) (se_vc (se_cb cs_len (sa_b (se_c 1) sa_nil)))))))
   (ss_rv se_bl)
   ss_nx)
  (ss_seq (ss_for (si_r1 (sa_b (se_vc (se_cb cs_len (sa_b (se_c 1) sa_nil))) sa_nil)) (sg_n 2)
   (ss_seq (ss_av (i := 3) (se_op os_ixL (se_c 0) (se_c 2)))
   (ss_seq (ss_if (st_or (st_not (st_val (se_vc (se_cb cs_isi (sa_b (se_c 3) (sa_b (se_vc se_ty) sa_nil)))))) (st_test (se_vc (se_op os_ne (se_vc (se_cb cs_len (sa_b (se_c 3) sa_nil))) (se_vc se_int)))))
    (ss_rv se_bl)
    ss_nx)
   (ss_seq (ss_if (st_or (st_not (st_val (se_vc (se_cb cs_isi (sa_b (se_vc (se_op os_ixT (se_c 3) (se_vc se_int))) (sa_b (se_vc se_ty) sa_nil)))))) (st_or (st_val (se_vc (se_cb cs_isi (sa_b (se_vc (se_op os_ixT (se_c 3) (se_vc se_int))) (sa_b (se_vc se_ty) sa_nil))))) (st_not (st_val (se_vc (se_cb cs_isi (sa_b (se_vc (se_op os_ixT (se_c 3) (se_vc se_int))) (sa_b (se_vc se_ty) sa_nil))))))))
    (ss_rv se_bl)
    ss_nx)
   (ss_if (st_or (st_test (se_vc (se_op os_ne (se_vc (se_op os_ixT (se_c 3) (se_vc se_int))) (se_vc (se_op os_ixT (se_vc (se_op os_ixL (se_c 1) (se_c 2))) (se_vc se_int)))))) (st_test (se_vc (se_op os_ne (se_vc (se_op os_ixT (se_c 3) (se_vc se_int))) (se_vc (se_op os_ixT (se_vc (se_op os_ixL (se_c 1) (se_c 2))) (se_vc se_int)))))))
    (ss_rv se_bl)
    ss_nx)))))
  (ss_rv se_bl)))⟩) (fun _ _ _ h => h) (fun xs Q h => pure__law_same_rows T.ca xs Q noX h)
--@@DEF InvalidSheaf___init__
theorem ok_InvalidSheaf___init__ (T : Env K mg) : FnOk P w K mg base CX0 1 T.f_InvalidSheaf___init__ T.d_InvalidSheaf___init__ ["self", "index"] (spExc T.C_InvalidSheaf "index") :=
  T.F_InvalidSheaf___init__.ok sc_InvalidSheaf___init__ (fun vs H Q E h => by obtain ⟨a, v, rfl, _⟩ := h; rfl) (fun cdv A outer s H vs Q E hr h => ⟨_, pss_one (ps_ost (pv 0) (pv 1)), exc_read T.ox_InvalidSheaf T.na_InvalidSheaf_index h⟩)
--@@DEF Sheaf___len__
theorem ok_Sheaf___len__ (T : Env K mg) : FnOk P w K mg base CX0 1 T.f_Sheaf___len__ T.d_Sheaf___len__ ["self"] (spOf K [.b] false (p_Sheaf___len__ T.ca)) :=
  fn_sim (ms := [.b]) (ro := false) (b := w_Sheaf___len__ T.ca) T.F_Sheaf___len__ sc_Sheaf___len__ rfl (fun cdv A outer s H E hr => ⟨_, (pss_one (ps_ret (pe_callB call_len_seq (by rfl) T.n_len (by decide +kernel) (pa_cons (pe_fld (pv 0) rfl) pa_nil)))),
    (ss_rv (se_cb cs_len (sa_b (se_vc (se_fld T.cl_Sheaf T.na_Sheaf__rows (se_c 0))) sa_nil)))⟩) (fun _ _ _ h => h) (fun xs Q h => pure_Sheaf___len__ T.ca xs Q noX h)
theorem okL_Sheaf___len__ (T : Env K mg) : FnN P w K mg base CX0 1 T.f_Sheaf___len__ T.d_Sheaf___len__ ["self"] (spLen K T.C_Sheaf "_rows") :=
  fnN_of T.F_Sheaf___len__ sc_Sheaf___len__ (fun n vs H Q E h => by obtain ⟨a, dx, fs, l, zs, rfl, _⟩ := h; rfl) (fun cdv A outer s H vs Q E hr h => ⟨_, pss_one (ps_ret (pe_callB call_len_seq (by rfl) T.n_len (by decide +kernel) (pa_cons (pe_fld (pv 0) rfl) pa_nil))), len_read T.cl_Sheaf T.na_Sheaf__rows h⟩)
--@@DEF Sheaf___iter__
theorem okN_Sheaf___iter__ (T : Env K mg) : FnN P w K mg base CX0 1 T.f_Sheaf___iter__ T.d_Sheaf___iter__ ["self"] (spIter K T.C_Sheaf "_rows") :=
  fnN_of T.F_Sheaf___iter__ sc_Sheaf___iter__ (fun n vs H Q E h => by obtain ⟨a, dx, fs, l, zs, rfl, _⟩ := h; rfl) (fun cdv A outer s H vs Q E hr h => ⟨_, pss_one (ps_ret (pe_callB ItX.call_iterN (by rfl) T.n_iter (by decide +kernel) (pa_cons (pe_fld (pv 0) rfl) pa_nil))), iter_read T.cl_Sheaf T.na_Sheaf__rows h⟩)
--@@DEF Sheaf___eq__
theorem ok_Sheaf___eq__ (T : Env K mg) : FnOk P w K mg base CX0 1 T.f_Sheaf___eq__ T.d_Sheaf___eq__ ["self", "other"] (spOf K [.b, .b] false (p_Sheaf___eq__ T.ca)) :=
  fn_sim (ms := [.b, .b]) (ro := false) (b := w_Sheaf___eq__ T.ca) T.F_Sheaf___eq__ sc_Sheaf___eq__ rfl (fun cdv A outer s H E hr => ⟨_, (pss_one (ps_ret (pe_and (pe_callB call_isi (by rfl) T.n_isinstance (by decide +kernel) (pa_cons (pv 1) (pa_cons (pe_glob (v := .ref T.C_Sheaf) (by rfl) T.g_Sheaf rfl) pa_nil))) (pe_one (pe_cmpR (op_eqD hr.units) (pe_fld (pv 0) rfl) (pe_fld (pv 1) rfl) (nomark _)))))),
    (ss_rv (se_and (se_vc (se_cb (cs_isO T.ins_Sheaf) (sa_b (se_c 1) (sa_b (se_vc se_adr) sa_nil)))) (se_op os_eqD (se_vc (se_fld T.cl_Sheaf T.na_Sheaf__rows (se_c 0))) (se_vc (se_fld T.cl_Sheaf T.na_Sheaf__rows (se_c 1))))))⟩) (fun _ _ _ h => h) (fun xs Q h => pure_Sheaf___eq__ T.ca xs Q noX h)
--@@DEF Sheaf_rows
theorem ok_Sheaf_rows (T : Env K mg) : FnOk P w K mg base CX0 1 T.f_Sheaf_rows T.d_Sheaf_rows ["self"] (spOf K [.b] true (p_Sheaf_rows T.ca)) :=
  fn_sim (ms := [.b]) (ro := true) (b := w_Sheaf_rows T.ca) T.F_Sheaf_rows sc_Sheaf_rows rfl (fun cdv A outer s H E hr => ⟨_, (pss_one (ps_ret (pe_callTy call_list_of (by rfl) T.n_list (by decide +kernel) (pa_cons (pe_fld (pv 0) rfl) pa_nil)))),
    (ss_ro (se_cb cs_list (sa_b (se_vc (se_fld T.cl_Sheaf T.na_Sheaf__rows (se_c 0))) sa_nil)))⟩) (fun _ _ _ h => h) (fun xs Q h => pure_Sheaf_rows T.ca xs Q noX h)
--@@DEF _law_names
theorem ok__law_names (T : Env K mg) : FnOk P w K mg base CX0 2 T.f__law_names T.d__law_names ["cell", "count"] (spOf K [.v, .v] true (p__law_names T.ca)) :=
  fn_sim (ms := [.v, .v]) (ro := true) (b := w__law_names T.ca) T.F__law_names sc__law_names rfl (fun cdv A outer s H E hr => ⟨_, (pss_cons (ps_set (i := 2) sc__law_names.nd rfl (Or.inl rfl) pe_str)
  (pss_cons (ps_set (i := 3) sc__law_names.nd rfl (Or.inl rfl) (pe_call (ok__law_draws T) hr (by rfl) T.g__law_draws T.F__law_draws.kp T.b__law_draws .nil pass0 (pa_cons (pv 0) (pa_cons (pe_op op_cat (pe_lst (pa_cons pe_int (pa_cons pe_int (pa_cons pe_int pa_nil)))) (pe_op op_rep (pe_lst (pa_cons pe_int (pa_cons pe_int (pa_cons pe_int (pa_cons pe_int pa_nil))))) (pv 1))) pa_nil))))
  (pss_cons (ps_set (i := 4) sc__law_names.nd rfl (Or.inl rfl) (pe_lst pa_nil))
  (pss_cons (ps_for PassesOwn.never rfl (pi_range1 (by rfl) T.n_range (pa_cons (pv 1) pa_nil)) (pg_name (i := 5) sc__law_names.nd rfl (Or.inl rfl))
   (pss_cons (ps_set (i := 6) sc__law_names.nd rfl (Or.inl rfl) (pe_op op_mod (pe_callTy call_int1 (by rfl) T.n_int (by decide +kernel) (pa_cons (pe_op op_add (pe_ix ix_list (pv 3) pe_int (fun _ _ => rfl)) (pe_op op_mulW (pv 5) (pe_op op_add pe_int (pe_op op_fdivW (pe_ix ix_list (pv 3) pe_int (fun _ _ => rfl)) pe_int)))) pa_nil)) pe_int))
   (pss_one (ps_if (PW.pt (pw_and (pt_cmpR op_eq (pe_ix ix_list (pv 3) pe_int (fun _ _ => rfl)) pe_int (nomark _)) (pw_and1 (pt_cmpR op_le (pe_op op_mulW (pv 1) (pe_op op_add pe_int (pe_op op_fdivW (pe_ix ix_list (pv 3) pe_int (fun _ _ => rfl)) pe_int))) pe_int (nomark _)))))
    (pss_one (ps_expr (pe_bm PySem.F.plainAttrs_list PySem.F.slot_list_append PySem.F.type_list_append mt_append (pv 4) (pa_cons (pe_ix ix_str (pv 2) (pv 6) (fun _ _ => rfl)) pa_nil))))
    (pss_cons (ps_set (i := 7) sc__law_names.nd rfl (Or.inl rfl) (pe_op op_mod (pe_callTy call_int1 (by rfl) T.n_int (by decide +kernel) (pa_cons (pe_op op_add (pe_op op_add (pe_op op_mulW pe_int (pe_ix ix_list (pv 3) pe_int (fun _ _ => rfl))) (pe_ix ix_list (pv 3) pe_int (fun _ _ => rfl))) (pe_op op_mulW pe_int (pv 5))) pa_nil)) pe_int))
    (pss_cons (ps_set (i := 8) sc__law_names.nd rfl (Or.inl rfl) (pe_op op_mulW (pe_op op_mulW pe_int (pv 5)) (pe_callTy call_int1 (by rfl) T.n_int (by decide +kernel) (pa_cons (pe_cmpR op_gt (pe_op op_mod (pe_callTy call_int1 (by rfl) T.n_int (by decide +kernel) (pa_cons (pe_ix ix_list (pv 3) pe_int (fun _ _ => rfl)) pa_nil)) pe_int) pe_int (nomark _)) pa_nil))))
    (pss_cons (ps_set (i := 9) sc__law_names.nd rfl (Or.inl rfl) (pe_op op_add_str (pe_op op_add_str (pe_ix ix_str (pv 2) (pe_ix ix_list (pv 3) (pe_op op_add pe_int (pv 8)) (fun _ _ => rfl)) (fun _ _ => rfl)) (pe_ix ix_str (pv 2) (pe_ix ix_list (pv 3) (pe_op op_add pe_int (pv 8)) (fun _ _ => rfl)) (fun _ _ => rfl))) (pe_ix ix_str (pv 2) (pe_ix ix_list (pv 3) (pe_op op_add pe_int (pv 8)) (fun _ _ => rfl)) (fun _ _ => rfl))))
    (pss_cons (ps_set (i := 9) sc__law_names.nd rfl (Or.inl rfl) (pe_slice sl_str (pe_op op_add_str (pv 9) (pv 9)) po_none (po_some (pe_ix ix_list (pv 3) (pe_op op_add pe_int (pv 8)) (fun _ _ => rfl)))))
    (pss_cons (ps_set (i := 10) sc__law_names.nd rfl (Or.inl rfl) (pe_op op_add_str (pe_ix ix_str (pv 2) (pe_op op_fdivW (pv 7) pe_int) (fun _ _ => rfl)) (pe_ix ix_str (pv 2) (pe_op op_mod (pe_callTy call_int1 (by rfl) T.n_int (by decide +kernel) (pa_cons (pv 7) pa_nil)) pe_int) (fun _ _ => rfl))))
    (pss_one (ps_expr (pe_bm PySem.F.plainAttrs_list PySem.F.slot_list_append PySem.F.type_list_append mt_append (pv 4) (pa_cons (pe_ix ix_list (pe_lst (pa_cons (pe_op op_add_str (pv 9) (pv 10)) (pa_cons (pe_op op_add_str (pv 10) (pv 9)) pa_nil))) (pe_op op_mod (pe_callTy call_int1 (by rfl) T.n_int (by decide +kernel) (pa_cons (pe_ix ix_list (pv 3) pe_int (fun _ _ => rfl)) pa_nil)) pe_int) (fun _ _ => rfl)) pa_nil)))))))))))))
  (pss_one (ps_ret (pv 4))))))),
    (ss_seq (ss_av (i := 2) (se_str (sok_by (by decide +kernel))))
  (ss_seq (ss_av (i := 3) (se_ov (se_call0 (ro := true) (sa_v (se_v 0) (sa_b (se_oc (se_op os_cat (se_oc (se_lst (sa_v se_int (sa_v se_int (sa_v se_int sa_nil))))) (se_oc (se_op os_rep (se_oc (se_lst (sa_v se_int (sa_v se_int (sa_v se_int (sa_v se_int sa_nil)))))) (se_c 1))))) sa_nil)))))
  (ss_seq (ss_ao (i := 4) (se_lst sa_nil))
  (ss_seq (ss_for (si_r1 (sa_b (se_c 1) sa_nil)) (sg_n 5)
   (ss_seq (ss_av (i := 6) (se_op os_ic (se_vc (se_cb cs_int1 (sa_b (se_vc (se_op os_i (se_vc (se_op os_ixL (se_c 3) (se_vc se_int))) (se_vc (se_op os_ic (se_c 5) (se_vc (se_op os_i (se_vc se_int) (se_vc (se_op os_ic (se_vc (se_op os_ixL (se_c 3) (se_vc se_int))) (se_vc se_int))))))))) sa_nil))) (se_vc se_int)))
   (ss_if (st_and (st_test (se_vc (se_op os_eq (se_vc (se_op os_ixL (se_c 3) (se_vc se_int))) (se_vc se_int)))) (st_test (se_vc (se_op os_b (se_vc (se_op os_ic (se_c 1) (se_vc (se_op os_i (se_vc se_int) (se_vc (se_op os_ic (se_vc (se_op os_ixL (se_c 3) (se_vc se_int))) (se_vc se_int))))))) (se_vc se_int)))))
    (ss_app (i := 4) (se_op os_ixS (se_c 2) (se_c 6)))
    (ss_seq (ss_av (i := 7) (se_op os_ic (se_vc (se_cb cs_int1 (sa_b (se_vc (se_op os_i (se_vc (se_op os_i (se_vc (se_op os_ic (se_vc se_int) (se_vc (se_op os_ixL (se_c 3) (se_vc se_int))))) (se_vc (se_op os_ixL (se_c 3) (se_vc se_int))))) (se_vc (se_op os_ic (se_vc se_int) (se_c 5))))) sa_nil))) (se_vc se_int)))
    (ss_seq (ss_av (i := 8) (se_op os_ic (se_vc (se_op os_ic (se_vc se_int) (se_c 5))) (se_vc (se_cb cs_int1 (sa_b (se_vc (se_op os_b (se_vc (se_op os_ic (se_vc (se_cb cs_int1 (sa_b (se_vc (se_op os_ixL (se_c 3) (se_vc se_int))) sa_nil))) (se_vc se_int))) (se_vc se_int))) sa_nil)))))
    (ss_seq (ss_av (i := 9) (se_op os_addS (se_vc (se_op os_addS (se_vc (se_op os_ixS (se_c 2) (se_vc (se_op os_ixL (se_c 3) (se_vc (se_op os_i (se_vc se_int) (se_c 8))))))) (se_vc (se_op os_ixS (se_c 2) (se_vc (se_op os_ixL (se_c 3) (se_vc (se_op os_i (se_vc se_int) (se_c 8))))))))) (se_vc (se_op os_ixS (se_c 2) (se_vc (se_op os_ixL (se_c 3) (se_vc (se_op os_i (se_vc se_int) (se_c 8)))))))))
    (ss_seq (ss_av (i := 9) (se_sl ls_str (se_vc (se_op os_addS (se_c 9) (se_c 9))) so_none (so_some (se_vc (se_op os_ixL (se_c 3) (se_vc (se_op os_i (se_vc se_int) (se_c 8))))))))
    (ss_seq (ss_av (i := 10) (se_op os_addS (se_vc (se_op os_ixS (se_c 2) (se_vc (se_op os_ic (se_c 7) (se_vc se_int))))) (se_vc (se_op os_ixS (se_c 2) (se_vc (se_op os_ic (se_vc (se_cb cs_int1 (sa_b (se_c 7) sa_nil))) (se_vc se_int)))))))
    (ss_app (i := 4) (se_op os_ixL (se_oc (se_lst (sa_v (se_op os_addS (se_c 9) (se_c 10)) (sa_v (se_op os_addS (se_c 10) (se_c 9)) sa_nil)))) (se_vc (se_op os_ic (se_vc (se_cb cs_int1 (sa_b (se_vc (se_op os_ixL (se_c 3) (se_vc se_int))) sa_nil))) (se_vc se_int)))))))))))))
  (ss_roV 4)))))⟩) (fun _ _ _ h => h) (fun xs Q h => pure__law_names T.ca xs Q noX h)
--@@DEF _law_rows
theorem ok__law_rows (T : Env K mg) : FnOk P w K mg base CX0 2 T.f__law_rows T.d__law_rows ["cell", "names", "count", "spread", "base"] (spOf K [.v, .b, .v, .v, .v] true (p__law_rows T.ca)) :=
  fn_sim (ms := [.v, .b, .v, .v, .v]) (ro := true) (b := w__law_rows T.ca) T.F__law_rows sc__law_rows rfl (fun cdv A outer s H E hr => ⟨_, (pss_cons (ps_set (i := 5) sc__law_rows.nd rfl (Or.inr rfl) (pe_call (ok__law_draws T) hr (by rfl) T.g__law_draws T.F__law_draws.kp T.b__law_draws .nil pass0 (pa_cons (pv 0) (pa_cons (pe_op op_rep (pe_lst (pa_cons (pv 3) (pa_cons (pe_callB call_len_seq (by rfl) T.n_len (by decide +kernel) (pa_cons (pv 1) pa_nil)) pa_nil))) (pv 2)) pa_nil))))
  (pss_one (ps_ret (pe_lcX (own := [("k", 6)]) rfl sc__law_rows.nd (pi_range1 (by rfl) T.n_range (pa_cons (pv 2) pa_nil)) (blkOk_by (N := ["cell", "names", "count", "spread", "base", "drawn", "k"]) (sc := defScope s__law_rows) (own := [("k", 6)]) (by decide +kernel)) (fun _ _ _ _ _ => (pg_name (i := 6) sc__law_rows.nd rfl (Or.inl rfl))) (fun _ _ _ _ _ => pts_nil) (fun _ _ _ _ _ => (pe_tup (pa_cons (pe_op op_add (pv 4) (pe_ix ix_list (pv 5) (pe_op op_mulW pe_int (pv 6)) (fun _ _ => rfl))) (pa_cons (pe_ix ix_list (pv 1) (pe_ix ix_list (pv 5) (pe_op op_add (pe_op op_mulW pe_int (pv 6)) pe_int) (fun _ _ => rfl)) (fun _ _ => rfl)) pa_nil)))))))),
    (ss_seq (ss_av (i := 5) (se_ov (se_call0 (ro := true) (sa_v (se_v 0) (sa_b (se_oc (se_op os_rep (se_oc (se_lst (sa_v (se_v 3) (sa_v (se_cb cs_len (sa_b (se_c 1) sa_nil)) sa_nil)))) (se_c 2))) sa_nil)))))
  (ss_ro (se_lc (SimI.c (si_r1 (sa_b (se_c 2) sa_nil))) (sg_all fun _ _ _ _ _ => (sg_n 6)) (st_all fun _ _ _ _ _ => st_yes) (se_all fun _ _ _ _ _ => (se_tup (sa_v (se_op os_i (se_c 4) (se_vc (se_op os_ixL (se_c 5) (se_vc (se_op os_ic (se_vc se_int) (se_c 6)))))) (sa_v (se_op os_ixL (se_c 1) (se_vc (se_op os_ixL (se_c 5) (se_vc (se_op os_i (se_vc (se_op os_ic (se_vc se_int) (se_c 6))) (se_vc se_int)))))) sa_nil)))) (by decide))))⟩) (fun _ _ _ h => h) (fun xs Q h => pure__law_rows T.ca xs Q noX h)
--@@DEF _law_unlike_rows
theorem ok__law_unlike_rows (T : Env K mg) : FnOk P w K mg base CX0 2 T.f__law_unlike_rows T.d__law_unlike_rows ["cell", "names", "count", "spread", "base"] (spOf K [.v, .b, .v, .v, .v] true (p__law_unlike_rows T.ca)) :=
  fn_sim (ms := [.v, .b, .v, .v, .v]) (ro := true) (b := w__law_unlike_rows T.ca) T.F__law_unlike_rows sc__law_unlike_rows rfl (fun cdv A outer s H E hr => ⟨_, (pss_cons (ps_set (i := 5) sc__law_unlike_rows.nd rfl (Or.inr rfl) (pe_call (ok__law_draws T) hr (by rfl) T.g__law_draws T.F__law_draws.kp T.b__law_draws .nil pass0 (pa_cons (pv 0) (pa_cons (pe_op op_rep (pe_lst (pa_cons (pv 3) pa_nil)) (pv 2)) pa_nil))))
  (pss_one (ps_ret (pe_lcX (own := [("k", 6)]) rfl sc__law_unlike_rows.nd (pi_range1 (by rfl) T.n_range (pa_cons (pv 2) pa_nil)) (blkOk_by (N := ["cell", "names", "count", "spread", "base", "drawn", "k"]) (sc := defScope s__law_unlike_rows) (own := [("k", 6)]) (by decide +kernel)) (fun _ _ _ _ _ => (pg_name (i := 6) sc__law_unlike_rows.nd rfl (Or.inl rfl))) (fun _ _ _ _ _ => pts_nil) (fun _ _ _ _ _ => (pe_tup (pa_cons (pe_op op_add (pv 4) (pe_ix ix_list (pv 5) (pv 6) (fun _ _ => rfl))) (pa_cons (pe_ix ix_list (pv 1) (pv 6) (fun _ _ => rfl)) pa_nil)))))))),
    (ss_seq (ss_av (i := 5) (se_ov (se_call0 (ro := true) (sa_v (se_v 0) (sa_b (se_oc (se_op os_rep (se_oc (se_lst (sa_v (se_v 3) sa_nil))) (se_c 2))) sa_nil)))))
  (ss_ro (se_lc (SimI.c (si_r1 (sa_b (se_c 2) sa_nil))) (sg_all fun _ _ _ _ _ => (sg_n 6)) (st_all fun _ _ _ _ _ => st_yes) (se_all fun _ _ _ _ _ => (se_tup (sa_v (se_op os_i (se_c 4) (se_vc (se_op os_ixL (se_c 5) (se_c 6)))) (sa_v (se_op os_ixL (se_c 1) (se_c 6)) sa_nil)))) (by decide))))⟩) (fun _ _ _ h => h) (fun xs Q h => pure__law_unlike_rows T.ca xs Q noX h)
--@@DEF _law_variant
theorem ok__law_variant (T : Env K mg) : FnOk P w K mg base CX0 2 T.f__law_variant T.d__law_variant ["rows", "cell", "kind"] (spOf K [.b, .v, .v] true (p__law_variant T.ca)) :=
  fn_sim (ms := [.b, .v, .v]) (ro := true) (b := w__law_variant T.ca) T.F__law_variant sc__law_variant rfl (fun cdv A outer s H E hr => ⟨_, (pss_cons (ps_set (i := 3) sc__law_variant.nd rfl (Or.inl rfl) pe_str)
  (pss_cons (ps_set (i := 4) sc__law_variant.nd rfl (Or.inl rfl) (pe_call (ok__law_draws T) hr (by rfl) T.g__law_draws T.F__law_draws.kp T.b__law_draws .nil pass0 (pa_cons (pv 1) (pa_cons (pe_lst (pa_cons pe_int (pa_cons pe_int (pa_cons pe_int (pa_cons pe_int (pa_cons pe_int pa_nil)))))) pa_nil))))
  (pss_cons (ps_set (i := 5) sc__law_variant.nd rfl (Or.inl rfl) (pe_op op_mod (pe_callTy call_int1 (by rfl) T.n_int (by decide +kernel) (pa_cons (pe_ix ix_list (pv 4) pe_int (fun _ _ => rfl)) pa_nil)) (pe_callB call_len_seq (by rfl) T.n_len (by decide +kernel) (pa_cons (pv 0) pa_nil))))
  (pss_cons (ps_set (i := 6) sc__law_variant.nd rfl (Or.inl rfl) (pe_op op_mod (pe_callTy call_int1 (by rfl) T.n_int (by decide +kernel) (pa_cons (pe_ix ix_list (pv 4) pe_int (fun _ _ => rfl)) pa_nil)) (pe_callB call_len_seq (by rfl) T.n_len (by decide +kernel) (pa_cons (pv 0) pa_nil))))
  (pss_cons (ps_set (i := 7) sc__law_variant.nd rfl (Or.inl rfl) (pe_ix ix_tup (pe_ix ix_list (pv 0) (pv 5) (fun _ _ => rfl)) pe_int (fun _ _ => rfl)))
  (pss_cons (ps_set (i := 8) sc__law_variant.nd rfl (Or.inl rfl) (pe_callTy call_list_of (by rfl) T.n_list (by decide +kernel) (pa_cons (pv 0) pa_nil)))
  (Evl.pss_cut (ps_if (pt_cmpR op_eq (pv 2) pe_int (nomark _))
   (pss_one (ps_asg (pe_tup (pa_cons (pe_op op_sub (pe_op op_add (pe_ix ix_tup (pe_ix ix_list (pv 0) (pv 5) (fun _ _ => rfl)) pe_int (fun _ _ => rfl)) pe_int) (pe_op op_mulW pe_int (pe_ix ix_list (pv 4) pe_int (fun _ _ => rfl)))) (pa_cons (pv 7) pa_nil))) (pg_sub (pv 8) (pv 5) set_list)))
   pss_nil)
  (Evl.pss_cut (ps_if (pt_cmpR op_eq (pv 2) pe_int (nomark _))
   (pss_cons (ps_set (i := 9) sc__law_variant.nd rfl (Or.inl rfl) (pe_op op_mod (pe_callTy call_int1 (by rfl) T.n_int (by decide +kernel) (pa_cons (pe_ix ix_list (pv 4) pe_int (fun _ _ => rfl)) pa_nil)) (pe_callB call_len_str (by rfl) T.n_len (by decide +kernel) (pa_cons (pv 7) pa_nil))))
   (pss_cons (ps_set (i := 10) sc__law_variant.nd rfl (Or.inl rfl) (pe_op op_mod (pe_callTy call_int1 (by rfl) T.n_int (by decide +kernel) (pa_cons (pe_op op_add (pe_op op_add (pe_bm PySem.F.plainAttrs_str PySem.F.slot_str_find PySem.F.type_str_find mt_find (pv 3) (pa_cons (pe_ix ix_str (pv 7) (pv 9) (fun _ _ => rfl)) pa_nil)) pe_int) (pe_ix ix_list (pv 4) pe_int (fun _ _ => rfl))) pa_nil)) pe_int))
   (pss_one (ps_asg (pe_tup (pa_cons (pe_ix ix_tup (pe_ix ix_list (pv 0) (pv 5) (fun _ _ => rfl)) pe_int (fun _ _ => rfl)) (pa_cons (pe_op op_add_str (pe_op op_add_str (pe_slice sl_str (pv 7) po_none (po_some (pv 9))) (pe_ix ix_str (pv 3) (pv 10) (fun _ _ => rfl))) (pe_slice sl_str (pv 7) (po_some (pe_op op_add (pv 9) pe_int)) po_none)) pa_nil))) (pg_sub (pv 8) (pv 5) set_list)))))
   pss_nil)
  (Evl.pss_cut (ps_if (pt_cmpR op_eq (pv 2) pe_int (nomark _))
   (pss_cons (ps_asg (pe_ix ix_list (pv 0) (pv 6) (fun _ _ => rfl)) (pg_sub (pv 8) (pv 5) set_list))
   (pss_one (ps_asg (pe_ix ix_list (pv 0) (pv 5) (fun _ _ => rfl)) (pg_sub (pv 8) (pv 6) set_list))))
   pss_nil)
  (Evl.pss_cut (ps_if (PW.pt (pw_and (pt_cmpR op_eq (pv 2) pe_int (nomark _)) (pw_and1 (pt_cmpR op_gt (pe_callB call_len_seq (by rfl) T.n_len (by decide +kernel) (pa_cons (pv 0) pa_nil)) pe_int (nomark _)))))
   (pss_one (ps_expr (pe_bm0 PySem.F.plainAttrs_list PySem.F.slot_list_pop PySem.F.type_list_pop mt_pop (pv 8))))
   pss_nil)
  (Evl.pss_cut (ps_if (PW.pt (pw_and (pt_cmpR op_eq (pv 2) pe_int (nomark _)) (pw_and1 (pt_cmpR op_lt (pe_callB call_len_seq (by rfl) T.n_len (by decide +kernel) (pa_cons (pv 0) pa_nil)) pe_int (nomark _)))))
   (pss_one (ps_expr (pe_bm PySem.F.plainAttrs_list PySem.F.slot_list_append PySem.F.type_list_append mt_append (pv 8) (pa_cons (pe_ix ix_list (pv 0) (pv 5) (fun _ _ => rfl)) pa_nil))))
   pss_nil)
  (pss_one (ps_ret (pv 8)))))))))))))),
    (ss_seq (ss_av (i := 3) (se_str (sok_by (by decide +kernel))))
  (ss_seq (ss_av (i := 4) (se_ov (se_call0 (ro := true) (sa_v (se_v 1) (sa_b (se_oc (se_lst (sa_v se_int (sa_v se_int (sa_v se_int (sa_v se_int (sa_v se_int sa_nil))))))) sa_nil)))))
  (ss_seq (ss_av (i := 5) (se_op os_ic (se_vc (se_cb cs_int1 (sa_b (se_vc (se_op os_ixL (se_c 4) (se_vc se_int))) sa_nil))) (se_vc (se_cb cs_len (sa_b (se_c 0) sa_nil)))))
  (ss_seq (ss_av (i := 6) (se_op os_ic (se_vc (se_cb cs_int1 (sa_b (se_vc (se_op os_ixL (se_c 4) (se_vc se_int))) sa_nil))) (se_vc (se_cb cs_len (sa_b (se_c 0) sa_nil)))))
  (ss_seq (ss_av (i := 7) (se_op os_ixT (se_vc (se_op os_ixL (se_c 0) (se_c 5))) (se_vc se_int)))
  (ss_seq (ss_ao (i := 8) (se_cb cs_list (sa_b (se_c 0) sa_nil)))
  (ss_cut (ss_if (st_test (se_vc (se_op os_eq (se_c 2) (se_vc se_int))))
   (ss_set (i := 8) (se_tup (sa_v (se_op os_i (se_vc (se_op os_i (se_vc (se_op os_ixT (se_vc (se_op os_ixL (se_c 0) (se_c 5))) (se_vc se_int))) (se_vc se_int))) (se_vc (se_op os_ic (se_vc se_int) (se_vc (se_op os_ixL (se_c 4) (se_vc se_int)))))) (sa_v (se_v 7) sa_nil))) (se_c 5))
   ss_nx)
  (ss_cut (ss_if (st_test (se_vc (se_op os_eq (se_c 2) (se_vc se_int))))
   (ss_seq (ss_av (i := 9) (se_op os_ic (se_vc (se_cb cs_int1 (sa_b (se_vc (se_op os_ixL (se_c 4) (se_vc se_int))) sa_nil))) (se_vc (se_cb cs_lenS (sa_b (se_c 7) sa_nil)))))
   (ss_seq (ss_av (i := 10) (se_op os_ic (se_vc (se_cb cs_int1 (sa_b (se_vc (se_op os_i (se_vc (se_op os_i (se_vc (se_bm ms_find (se_c 3) (sa_b (se_vc (se_op os_ixS (se_c 7) (se_c 9))) sa_nil))) (se_vc se_int))) (se_vc (se_op os_ixL (se_c 4) (se_vc se_int))))) sa_nil))) (se_vc se_int)))
   (ss_set (i := 8) (se_tup (sa_v (se_op os_ixT (se_vc (se_op os_ixL (se_c 0) (se_c 5))) (se_vc se_int)) (sa_v (se_op os_addS (se_vc (se_op os_addS (se_vc (se_sl ls_str (se_c 7) so_none (so_some (se_c 9)))) (se_vc (se_op os_ixS (se_c 3) (se_c 10))))) (se_vc (se_sl ls_str (se_c 7) (so_some (se_vc (se_op os_i (se_c 9) (se_vc se_int)))) so_none))) sa_nil))) (se_c 5))))
   ss_nx)
  (ss_cut (ss_if (st_test (se_vc (se_op os_eq (se_c 2) (se_vc se_int))))
   (ss_seq (ss_set (i := 8) (se_op os_ixL (se_c 0) (se_c 6)) (se_c 5))
   (ss_set (i := 8) (se_op os_ixL (se_c 0) (se_c 5)) (se_c 6)))
   ss_nx)
  (ss_cut (ss_if (st_and (st_test (se_vc (se_op os_eq (se_c 2) (se_vc se_int)))) (st_test (se_vc (se_op os_b (se_vc (se_cb cs_len (sa_b (se_c 0) sa_nil))) (se_vc se_int)))))
   (ss_pop (i := 8))
   ss_nx)
  (ss_cut (ss_if (st_and (st_test (se_vc (se_op os_eq (se_c 2) (se_vc se_int)))) (st_test (se_vc (se_op os_b (se_vc (se_cb cs_len (sa_b (se_c 0) sa_nil))) (se_vc se_int)))))
   (ss_app (i := 8) (se_op os_ixL (se_c 0) (se_c 5)))
   ss_nx)
  (ss_roV 8))))))))))))⟩) (fun _ _ _ h => h) (fun xs Q h => pure__law_variant T.ca xs Q noX h)
--@@DEF _law_wide_rows
theorem ok__law_wide_rows (T : Env K mg) : FnOk P w K mg base CX0 3 T.f__law_wide_rows T.d__law_wide_rows ["script", "at"] (spOf K [.v, .v] false (p__law_wide_rows T.ca)) :=
  fn_sim (ms := [.v, .v]) (ro := false) (b := w__law_wide_rows T.ca) T.F__law_wide_rows sc__law_wide_rows rfl (fun cdv A outer s H E hr => ⟨_, (pss_cons (ps_set (i := 2) sc__law_wide_rows.nd rfl (Or.inl rfl) (pe_call (ok__law_draws T) (hr.mono (show 1 ≤ 2 by decide)) (by rfl) T.g__law_draws T.F__law_draws.kp T.b__law_draws .nil pass0 (pa_cons (pe_call (ok__law_cell T) (hr.mono (show 1 ≤ 2 by decide)) (by rfl) T.g__law_cell T.F__law_cell.kp T.b__law_cell .nil pass0 (pa_cons (pv 0) (pa_cons (pv 1) pa_nil))) (pa_cons (pe_lst (pa_cons pe_int (pa_cons pe_int (pa_cons pe_int (pa_cons pe_int (pa_cons pe_int (pa_cons pe_int (pa_cons pe_int (pa_cons pe_int (pa_cons pe_int (pa_cons pe_int (pa_cons pe_int (pa_cons pe_int pa_nil))))))))))))) pa_nil))))
  (pss_cons (ps_set (i := 3) sc__law_wide_rows.nd rfl (Or.inl rfl) (pe_op op_add pe_int (pe_ix ix_list (pv 2) pe_int (fun _ _ => rfl))))
  (pss_cons (ps_set (i := 4) sc__law_wide_rows.nd rfl (Or.inl rfl) (pe_op op_add pe_int (pe_ix ix_list (pv 2) pe_int (fun _ _ => rfl))))
  (Evl.pss_cut (ps_if (pt_cmpR op_eq (pe_ix ix_list (pv 2) pe_int (fun _ _ => rfl)) pe_int (nomark _))
   (pss_cons (ps_set (i := 3) sc__law_wide_rows.nd rfl (Or.inl rfl) (pe_op op_add pe_int (pe_ix ix_list (pv 2) pe_int (fun _ _ => rfl))))
   (pss_one (ps_set (i := 4) sc__law_wide_rows.nd rfl (Or.inl rfl) (pe_op op_add pe_int (pe_ix ix_list (pv 2) pe_int (fun _ _ => rfl))))))
   pss_nil)
  (pss_cons (ps_set (i := 5) sc__law_wide_rows.nd rfl (Or.inl rfl) (pe_op op_sub (pe_ix ix_list (pv 2) pe_int (fun _ _ => rfl)) pe_int))
  (Evl.pss_cut (ps_if (pt_cmpR op_lt (pe_ix ix_list (pv 2) pe_int (fun _ _ => rfl)) pe_int (nomark _))
   (pss_one (ps_set (i := 5) sc__law_wide_rows.nd rfl (Or.inl rfl) (pe_op op_sub (pe_op op_mulW pe_int (pe_ix ix_list (pv 2) pe_int (fun _ _ => rfl))) pe_int)))
   pss_nil)
  (pss_cons (ps_set (i := 6) sc__law_wide_rows.nd rfl (Or.inl rfl) pe_int)
  (Evl.pss_cut (ps_if (pt_cmpR op_eq (pe_ix ix_list (pv 2) pe_int (fun _ _ => rfl)) pe_int (nomark _))
   (pss_one (ps_set (i := 6) sc__law_wide_rows.nd rfl (Or.inl rfl) (pe_ix ix_list (pv 2) pe_int (fun _ _ => rfl))))
   pss_nil)
  (Evl.pss_cut (ps_if (pt_cmpR op_eq (pv 6) pe_int (nomark _))
   (pss_one (ps_set (i := 3) sc__law_wide_rows.nd rfl (Or.inl rfl) pe_int))
   pss_nil)
  (Evl.pss_cut (ps_if (pt_cmpR op_eq (pv 6) pe_int (nomark _))
   (pss_one (ps_set (i := 3) sc__law_wide_rows.nd rfl (Or.inl rfl) (pe_op op_add pe_int (pe_op op_mod (pe_callTy call_int1 (by rfl) T.n_int (by decide +kernel) (pa_cons (pe_ix ix_list (pv 2) pe_int (fun _ _ => rfl)) pa_nil)) pe_int))))
   pss_nil)
  (pss_cons (ps_set (i := 7) sc__law_wide_rows.nd rfl (Or.inl rfl) (pe_call (ok__law_names T) hr (by rfl) T.g__law_names T.F__law_names.kp T.b__law_names .nil pass0 (pa_cons (pe_call (ok__law_cell T) (hr.mono (show 1 ≤ 2 by decide)) (by rfl) T.g__law_cell T.F__law_cell.kp T.b__law_cell .nil pass0 (pa_cons (pv 0) (pa_cons (pe_op op_add (pv 1) pe_int) pa_nil))) (pa_cons (pv 3) pa_nil))))
  (Evl.pss_cut (ps_if (pt_cmpR op_eq (pe_ix ix_list (pv 2) pe_int (fun _ _ => rfl)) pe_int (nomark _))
   (pss_one (ps_set (i := 8) sc__law_wide_rows.nd rfl (Or.inl rfl) (pe_call (ok__law_unlike_rows T) hr (by rfl) T.g__law_unlike_rows T.F__law_unlike_rows.kp T.b__law_unlike_rows .nil pass0 (pa_cons (pe_call (ok__law_cell T) (hr.mono (show 1 ≤ 2 by decide)) (by rfl) T.g__law_cell T.F__law_cell.kp T.b__law_cell .nil pass0 (pa_cons (pv 0) (pa_cons (pe_op op_add (pv 1) pe_int) pa_nil))) (pa_cons (pv 7) (pa_cons (pv 3) (pa_cons (pv 4) (pa_cons (pv 5) pa_nil))))))))
   (pss_cons (ps_set (i := 7) sc__law_wide_rows.nd rfl (Or.inl rfl) (pe_slice sl_list (pv 7) po_none (po_some (pe_op op_add pe_int (pe_op op_mod (pe_callTy call_int1 (by rfl) T.n_int (by decide +kernel) (pa_cons (pe_ix ix_list (pv 2) pe_int (fun _ _ => rfl)) pa_nil)) (pv 3))))))
   (pss_one (ps_set (i := 8) sc__law_wide_rows.nd rfl (Or.inl rfl) (pe_call (ok__law_rows T) hr (by rfl) T.g__law_rows T.F__law_rows.kp T.b__law_rows .nil pass0 (pa_cons (pe_call (ok__law_cell T) (hr.mono (show 1 ≤ 2 by decide)) (by rfl) T.g__law_cell T.F__law_cell.kp T.b__law_cell .nil pass0 (pa_cons (pv 0) (pa_cons (pe_op op_add (pv 1) pe_int) pa_nil))) (pa_cons (pv 7) (pa_cons (pv 3) (pa_cons (pv 4) (pa_cons (pv 5) pa_nil))))))))))
  (pss_one (ps_ret (pe_call (ok__law_shaped T) (hr.mono (show 1 ≤ 2 by decide)) (by rfl) T.g__law_shaped T.F__law_shaped.kp T.b__law_shaped .nil pass0 (pa_cons (pv 8) (pa_cons (pv 6) (pa_cons (pv 5) (pa_cons (pe_op op_add pe_int (pe_ix ix_list (pv 2) pe_int (fun _ _ => rfl))) pa_nil))))))))))))))))))),
    (ss_seq (ss_av (i := 2) (se_ov (se_call0 (ro := true) (sa_v (se_call0 (ro := false) (sa_v (se_v 0) (sa_v (se_v 1) sa_nil))) (sa_b (se_oc (se_lst (sa_v se_int (sa_v se_int (sa_v se_int (sa_v se_int (sa_v se_int (sa_v se_int (sa_v se_int (sa_v se_int (sa_v se_int (sa_v se_int (sa_v se_int (sa_v se_int sa_nil)))))))))))))) sa_nil)))))
  (ss_seq (ss_av (i := 3) (se_op os_i (se_vc se_int) (se_vc (se_op os_ixL (se_c 2) (se_vc se_int)))))
  (ss_seq (ss_av (i := 4) (se_op os_i (se_vc se_int) (se_vc (se_op os_ixL (se_c 2) (se_vc se_int)))))
  (ss_cut (ss_if (st_test (se_vc (se_op os_eq (se_vc (se_op os_ixL (se_c 2) (se_vc se_int))) (se_vc se_int))))
   (ss_seq (ss_av (i := 3) (se_op os_i (se_vc se_int) (se_vc (se_op os_ixL (se_c 2) (se_vc se_int)))))
   (ss_av (i := 4) (se_op os_i (se_vc se_int) (se_vc (se_op os_ixL (se_c 2) (se_vc se_int))))))
   ss_nx)
  (ss_seq (ss_av (i := 5) (se_op os_i (se_vc (se_op os_ixL (se_c 2) (se_vc se_int))) (se_vc se_int)))
  (ss_cut (ss_if (st_test (se_vc (se_op os_b (se_vc (se_op os_ixL (se_c 2) (se_vc se_int))) (se_vc se_int))))
   (ss_av (i := 5) (se_op os_i (se_vc (se_op os_ic (se_vc se_int) (se_vc (se_op os_ixL (se_c 2) (se_vc se_int))))) (se_vc se_int)))
   ss_nx)
  (ss_seq (ss_av (i := 6) se_int)
  (ss_cut (ss_if (st_test (se_vc (se_op os_eq (se_vc (se_op os_ixL (se_c 2) (se_vc se_int))) (se_vc se_int))))
   (ss_av (i := 6) (se_op os_ixL (se_c 2) (se_vc se_int)))
   ss_nx)
  (ss_cut (ss_if (st_test (se_vc (se_op os_eq (se_c 6) (se_vc se_int))))
   (ss_av (i := 3) se_int)
   ss_nx)
  (ss_cut (ss_if (st_test (se_vc (se_op os_eq (se_c 6) (se_vc se_int))))
   (ss_av (i := 3) (se_op os_i (se_vc se_int) (se_vc (se_op os_ic (se_vc (se_cb cs_int1 (sa_b (se_vc (se_op os_ixL (se_c 2) (se_vc se_int))) sa_nil))) (se_vc se_int)))))
   ss_nx)
  (ss_seq (ss_av (i := 7) (se_ov (se_call0 (ro := true) (sa_v (se_call0 (ro := false) (sa_v (se_v 0) (sa_v (se_op os_i (se_c 1) (se_vc se_int)) sa_nil))) (sa_v (se_v 3) sa_nil)))))
  (ss_cut (ss_if (st_test (se_vc (se_op os_eq (se_vc (se_op os_ixL (se_c 2) (se_vc se_int))) (se_vc se_int))))
   (ss_av (i := 8) (se_ov (se_call0 (ro := true) (sa_v (se_call0 (ro := false) (sa_v (se_v 0) (sa_v (se_op os_i (se_c 1) (se_vc se_int)) sa_nil))) (sa_b (se_c 7) (sa_v (se_v 3) (sa_v (se_v 4) (sa_v (se_v 5) sa_nil))))))))
   (ss_seq (ss_av (i := 7) (se_ov (se_sl ls_list (se_c 7) so_none (so_some (se_vc (se_op os_i (se_vc se_int) (se_vc (se_op os_ic (se_vc (se_cb cs_int1 (sa_b (se_vc (se_op os_ixL (se_c 2) (se_vc se_int))) sa_nil))) (se_c 3)))))))))
   (ss_av (i := 8) (se_ov (se_call0 (ro := true) (sa_v (se_call0 (ro := false) (sa_v (se_v 0) (sa_v (se_op os_i (se_c 1) (se_vc se_int)) sa_nil))) (sa_b (se_c 7) (sa_v (se_v 3) (sa_v (se_v 4) (sa_v (se_v 5) sa_nil))))))))))
  (ss_rv (se_call0 (ro := false) (sa_v (se_v 8) (sa_v (se_v 6) (sa_v (se_v 5) (sa_v (se_op os_i (se_vc se_int) (se_vc (se_op os_ixL (se_c 2) (se_vc se_int)))) sa_nil))))))))))))))))))⟩) (fun _ _ _ h => h) (fun xs Q h => pure__law_wide_rows T.ca xs Q noX h)
--@@DEF Sheaf___init__
theorem ok_Sheaf___init__ (T : Env K mg) : FnOk P w K mg base (L2.CX P w) 3 T.f_Sheaf___init__ T.d_Sheaf___init__ ["self", "rows"] (spMk K T.C_Sheaf [.b] (p_Sheaf___init__ T.ca)) :=
  fn_simI (ms := [.b]) (b := w_Sheaf___init__ T.ca) T.F_Sheaf___init__ sc_Sheaf___init__ rfl (fun cdv A outer s H E hr => ⟨_, (pss_cons (ps_fld (pv 0) (pe_callTy call_list_of (by rfl) T.n_list (by decide +kernel) (pa_cons (pv 1) pa_nil)) rfl)
  (pss_cons (ps_if (pt_not (pt_truth (pe_fld (pv 0) rfl) (by intro _; rfl)))
   (pss_one (ps_raise rfl (takes_of rfl rfl rfl rfl) (pmk_oex T.ox_InvalidSheaf T.iC_InvalidSheaf T.tI_InvalidSheaf (ok_InvalidSheaf___init__ T) hr T.b_InvalidSheaf___init__ .nil pass0 (by rfl) T.g_InvalidSheaf (pa_cons pe_int pa_nil))))
   pss_nil)
  (pss_cons (ps_for (passes_of rfl) rfl (pi_enum (by rfl) T.n_enumerate (pa_cons (pe_fld (pv 0) rfl) pa_nil)) (pg_tup (by rfl) (pgs_cons (pg_name (i := 2) sc_Sheaf___init__.nd rfl (Or.inl rfl)) (pgs_cons (pg_name (i := 3) sc_Sheaf___init__.nd rfl (Or.inl rfl)) pgs_nil)))
   (pss_one (ps_if (pt_not (pt_val (pe_call (ok_valid_record T) (hr.mono (show 1 ≤ 2 by decide)) (by rfl) T.g_valid_record T.F_valid_record.kp T.b_valid_record .nil pass0 (pa_cons (pe_ix ix_tup (pv 3) pe_int (fun _ _ => rfl)) pa_nil))))
    (pss_one (ps_raise rfl (takes_of rfl rfl rfl rfl) (pmk_oex T.ox_InvalidSheaf T.iC_InvalidSheaf T.tI_InvalidSheaf (ok_InvalidSheaf___init__ T) hr T.b_InvalidSheaf___init__ .nil pass0 (by rfl) T.g_InvalidSheaf (pa_cons (pv 2) pa_nil))))
    pss_nil)))
  (pss_cons (ps_fld (pv 0) (pe_callB (cr_max rfl) (by rfl) T.n_max (by decide +kernel) (pa_cons (pe_lcX (own := [("row", 3)]) rfl sc_Sheaf___init__.nd (pi_list (pe_fld (pv 0) rfl)) (blkOk_by (N := ["self", "rows", "index", "row"]) (sc := defScope s_Sheaf___init__) (own := [("row", 3)]) (by decide +kernel)) (fun _ _ _ _ _ => (pg_name (i := 3) sc_Sheaf___init__.nd rfl (Or.inl rfl))) (fun _ _ _ _ _ => pts_nil) (fun _ _ _ _ _ => (pe_ix ix_tup (pv 3) pe_int (fun _ _ => rfl)))) pa_nil)) rfl)
  (pss_one (ps_fld (pv 0) (pe_callB (cr_min rfl) (by rfl) T.n_min (by decide +kernel) (pa_cons (pe_lcX (own := [("row", 3)]) rfl sc_Sheaf___init__.nd (pi_list (pe_fld (pv 0) rfl)) (blkOk_by (N := ["self", "rows", "index", "row"]) (sc := defScope s_Sheaf___init__) (own := [("row", 3)]) (by decide +kernel)) (fun _ _ _ _ _ => (pg_name (i := 3) sc_Sheaf___init__.nd rfl (Or.inl rfl))) (fun _ _ _ _ _ => pts_nil) (fun _ _ _ _ _ => (pe_ix ix_tup (pv 3) pe_int (fun _ _ => rfl)))) pa_nil)) rfl)))))),
    (ss_seq (ss_fld T.cl_Sheaf T.na_Sheaf__rows (se_ov (se_cb cs_list (sa_b (se_c 1) sa_nil))))
  (ss_seq (ss_if (st_not (st_truth (se_vc (se_fld T.cl_Sheaf T.na_Sheaf__rows (se_c 0)))))
   (ss_raise1 (sa_v se_int sa_nil))
   ss_nx)
  (ss_seq (ss_for (si_enum (sa_v (se_fld T.cl_Sheaf T.na_Sheaf__rows (se_c 0)) sa_nil)) (sg_t (sg_cons (sg_n 2) (sg_cons (sg_n 3) sg_nil)))
   (ss_if (st_not (st_val (se_vc (se_call0 (ro := false) (sa_v (se_op os_ixT (se_c 3) (se_vc se_int)) sa_nil)))))
    (ss_raise1 (sa_v (se_v 2) sa_nil))
    ss_nx))
  (ss_seq (ss_fld T.cl_Sheaf T.na_Sheaf__top (se_cb cs_max (sa_b (se_oc (se_lc (si_listc (se_vc (se_fld T.cl_Sheaf T.na_Sheaf__rows (se_c 0)))) (sg_all fun _ _ _ _ _ => (sg_n 3)) (st_all fun _ _ _ _ _ => st_yes) (se_all fun _ _ _ _ _ => (se_op os_ixT (se_c 3) (se_vc se_int))) (by decide))) sa_nil)))
  (ss_fld T.cl_Sheaf T.na_Sheaf__bottom (se_cb cs_min (sa_b (se_oc (se_lc (si_listc (se_vc (se_fld T.cl_Sheaf T.na_Sheaf__rows (se_c 0)))) (sg_all fun _ _ _ _ _ => (sg_n 3)) (st_all fun _ _ _ _ _ => st_yes) (se_all fun _ _ _ _ _ => (se_op os_ixT (se_c 3) (se_vc se_int))) (by decide))) sa_nil)))))))⟩) (fun a xs Q X h => pure_Sheaf___init__ T.ca a xs Q X h)
--@@DEF _law_holds
theorem ok__law_holds (T : Env K mg) : FnOk P w K mg base CX0 5 T.f__law_holds T.d__law_holds ["sheaf", "rows"] (spOf K [.b, .b] false (p__law_holds T.ca)) :=
  fn_sim (ms := [.b, .b]) (ro := false) (b := w__law_holds T.ca) T.F__law_holds sc__law_holds rfl (fun cdv A outer s H E hr => ⟨_, (pss_one (ps_ret (pe_and (pe_cmpR op_eq (pe_callB (call_lenOwn (ok_Sheaf___len__ T) T.at_Sheaf___len__ T.fn_Sheaf___len__ T.b_Sheaf___len__ pass0 (hr.mono (show 2 ≤ 4 by decide))) (by rfl) T.n_len (by decide +kernel) (pa_cons (pv 0) pa_nil)) (pe_callB call_len_seq (by rfl) T.n_len (by decide +kernel) (pa_cons (pv 1) pa_nil)) (nomark _)) (pe_and (pe_call (ok__law_same_rows T) (hr.mono (show 1 ≤ 4 by decide)) (by rfl) T.g__law_same_rows T.F__law_same_rows.kp T.b__law_same_rows .nil pass0 (pa_cons (pe_meth0 (pv 0) T.cl_Sheaf T.me_Sheaf_rows (ok_Sheaf_rows T) (hr.mono (show 1 ≤ 4 by decide)) T.b_Sheaf_rows .nil pass0) (pa_cons (pv 1) pa_nil))) (pe_one (pe_call (ok__law_same_rows T) (hr.mono (show 1 ≤ 4 by decide)) (by rfl) T.g__law_same_rows T.F__law_same_rows.kp T.b__law_same_rows .nil pass0 (pa_cons (pe_callTy (call_listIt (EL := fun _ _ _ => False) (okN_Sheaf___iter__ T) T.at_Sheaf___iter__ T.fn_Sheaf___iter__ T.b_Sheaf___iter__ (okL_Sheaf___len__ T) T.at_Sheaf___len__ T.fn_Sheaf___len__ T.b_Sheaf___len__ rfl hr) (by rfl) T.n_list (by decide +kernel) (pa_cons (pv 0) pa_nil)) (pa_cons (pv 1) pa_nil)))))))),
    (ss_rv (se_and (se_vc (se_op os_eq (se_vc (se_cb cs_lenO (sa_b (se_c 0) sa_nil))) (se_vc (se_cb cs_len (sa_b (se_c 1) sa_nil))))) (se_and (se_vc (se_call0 (ro := false) (sa_b (se_oc (se_meth (ro := true) (se_c 0) sa_nil)) (sa_b (se_c 1) sa_nil)))) (se_call0 (ro := false) (sa_b (se_oc (se_cb cs_listO (sa_b (se_c 0) sa_nil))) (sa_b (se_c 1) sa_nil))))))⟩) (fun _ _ _ h => h) (fun xs Q h => pure__law_holds T.ca xs Q noX h)
--@@DEF _law_equals
theorem ok__law_equals (T : Env K mg) : FnOk P w K mg base CX0 5 T.f__law_equals T.d__law_equals ["sheaf", "rows", "cell"] (spOf K [.b, .b, .v] false (p__law_equals T.ca)) :=
  fn_sim (ms := [.b, .b, .v]) (ro := false) (b := w__law_equals T.ca) T.F__law_equals sc__law_equals rfl (fun cdv A outer s H E hr => ⟨_, (pss_cons (ps_for PassesOwn.never rfl (pi_range1 (by rfl) T.n_range (pa_cons pe_int pa_nil)) (pg_name (i := 3) sc__law_equals.nd rfl (Or.inl rfl))
   (pss_cons (ps_set (i := 4) sc__law_equals.nd rfl (Or.inl rfl) (pe_call (ok__law_variant T) (hr.mono (show 2 ≤ 4 by decide)) (by rfl) T.g__law_variant T.F__law_variant.kp T.b__law_variant .nil pass0 (pa_cons (pv 1) (pa_cons (pv 2) (pa_cons (pv 3) pa_nil)))))
   (pss_cons (ps_set (i := 5) sc__law_equals.nd rfl (Or.inl rfl) (pe_make T.mk_Sheaf (ok_Sheaf___init__ T) hr (by rfl) T.g_Sheaf T.b_Sheaf___init__ .nil passL (pa_cons (pe_callTy call_list_of (by rfl) T.n_list (by decide +kernel) (pa_cons (pv 4) pa_nil)) pa_nil)))
   (pss_one (ps_if (PW.pt (pw_or (pt_cmpR op_ne (pe_callTy call_bool1 (by rfl) T.n_bool (by decide +kernel) (pa_cons (pe_cmpR (op_eqOwn (ok_Sheaf___eq__ T) T.at_Sheaf___eq__ T.fn_Sheaf___eq__ T.b_Sheaf___eq__ pass0 (hr.mono (show 1 ≤ 4 by decide))) (pv 0) (pv 5) (nomark _)) pa_nil)) (pe_cmpR (op_eqD hr.units) (pv 4) (pv 1) (nomark _)) (nomark _)) (pw_or1 (pt_cmpR op_ne (pe_callTy call_bool1 (by rfl) T.n_bool (by decide +kernel) (pa_cons (pe_cmpR (op_eqOwn (ok_Sheaf___eq__ T) T.at_Sheaf___eq__ T.fn_Sheaf___eq__ T.b_Sheaf___eq__ pass0 (hr.mono (show 1 ≤ 4 by decide))) (pv 5) (pv 0) (nomark _)) pa_nil)) (pe_cmpR (op_eqD hr.units) (pv 4) (pv 1) (nomark _)) (nomark _)))))
    (pss_one (ps_ret pe_bl))
    pss_nil)))))
  (pss_one (ps_ret pe_bl))),
    (ss_seq (ss_for (si_r1 (sa_b (se_vc se_int) sa_nil)) (sg_n 3)
   (ss_seq (ss_av (i := 4) (se_ov (se_call0 (ro := true) (sa_b (se_c 1) (sa_v (se_v 2) (sa_v (se_v 3) sa_nil))))))
   (ss_seq (ss_av (i := 5) (se_make0 (sa_b (se_oc (se_cb cs_list (sa_b (se_c 4) sa_nil))) sa_nil)))
   (ss_if (st_or (st_test (se_vc (se_op os_ne (se_vc (se_cb cs_bool1 (sa_b (se_vc (se_op os_eqO (se_c 0) (se_c 5))) sa_nil))) (se_vc (se_op os_eqD (se_c 4) (se_c 1)))))) (st_test (se_vc (se_op os_ne (se_vc (se_cb cs_bool1 (sa_b (se_vc (se_op os_eqO (se_c 5) (se_c 0))) sa_nil))) (se_vc (se_op os_eqD (se_c 4) (se_c 1)))))))
    (ss_rv se_bl)
    ss_nx))))
  (ss_rv se_bl))⟩) (fun _ _ _ h => h) (fun xs Q h => pure__law_equals T.ca xs Q noX h)
--@@DEF Sheaf___add__
theorem ok_Sheaf___add__ (T : Env K mg) : FnOk P w K mg base CX0 5 T.f_Sheaf___add__ T.d_Sheaf___add__ ["self", "other"] (spOf K [.b, .b] false (p_Sheaf___add__ T.ca)) :=
  fn_sim (ms := [.b, .b]) (ro := false) (b := w_Sheaf___add__ T.ca) T.F_Sheaf___add__ sc_Sheaf___add__ rfl (fun cdv A outer s H E hr => ⟨_, (pss_cons (ps_if (pt_not (pt_val (pe_callB call_isi (by rfl) T.n_isinstance (by decide +kernel) (pa_cons (pv 1) (pa_cons (pe_glob (v := .ref T.C_Sheaf) (by rfl) T.g_Sheaf rfl) pa_nil)))))
   (pss_one ps_never)
   pss_nil)
  (pss_one (ps_ret (pe_make T.mk_Sheaf (ok_Sheaf___init__ T) hr (by rfl) T.g_Sheaf T.b_Sheaf___init__ .nil passL (pa_cons (pe_op op_cat (pe_fld (pv 0) rfl) (pe_fld (pv 1) rfl)) pa_nil))))),
    (ss_seq (ss_if (st_not (st_val (se_vc (se_cb (cs_isO T.ins_Sheaf) (sa_b (se_c 1) (sa_b (se_vc se_adr) sa_nil))))))
   ss_never
   ss_nx)
  (ss_rv (se_make0 (sa_b (se_oc (se_op os_cat (se_vc (se_fld T.cl_Sheaf T.na_Sheaf__rows (se_c 0))) (se_vc (se_fld T.cl_Sheaf T.na_Sheaf__rows (se_c 1))))) sa_nil))))⟩) (fun _ _ _ h => h) (fun xs Q h => pure_Sheaf___add__ T.ca xs Q noX h)
--@@DEF _law_sums
theorem ok__law_sums (T : Env K mg) : FnOk P w K mg base CX0 6 T.f__law_sums T.d__law_sums ["one", "two", "three"] (spOf K [.b, .b, .b] false (p__law_sums T.ca)) :=
  fn_sim (ms := [.b, .b, .b]) (ro := false) (b := w__law_sums T.ca) T.F__law_sums sc__law_sums rfl (fun cdv A outer s H E hr => ⟨_, (pss_cons (ps_set (i := 3) sc__law_sums.nd rfl (Or.inl rfl) (pe_make T.mk_Sheaf (ok_Sheaf___init__ T) (hr.mono (show 4 ≤ 5 by decide)) (by rfl) T.g_Sheaf T.b_Sheaf___init__ .nil passL (pa_cons (pe_callTy call_list_of (by rfl) T.n_list (by decide +kernel) (pa_cons (pv 0) pa_nil)) pa_nil)))
  (pss_cons (ps_set (i := 4) sc__law_sums.nd rfl (Or.inl rfl) (pe_make T.mk_Sheaf (ok_Sheaf___init__ T) (hr.mono (show 4 ≤ 5 by decide)) (by rfl) T.g_Sheaf T.b_Sheaf___init__ .nil passL (pa_cons (pe_callTy call_list_of (by rfl) T.n_list (by decide +kernel) (pa_cons (pv 1) pa_nil)) pa_nil)))
  (pss_cons (ps_set (i := 5) sc__law_sums.nd rfl (Or.inl rfl) (pe_make T.mk_Sheaf (ok_Sheaf___init__ T) (hr.mono (show 4 ≤ 5 by decide)) (by rfl) T.g_Sheaf T.b_Sheaf___init__ .nil passL (pa_cons (pe_callTy call_list_of (by rfl) T.n_list (by decide +kernel) (pa_cons (pv 2) pa_nil)) pa_nil)))
  (pss_cons (ps_set (i := 6) sc__law_sums.nd rfl (Or.inl rfl) (pe_op (op_addOwn (ok_Sheaf___add__ T) T.at_Sheaf___add__ T.sf_Sheaf T.fn_Sheaf___add__ T.b_Sheaf___add__ pass0 hr) (pv 3) (pv 4)))
  (pss_cons (ps_if (PW.pt (pw_or (pt_not (pt_val (pe_callB call_isi (by rfl) T.n_isinstance (by decide +kernel) (pa_cons (pv 6) (pa_cons (pe_glob (v := .ref T.C_Sheaf) (by rfl) T.g_Sheaf rfl) pa_nil))))) (pw_or1 (pt_not (pt_val (pe_call (ok__law_holds T) hr (by rfl) T.g__law_holds T.F__law_holds.kp T.b__law_holds .nil pass0 (pa_cons (pv 6) (pa_cons (pe_op op_cat (pv 0) (pv 1)) pa_nil))))))))
   (pss_one (ps_ret pe_bl))
   pss_nil)
  (pss_cons (ps_set (i := 7) sc__law_sums.nd rfl (Or.inl rfl) (pe_meth0 (pv 6) T.cl_Sheaf T.me_Sheaf_rows (ok_Sheaf_rows T) (hr.mono (show 1 ≤ 5 by decide)) T.b_Sheaf_rows .nil pass0))
  (pss_cons (ps_asg (pe_tup (pa_cons (pe_op op_add (pe_ix ix_tup (pe_ix ix_list (pv 0) pe_int (fun _ _ => rfl)) pe_int (fun _ _ => rfl)) pe_int) (pa_cons (pe_ix ix_tup (pe_ix ix_list (pv 0) pe_int (fun _ _ => rfl)) pe_int (fun _ _ => rfl)) pa_nil))) (pg_sub (pv 7) pe_int set_list))
  (pss_cons (ps_expr (pe_bm PySem.F.plainAttrs_list PySem.F.slot_list_append PySem.F.type_list_append mt_append (pv 7) (pa_cons (pe_tup (pa_cons (pe_ix ix_tup (pe_ix ix_list (pv 0) pe_int (fun _ _ => rfl)) pe_int (fun _ _ => rfl)) (pa_cons pe_str pa_nil))) pa_nil)))
  (pss_cons (ps_if (PW.pt (pw_or (pt_not (pt_val (pe_call (ok__law_holds T) hr (by rfl) T.g__law_holds T.F__law_holds.kp T.b__law_holds .nil pass0 (pa_cons (pe_op (op_addOwn (ok_Sheaf___add__ T) T.at_Sheaf___add__ T.sf_Sheaf T.fn_Sheaf___add__ T.b_Sheaf___add__ pass0 hr) (pv 4) (pv 3)) (pa_cons (pe_op op_cat (pv 1) (pv 0)) pa_nil))))) (pw_or1 (pt_not (pt_val (pe_call (ok__law_holds T) hr (by rfl) T.g__law_holds T.F__law_holds.kp T.b__law_holds .nil pass0 (pa_cons (pe_op (op_addOwn (ok_Sheaf___add__ T) T.at_Sheaf___add__ T.sf_Sheaf T.fn_Sheaf___add__ T.b_Sheaf___add__ pass0 hr) (pv 3) (pv 3)) (pa_cons (pe_op op_cat (pv 0) (pv 0)) pa_nil))))))))
   (pss_one (ps_ret pe_bl))
   pss_nil)
  (pss_cons (ps_set (i := 8) sc__law_sums.nd rfl (Or.inl rfl) (pe_op (op_addOwn (ok_Sheaf___add__ T) T.at_Sheaf___add__ T.sf_Sheaf T.fn_Sheaf___add__ T.b_Sheaf___add__ pass0 hr) (pv 6) (pv 5)))
  (pss_cons (ps_if (PW.pt (pw_or (pt_not (pt_val (pe_call (ok__law_holds T) hr (by rfl) T.g__law_holds T.F__law_holds.kp T.b__law_holds .nil pass0 (pa_cons (pv 8) (pa_cons (pe_op op_cat (pe_op op_cat (pv 0) (pv 1)) (pv 2)) pa_nil))))) (pw_or1 (pt_not (pt_val (pe_call (ok__law_holds T) hr (by rfl) T.g__law_holds T.F__law_holds.kp T.b__law_holds .nil pass0 (pa_cons (pe_op (op_addOwn (ok_Sheaf___add__ T) T.at_Sheaf___add__ T.sf_Sheaf T.fn_Sheaf___add__ T.b_Sheaf___add__ pass0 hr) (pv 3) (pe_op (op_addOwn (ok_Sheaf___add__ T) T.at_Sheaf___add__ T.sf_Sheaf T.fn_Sheaf___add__ T.b_Sheaf___add__ pass0 hr) (pv 4) (pv 5))) (pa_cons (pe_op op_cat (pe_op op_cat (pv 0) (pv 1)) (pv 2)) pa_nil))))))))
   (pss_one (ps_ret pe_bl))
   pss_nil)
  (pss_cons (ps_if (pt_not (pt_cmpR (op_eqOwn (ok_Sheaf___eq__ T) T.at_Sheaf___eq__ T.fn_Sheaf___eq__ T.b_Sheaf___eq__ pass0 (hr.mono (show 1 ≤ 5 by decide))) (pv 8) (pe_op (op_addOwn (ok_Sheaf___add__ T) T.at_Sheaf___add__ T.sf_Sheaf T.fn_Sheaf___add__ T.b_Sheaf___add__ pass0 hr) (pv 3) (pe_op (op_addOwn (ok_Sheaf___add__ T) T.at_Sheaf___add__ T.sf_Sheaf T.fn_Sheaf___add__ T.b_Sheaf___add__ pass0 hr) (pv 4) (pv 5))) (nomark _)))
   (pss_one (ps_ret pe_bl))
   pss_nil)
  (pss_cons (ps_if (PW.pt (pw_or (pt_not (pt_val (pe_call (ok__law_holds T) hr (by rfl) T.g__law_holds T.F__law_holds.kp T.b__law_holds .nil pass0 (pa_cons (pv 3) (pa_cons (pv 0) pa_nil))))) (pw_or (pt_not (pt_val (pe_call (ok__law_holds T) hr (by rfl) T.g__law_holds T.F__law_holds.kp T.b__law_holds .nil pass0 (pa_cons (pv 4) (pa_cons (pv 1) pa_nil))))) (pw_or1 (pt_not (pt_val (pe_call (ok__law_holds T) hr (by rfl) T.g__law_holds T.F__law_holds.kp T.b__law_holds .nil pass0 (pa_cons (pv 5) (pa_cons (pv 2) pa_nil)))))))))
   (pss_one (ps_ret pe_bl))
   pss_nil)
  (pss_one (ps_ret (pe_call (ok__law_holds T) hr (by rfl) T.g__law_holds T.F__law_holds.kp T.b__law_holds .nil pass0 (pa_cons (pv 6) (pa_cons (pe_op op_cat (pv 0) (pv 1)) pa_nil)))))))))))))))))),
    (ss_seq (ss_av (i := 3) (se_make0 (sa_b (se_oc (se_cb cs_list (sa_b (se_c 0) sa_nil))) sa_nil)))
  (ss_seq (ss_av (i := 4) (se_make0 (sa_b (se_oc (se_cb cs_list (sa_b (se_c 1) sa_nil))) sa_nil)))
  (ss_seq (ss_av (i := 5) (se_make0 (sa_b (se_oc (se_cb cs_list (sa_b (se_c 2) sa_nil))) sa_nil)))
  (ss_seq (ss_av (i := 6) (se_op os_addO (se_c 3) (se_c 4)))
  (ss_seq (ss_if (st_or (st_not (st_val (se_vc (se_cb (cs_isO T.ins_Sheaf) (sa_b (se_c 6) (sa_b (se_vc se_adr) sa_nil)))))) (st_not (st_val (se_vc (se_call0 (ro := false) (sa_b (se_c 6) (sa_b (se_oc (se_op os_cat (se_c 0) (se_c 1))) sa_nil)))))))
   (ss_rv se_bl)
   ss_nx)
  (ss_seq (ss_ao (i := 7) (se_meth (ro := true) (se_c 6) sa_nil))
  (ss_seq (ss_set (i := 7) (se_tup (sa_v (se_op os_i (se_vc (se_op os_ixT (se_vc (se_op os_ixL (se_c 0) (se_vc se_int))) (se_vc se_int))) (se_vc se_int)) (sa_v (se_op os_ixT (se_vc (se_op os_ixL (se_c 0) (se_vc se_int))) (se_vc se_int)) sa_nil))) (se_vc se_int))
  (ss_seq (ss_app (i := 7) (se_tup (sa_v (se_op os_ixT (se_vc (se_op os_ixL (se_c 0) (se_vc se_int))) (se_vc se_int)) (sa_v (se_str (sok_by (by decide +kernel))) sa_nil))))
  (ss_seq (ss_if (st_or (st_not (st_val (se_vc (se_call0 (ro := false) (sa_b (se_vc (se_op os_addO (se_c 4) (se_c 3))) (sa_b (se_oc (se_op os_cat (se_c 1) (se_c 0))) sa_nil)))))) (st_not (st_val (se_vc (se_call0 (ro := false) (sa_b (se_vc (se_op os_addO (se_c 3) (se_c 3))) (sa_b (se_oc (se_op os_cat (se_c 0) (se_c 0))) sa_nil)))))))
   (ss_rv se_bl)
   ss_nx)
  (ss_seq (ss_av (i := 8) (se_op os_addO (se_c 6) (se_c 5)))
  (ss_seq (ss_if (st_or (st_not (st_val (se_vc (se_call0 (ro := false) (sa_b (se_c 8) (sa_b (se_oc (se_op os_cat (se_oc (se_op os_cat (se_c 0) (se_c 1))) (se_c 2))) sa_nil)))))) (st_not (st_val (se_vc (se_call0 (ro := false) (sa_b (se_vc (se_op os_addO (se_c 3) (se_vc (se_op os_addO (se_c 4) (se_c 5))))) (sa_b (se_oc (se_op os_cat (se_oc (se_op os_cat (se_c 0) (se_c 1))) (se_c 2))) sa_nil)))))))
   (ss_rv se_bl)
   ss_nx)
  (ss_seq (ss_if (st_not (st_test (se_vc (se_op os_eqO (se_c 8) (se_vc (se_op os_addO (se_c 3) (se_vc (se_op os_addO (se_c 4) (se_c 5)))))))))
   (ss_rv se_bl)
   ss_nx)
  (ss_seq (ss_if (st_or (st_not (st_val (se_vc (se_call0 (ro := false) (sa_b (se_c 3) (sa_b (se_c 0) sa_nil)))))) (st_or (st_not (st_val (se_vc (se_call0 (ro := false) (sa_b (se_c 4) (sa_b (se_c 1) sa_nil)))))) (st_not (st_val (se_vc (se_call0 (ro := false) (sa_b (se_c 5) (sa_b (se_c 2) sa_nil))))))))
   (ss_rv se_bl)
   ss_nx)
  (ss_rv (se_call0 (ro := false) (sa_b (se_c 6) (sa_b (se_oc (se_op os_cat (se_c 0) (se_c 1))) sa_nil)))))))))))))))))⟩) (fun _ _ _ h => h) (fun xs Q h => pure__law_sums T.ca xs Q noX h)
--@@DEF law
theorem ok_law (T : Env K mg) : FnOk P w K mg base CX0 7 T.f_law T.d_law ["script"] (spOf K [.v] false (p_law T.ca)) :=
  fn_sim (ms := [.v]) (ro := false) (b := w_law T.ca) T.F_law sc_law rfl (fun cdv A outer s H E hr => ⟨_, (pss_cons (ps_set (i := 1) sc_law.nd rfl (Or.inl rfl) (pe_call (ok__law_wide_rows T) (hr.mono (show 3 ≤ 6 by decide)) (by rfl) T.g__law_wide_rows T.F__law_wide_rows.kp T.b__law_wide_rows .nil pass0 (pa_cons (pv 0) (pa_cons pe_int pa_nil))))
  (pss_cons (ps_set (i := 2) sc_law.nd rfl (Or.inl rfl) (pe_callTy call_list_of (by rfl) T.n_list (by decide +kernel) (pa_cons (pv 1) pa_nil)))
  (pss_cons (ps_set (i := 3) sc_law.nd rfl (Or.inl rfl) (pe_make T.mk_Sheaf (ok_Sheaf___init__ T) (hr.mono (show 4 ≤ 6 by decide)) (by rfl) T.g_Sheaf T.b_Sheaf___init__ .nil passL (pa_cons (pv 2) pa_nil)))
  (pss_cons (ps_if (pt_cmpR (op_neD hr.units) (pv 2) (pv 1) (nomark _))
   (pss_one (ps_ret pe_bl))
   pss_nil)
  (pss_cons (ps_asg (pe_tup (pa_cons (pe_op op_add (pe_ix ix_tup (pe_ix ix_list (pv 1) pe_int (fun _ _ => rfl)) pe_int (fun _ _ => rfl)) pe_int) (pa_cons (pe_ix ix_tup (pe_ix ix_list (pv 1) pe_int (fun _ _ => rfl)) pe_int (fun _ _ => rfl)) pa_nil))) (pg_sub (pv 2) pe_int set_list))
  (pss_cons (ps_expr (pe_bm PySem.F.plainAttrs_list PySem.F.slot_list_append PySem.F.type_list_append mt_append (pv 2) (pa_cons (pe_tup (pa_cons (pe_ix ix_tup (pe_ix ix_list (pv 1) pe_int (fun _ _ => rfl)) pe_int (fun _ _ => rfl)) (pa_cons pe_str pa_nil))) pa_nil)))
  (pss_cons (ps_if (pt_not (pt_val (pe_call (ok__law_holds T) (hr.mono (show 5 ≤ 6 by decide)) (by rfl) T.g__law_holds T.F__law_holds.kp T.b__law_holds .nil pass0 (pa_cons (pv 3) (pa_cons (pv 1) pa_nil)))))
   (pss_one (ps_ret pe_bl))
   pss_nil)
  (pss_cons (ps_set (i := 4) sc_law.nd rfl (Or.inl rfl) (pe_meth0 (pv 3) T.cl_Sheaf T.me_Sheaf_rows (ok_Sheaf_rows T) (hr.mono (show 1 ≤ 6 by decide)) T.b_Sheaf_rows .nil pass0))
  (pss_cons (ps_asg (pe_tup (pa_cons (pe_op op_add (pe_ix ix_tup (pe_ix ix_list (pv 1) pe_int (fun _ _ => rfl)) pe_int (fun _ _ => rfl)) pe_int) (pa_cons (pe_ix ix_tup (pe_ix ix_list (pv 1) pe_int (fun _ _ => rfl)) pe_int (fun _ _ => rfl)) pa_nil))) (pg_sub (pv 4) pe_int set_list))
  (pss_cons (ps_expr (pe_bm PySem.F.plainAttrs_list PySem.F.slot_list_append PySem.F.type_list_append mt_append (pv 4) (pa_cons (pe_tup (pa_cons (pe_ix ix_tup (pe_ix ix_list (pv 1) pe_int (fun _ _ => rfl)) pe_int (fun _ _ => rfl)) (pa_cons pe_str pa_nil))) pa_nil)))
  (pss_cons (ps_if (PW.pt (pw_or (pt_not (pt_val (pe_call (ok__law_holds T) (hr.mono (show 5 ≤ 6 by decide)) (by rfl) T.g__law_holds T.F__law_holds.kp T.b__law_holds .nil pass0 (pa_cons (pv 3) (pa_cons (pv 1) pa_nil))))) (pw_or1 (pt_not (pt_val (pe_call (ok__law_equals T) (hr.mono (show 5 ≤ 6 by decide)) (by rfl) T.g__law_equals T.F__law_equals.kp T.b__law_equals .nil pass0 (pa_cons (pv 3) (pa_cons (pv 1) (pa_cons (pe_call (ok__law_cell T) (hr.mono (show 1 ≤ 6 by decide)) (by rfl) T.g__law_cell T.F__law_cell.kp T.b__law_cell .nil pass0 (pa_cons (pv 0) (pa_cons pe_int pa_nil))) pa_nil)))))))))
   (pss_one (ps_ret pe_bl))
   pss_nil)
  (pss_one (ps_ret (pe_call (ok__law_sums T) hr (by rfl) T.g__law_sums T.F__law_sums.kp T.b__law_sums .nil pass0 (pa_cons (pe_slice sl_list (pv 1) po_none (po_some pe_int)) (pa_cons (pe_slice sl_list (pe_call (ok__law_wide_rows T) (hr.mono (show 3 ≤ 6 by decide)) (by rfl) T.g__law_wide_rows T.F__law_wide_rows.kp T.b__law_wide_rows .nil pass0 (pa_cons (pv 0) (pa_cons pe_int pa_nil))) po_none (po_some pe_int)) (pa_cons (pe_slice sl_list (pe_call (ok__law_wide_rows T) (hr.mono (show 3 ≤ 6 by decide)) (by rfl) T.g__law_wide_rows T.F__law_wide_rows.kp T.b__law_wide_rows .nil pass0 (pa_cons (pv 0) (pa_cons pe_int pa_nil))) po_none (po_some pe_int)) pa_nil))))))))))))))))),
    (ss_seq (ss_av (i := 1) (se_call0 (ro := false) (sa_v (se_v 0) (sa_v se_int sa_nil))))
  (ss_seq (ss_ao (i := 2) (se_cb cs_list (sa_b (se_c 1) sa_nil)))
  (ss_seq (ss_av (i := 3) (se_make0 (sa_b (se_c 2) sa_nil)))
  (ss_seq (ss_if (st_test (se_vc (se_op os_neD (se_c 2) (se_c 1))))
   (ss_rv se_bl)
   ss_nx)
  (ss_seq (ss_set (i := 2) (se_tup (sa_v (se_op os_i (se_vc (se_op os_ixT (se_vc (se_op os_ixL (se_c 1) (se_vc se_int))) (se_vc se_int))) (se_vc se_int)) (sa_v (se_op os_ixT (se_vc (se_op os_ixL (se_c 1) (se_vc se_int))) (se_vc se_int)) sa_nil))) (se_vc se_int))
  (ss_seq (ss_app (i := 2) (se_tup (sa_v (se_op os_ixT (se_vc (se_op os_ixL (se_c 1) (se_vc se_int))) (se_vc se_int)) (sa_v (se_str (sok_by (by decide +kernel))) sa_nil))))
  (ss_seq (ss_if (st_not (st_val (se_vc (se_call0 (ro := false) (sa_b (se_c 3) (sa_b (se_c 1) sa_nil))))))
   (ss_rv se_bl)
   ss_nx)
  (ss_seq (ss_ao (i := 4) (se_meth (ro := true) (se_c 3) sa_nil))
  (ss_seq (ss_set (i := 4) (se_tup (sa_v (se_op os_i (se_vc (se_op os_ixT (se_vc (se_op os_ixL (se_c 1) (se_vc se_int))) (se_vc se_int))) (se_vc se_int)) (sa_v (se_op os_ixT (se_vc (se_op os_ixL (se_c 1) (se_vc se_int))) (se_vc se_int)) sa_nil))) (se_vc se_int))
  (ss_seq (ss_app (i := 4) (se_tup (sa_v (se_op os_ixT (se_vc (se_op os_ixL (se_c 1) (se_vc se_int))) (se_vc se_int)) (sa_v (se_str (sok_by (by decide +kernel))) sa_nil))))
  (ss_seq (ss_if (st_or (st_not (st_val (se_vc (se_call0 (ro := false) (sa_b (se_c 3) (sa_b (se_c 1) sa_nil)))))) (st_not (st_val (se_vc (se_call0 (ro := false) (sa_b (se_c 3) (sa_b (se_c 1) (sa_v (se_call0 (ro := false) (sa_v (se_v 0) (sa_v se_int sa_nil))) sa_nil))))))))
   (ss_rv se_bl)
   ss_nx)
  (ss_rv (se_call0 (ro := false) (sa_b (se_oc (se_sl ls_list (se_c 1) so_none (so_some (se_vc se_int)))) (sa_b (se_oc (se_sl ls_list (se_vc (se_call0 (ro := false) (sa_v (se_v 0) (sa_v se_int sa_nil)))) so_none (so_some (se_vc se_int)))) (sa_b (se_oc (se_sl ls_list (se_vc (se_call0 (ro := false) (sa_v (se_v 0) (sa_v se_int sa_nil)))) so_none (so_some (se_vc se_int)))) sa_nil))))))))))))))))⟩) (fun _ _ _ h => h) (fun xs Q h => pure_law T.ca xs Q noX h)
--@@END
end
theorem all_mk {l : PySem.W.OpenLaw} {w : World} {K : PySem.W.Frag} {h : Heap} {mg : Str → Option Value} {fa : Addr} (X : K.In h) (G : h.Ns mainGlobals mg) (hfa : mg "law" = some (.ref fa))
    {C_InvalidSheaf : Addr}
    {C_Sheaf : Addr}
    {C_WornError : Addr}
    {f_valid_record : Addr} {od_valid_record an_valid_record : Option Addr} {sl_valid_record : Array (Option Value)} {oc_valid_record kV_valid_record dc_valid_record pm_valid_record cd_valid_record ct_valid_record : Value}
    {f__law_cell : Addr} {od__law_cell an__law_cell : Option Addr} {sl__law_cell : Array (Option Value)} {oc__law_cell kV__law_cell dc__law_cell pm__law_cell cd__law_cell ct__law_cell : Value}
    {f__law_draws : Addr} {od__law_draws an__law_draws : Option Addr} {sl__law_draws : Array (Option Value)} {oc__law_draws kV__law_draws dc__law_draws pm__law_draws cd__law_draws ct__law_draws : Value}
    {f__law_shaped : Addr} {od__law_shaped an__law_shaped : Option Addr} {sl__law_shaped : Array (Option Value)} {oc__law_shaped kV__law_shaped dc__law_shaped pm__law_shaped cd__law_shaped ct__law_shaped : Value}
    {f__law_same_rows : Addr} {od__law_same_rows an__law_same_rows : Option Addr} {sl__law_same_rows : Array (Option Value)} {oc__law_same_rows kV__law_same_rows dc__law_same_rows pm__law_same_rows cd__law_same_rows ct__law_same_rows : Value}
    {f_InvalidSheaf___init__ : Addr} {od_InvalidSheaf___init__ an_InvalidSheaf___init__ : Option Addr} {sl_InvalidSheaf___init__ : Array (Option Value)} {oc_InvalidSheaf___init__ kV_InvalidSheaf___init__ dc_InvalidSheaf___init__ pm_InvalidSheaf___init__ cd_InvalidSheaf___init__ ct_InvalidSheaf___init__ : Value}
    {f_Sheaf___len__ : Addr} {od_Sheaf___len__ an_Sheaf___len__ : Option Addr} {sl_Sheaf___len__ : Array (Option Value)} {oc_Sheaf___len__ kV_Sheaf___len__ dc_Sheaf___len__ pm_Sheaf___len__ cd_Sheaf___len__ ct_Sheaf___len__ : Value}
    {f_Sheaf___iter__ : Addr} {od_Sheaf___iter__ an_Sheaf___iter__ : Option Addr} {sl_Sheaf___iter__ : Array (Option Value)} {oc_Sheaf___iter__ kV_Sheaf___iter__ dc_Sheaf___iter__ pm_Sheaf___iter__ cd_Sheaf___iter__ ct_Sheaf___iter__ : Value}
    {f_Sheaf___eq__ : Addr} {od_Sheaf___eq__ an_Sheaf___eq__ : Option Addr} {sl_Sheaf___eq__ : Array (Option Value)} {oc_Sheaf___eq__ kV_Sheaf___eq__ dc_Sheaf___eq__ pm_Sheaf___eq__ cd_Sheaf___eq__ ct_Sheaf___eq__ : Value}
    {f_Sheaf_rows : Addr} {od_Sheaf_rows an_Sheaf_rows : Option Addr} {sl_Sheaf_rows : Array (Option Value)} {oc_Sheaf_rows kV_Sheaf_rows dc_Sheaf_rows pm_Sheaf_rows cd_Sheaf_rows ct_Sheaf_rows : Value}
    {f__law_names : Addr} {od__law_names an__law_names : Option Addr} {sl__law_names : Array (Option Value)} {oc__law_names kV__law_names dc__law_names pm__law_names cd__law_names ct__law_names : Value}
    {f__law_rows : Addr} {od__law_rows an__law_rows : Option Addr} {sl__law_rows : Array (Option Value)} {oc__law_rows kV__law_rows dc__law_rows pm__law_rows cd__law_rows ct__law_rows : Value}
    {f__law_unlike_rows : Addr} {od__law_unlike_rows an__law_unlike_rows : Option Addr} {sl__law_unlike_rows : Array (Option Value)} {oc__law_unlike_rows kV__law_unlike_rows dc__law_unlike_rows pm__law_unlike_rows cd__law_unlike_rows ct__law_unlike_rows : Value}
    {f__law_variant : Addr} {od__law_variant an__law_variant : Option Addr} {sl__law_variant : Array (Option Value)} {oc__law_variant kV__law_variant dc__law_variant pm__law_variant cd__law_variant ct__law_variant : Value}
    {f__law_wide_rows : Addr} {od__law_wide_rows an__law_wide_rows : Option Addr} {sl__law_wide_rows : Array (Option Value)} {oc__law_wide_rows kV__law_wide_rows dc__law_wide_rows pm__law_wide_rows cd__law_wide_rows ct__law_wide_rows : Value}
    {f_Sheaf___init__ : Addr} {od_Sheaf___init__ an_Sheaf___init__ : Option Addr} {sl_Sheaf___init__ : Array (Option Value)} {oc_Sheaf___init__ kV_Sheaf___init__ dc_Sheaf___init__ pm_Sheaf___init__ cd_Sheaf___init__ ct_Sheaf___init__ : Value}
    {f__law_holds : Addr} {od__law_holds an__law_holds : Option Addr} {sl__law_holds : Array (Option Value)} {oc__law_holds kV__law_holds dc__law_holds pm__law_holds cd__law_holds ct__law_holds : Value}
    {f__law_equals : Addr} {od__law_equals an__law_equals : Option Addr} {sl__law_equals : Array (Option Value)} {oc__law_equals kV__law_equals dc__law_equals pm__law_equals cd__law_equals ct__law_equals : Value}
    {f_Sheaf___add__ : Addr} {od_Sheaf___add__ an_Sheaf___add__ : Option Addr} {sl_Sheaf___add__ : Array (Option Value)} {oc_Sheaf___add__ kV_Sheaf___add__ dc_Sheaf___add__ pm_Sheaf___add__ cd_Sheaf___add__ ct_Sheaf___add__ : Value}
    {f__law_sums : Addr} {od__law_sums an__law_sums : Option Addr} {sl__law_sums : Array (Option Value)} {oc__law_sums kV__law_sums dc__law_sums pm__law_sums cd__law_sums ct__law_sums : Value}
    {f_law : Addr} {od_law an_law : Option Addr} {sl_law : Array (Option Value)} {oc_law kV_law dc_law pm_law cd_law ct_law : Value}
    {t__RECORD_SIGNS : Tok}
    {t__LONGEST_RECORD : Tok}
    {nm_InvalidSheaf q_InvalidSheaf : Str} {N_InvalidSheaf : Addr} {bs_InvalidSheaf : List Value} {sn_InvalidSheaf : List Str} {sub_InvalidSheaf : List Value} {ab_InvalidSheaf : Bool} {col_InvalidSheaf : Option Bool} {dd_InvalidSheaf : Option Addr} {m0_InvalidSheaf m1_InvalidSheaf m2_InvalidSheaf m3_InvalidSheaf m5_InvalidSheaf : Option Value}
    (a_InvalidSheaf : PySem.W.nsIn K mainGlobals "InvalidSheaf" = some (some (.ref C_InvalidSheaf)))
    (a_Sheaf : PySem.W.nsIn K mainGlobals "Sheaf" = some (some (.ref C_Sheaf)))
    (a_WornError : PySem.W.nsIn K mainGlobals "WornError" = some (some (.ref C_WornError)))
    (a_valid_record : PySem.W.nsIn K mainGlobals "valid_record" = some (some (.ref f_valid_record)))
    (l_valid_record : K.lookup f_valid_record = some ⟨oc_valid_record, od_valid_record, .func (PySem.W.fnOf "valid_record" "valid_record" (defArgs s_valid_record) (defBody s_valid_record) (defScope s_valid_record) .none kV_valid_record dc_valid_record pm_valid_record an_valid_record cd_valid_record ct_valid_record), sl_valid_record⟩)
    (c_valid_record : PySem.W.codeIn K cd_valid_record "valid_record" = true)
    (k_valid_record : PySem.W.keepIn K (.ref f_valid_record) = true)
    (a__law_cell : PySem.W.nsIn K mainGlobals "_law_cell" = some (some (.ref f__law_cell)))
    (l__law_cell : K.lookup f__law_cell = some ⟨oc__law_cell, od__law_cell, .func (PySem.W.fnOf "_law_cell" "_law_cell" (defArgs s__law_cell) (defBody s__law_cell) (defScope s__law_cell) .none kV__law_cell dc__law_cell pm__law_cell an__law_cell cd__law_cell ct__law_cell), sl__law_cell⟩)
    (c__law_cell : PySem.W.codeIn K cd__law_cell "_law_cell" = true)
    (k__law_cell : PySem.W.keepIn K (.ref f__law_cell) = true)
    (a__law_draws : PySem.W.nsIn K mainGlobals "_law_draws" = some (some (.ref f__law_draws)))
    (l__law_draws : K.lookup f__law_draws = some ⟨oc__law_draws, od__law_draws, .func (PySem.W.fnOf "_law_draws" "_law_draws" (defArgs s__law_draws) (defBody s__law_draws) (defScope s__law_draws) .none kV__law_draws dc__law_draws pm__law_draws an__law_draws cd__law_draws ct__law_draws), sl__law_draws⟩)
    (c__law_draws : PySem.W.codeIn K cd__law_draws "_law_draws" = true)
    (k__law_draws : PySem.W.keepIn K (.ref f__law_draws) = true)
    (a__law_shaped : PySem.W.nsIn K mainGlobals "_law_shaped" = some (some (.ref f__law_shaped)))
    (l__law_shaped : K.lookup f__law_shaped = some ⟨oc__law_shaped, od__law_shaped, .func (PySem.W.fnOf "_law_shaped" "_law_shaped" (defArgs s__law_shaped) (defBody s__law_shaped) (defScope s__law_shaped) .none kV__law_shaped dc__law_shaped pm__law_shaped an__law_shaped cd__law_shaped ct__law_shaped), sl__law_shaped⟩)
    (c__law_shaped : PySem.W.codeIn K cd__law_shaped "_law_shaped" = true)
    (k__law_shaped : PySem.W.keepIn K (.ref f__law_shaped) = true)
    (a__law_same_rows : PySem.W.nsIn K mainGlobals "_law_same_rows" = some (some (.ref f__law_same_rows)))
    (l__law_same_rows : K.lookup f__law_same_rows = some ⟨oc__law_same_rows, od__law_same_rows, .func (PySem.W.fnOf "_law_same_rows" "_law_same_rows" (defArgs s__law_same_rows) (defBody s__law_same_rows) (defScope s__law_same_rows) .none kV__law_same_rows dc__law_same_rows pm__law_same_rows an__law_same_rows cd__law_same_rows ct__law_same_rows), sl__law_same_rows⟩)
    (c__law_same_rows : PySem.W.codeIn K cd__law_same_rows "_law_same_rows" = true)
    (k__law_same_rows : PySem.W.keepIn K (.ref f__law_same_rows) = true)
    (a_InvalidSheaf___init__ : PySem.W.findIn K (.ref C_InvalidSheaf) "__init__" = some (some (.ref f_InvalidSheaf___init__)))
    (l_InvalidSheaf___init__ : K.lookup f_InvalidSheaf___init__ = some ⟨oc_InvalidSheaf___init__, od_InvalidSheaf___init__, .func (PySem.W.fnOf "__init__" "InvalidSheaf.__init__" (defArgs s_InvalidSheaf___init__) (defBody s_InvalidSheaf___init__) (defScope s_InvalidSheaf___init__) .none kV_InvalidSheaf___init__ dc_InvalidSheaf___init__ pm_InvalidSheaf___init__ an_InvalidSheaf___init__ cd_InvalidSheaf___init__ ct_InvalidSheaf___init__), sl_InvalidSheaf___init__⟩)
    (c_InvalidSheaf___init__ : PySem.W.codeIn K cd_InvalidSheaf___init__ "InvalidSheaf.__init__" = true)
    (k_InvalidSheaf___init__ : PySem.W.keepIn K (.ref f_InvalidSheaf___init__) = true)
    (a_Sheaf___len__ : PySem.W.findIn K (.ref C_Sheaf) "__len__" = some (some (.ref f_Sheaf___len__)))
    (l_Sheaf___len__ : K.lookup f_Sheaf___len__ = some ⟨oc_Sheaf___len__, od_Sheaf___len__, .func (PySem.W.fnOf "__len__" "Sheaf.__len__" (defArgs s_Sheaf___len__) (defBody s_Sheaf___len__) (defScope s_Sheaf___len__) .none kV_Sheaf___len__ dc_Sheaf___len__ pm_Sheaf___len__ an_Sheaf___len__ cd_Sheaf___len__ ct_Sheaf___len__), sl_Sheaf___len__⟩)
    (c_Sheaf___len__ : PySem.W.codeIn K cd_Sheaf___len__ "Sheaf.__len__" = true)
    (k_Sheaf___len__ : PySem.W.keepIn K (.ref f_Sheaf___len__) = true)
    (a_Sheaf___iter__ : PySem.W.findIn K (.ref C_Sheaf) "__iter__" = some (some (.ref f_Sheaf___iter__)))
    (l_Sheaf___iter__ : K.lookup f_Sheaf___iter__ = some ⟨oc_Sheaf___iter__, od_Sheaf___iter__, .func (PySem.W.fnOf "__iter__" "Sheaf.__iter__" (defArgs s_Sheaf___iter__) (defBody s_Sheaf___iter__) (defScope s_Sheaf___iter__) .none kV_Sheaf___iter__ dc_Sheaf___iter__ pm_Sheaf___iter__ an_Sheaf___iter__ cd_Sheaf___iter__ ct_Sheaf___iter__), sl_Sheaf___iter__⟩)
    (c_Sheaf___iter__ : PySem.W.codeIn K cd_Sheaf___iter__ "Sheaf.__iter__" = true)
    (k_Sheaf___iter__ : PySem.W.keepIn K (.ref f_Sheaf___iter__) = true)
    (a_Sheaf___eq__ : PySem.W.findIn K (.ref C_Sheaf) "__eq__" = some (some (.ref f_Sheaf___eq__)))
    (l_Sheaf___eq__ : K.lookup f_Sheaf___eq__ = some ⟨oc_Sheaf___eq__, od_Sheaf___eq__, .func (PySem.W.fnOf "__eq__" "Sheaf.__eq__" (defArgs s_Sheaf___eq__) (defBody s_Sheaf___eq__) (defScope s_Sheaf___eq__) .none kV_Sheaf___eq__ dc_Sheaf___eq__ pm_Sheaf___eq__ an_Sheaf___eq__ cd_Sheaf___eq__ ct_Sheaf___eq__), sl_Sheaf___eq__⟩)
    (c_Sheaf___eq__ : PySem.W.codeIn K cd_Sheaf___eq__ "Sheaf.__eq__" = true)
    (k_Sheaf___eq__ : PySem.W.keepIn K (.ref f_Sheaf___eq__) = true)
    (a_Sheaf_rows : PySem.W.findIn K (.ref C_Sheaf) "rows" = some (some (.ref f_Sheaf_rows)))
    (l_Sheaf_rows : K.lookup f_Sheaf_rows = some ⟨oc_Sheaf_rows, od_Sheaf_rows, .func (PySem.W.fnOf "rows" "Sheaf.rows" (defArgs s_Sheaf_rows) (defBody s_Sheaf_rows) (defScope s_Sheaf_rows) .none kV_Sheaf_rows dc_Sheaf_rows pm_Sheaf_rows an_Sheaf_rows cd_Sheaf_rows ct_Sheaf_rows), sl_Sheaf_rows⟩)
    (c_Sheaf_rows : PySem.W.codeIn K cd_Sheaf_rows "Sheaf.rows" = true)
    (k_Sheaf_rows : PySem.W.keepIn K (.ref f_Sheaf_rows) = true)
    (a__law_names : PySem.W.nsIn K mainGlobals "_law_names" = some (some (.ref f__law_names)))
    (l__law_names : K.lookup f__law_names = some ⟨oc__law_names, od__law_names, .func (PySem.W.fnOf "_law_names" "_law_names" (defArgs s__law_names) (defBody s__law_names) (defScope s__law_names) .none kV__law_names dc__law_names pm__law_names an__law_names cd__law_names ct__law_names), sl__law_names⟩)
    (c__law_names : PySem.W.codeIn K cd__law_names "_law_names" = true)
    (k__law_names : PySem.W.keepIn K (.ref f__law_names) = true)
    (a__law_rows : PySem.W.nsIn K mainGlobals "_law_rows" = some (some (.ref f__law_rows)))
    (l__law_rows : K.lookup f__law_rows = some ⟨oc__law_rows, od__law_rows, .func (PySem.W.fnOf "_law_rows" "_law_rows" (defArgs s__law_rows) (defBody s__law_rows) (defScope s__law_rows) .none kV__law_rows dc__law_rows pm__law_rows an__law_rows cd__law_rows ct__law_rows), sl__law_rows⟩)
    (c__law_rows : PySem.W.codeIn K cd__law_rows "_law_rows" = true)
    (k__law_rows : PySem.W.keepIn K (.ref f__law_rows) = true)
    (a__law_unlike_rows : PySem.W.nsIn K mainGlobals "_law_unlike_rows" = some (some (.ref f__law_unlike_rows)))
    (l__law_unlike_rows : K.lookup f__law_unlike_rows = some ⟨oc__law_unlike_rows, od__law_unlike_rows, .func (PySem.W.fnOf "_law_unlike_rows" "_law_unlike_rows" (defArgs s__law_unlike_rows) (defBody s__law_unlike_rows) (defScope s__law_unlike_rows) .none kV__law_unlike_rows dc__law_unlike_rows pm__law_unlike_rows an__law_unlike_rows cd__law_unlike_rows ct__law_unlike_rows), sl__law_unlike_rows⟩)
    (c__law_unlike_rows : PySem.W.codeIn K cd__law_unlike_rows "_law_unlike_rows" = true)
    (k__law_unlike_rows : PySem.W.keepIn K (.ref f__law_unlike_rows) = true)
    (a__law_variant : PySem.W.nsIn K mainGlobals "_law_variant" = some (some (.ref f__law_variant)))
    (l__law_variant : K.lookup f__law_variant = some ⟨oc__law_variant, od__law_variant, .func (PySem.W.fnOf "_law_variant" "_law_variant" (defArgs s__law_variant) (defBody s__law_variant) (defScope s__law_variant) .none kV__law_variant dc__law_variant pm__law_variant an__law_variant cd__law_variant ct__law_variant), sl__law_variant⟩)
    (c__law_variant : PySem.W.codeIn K cd__law_variant "_law_variant" = true)
    (k__law_variant : PySem.W.keepIn K (.ref f__law_variant) = true)
    (a__law_wide_rows : PySem.W.nsIn K mainGlobals "_law_wide_rows" = some (some (.ref f__law_wide_rows)))
    (l__law_wide_rows : K.lookup f__law_wide_rows = some ⟨oc__law_wide_rows, od__law_wide_rows, .func (PySem.W.fnOf "_law_wide_rows" "_law_wide_rows" (defArgs s__law_wide_rows) (defBody s__law_wide_rows) (defScope s__law_wide_rows) .none kV__law_wide_rows dc__law_wide_rows pm__law_wide_rows an__law_wide_rows cd__law_wide_rows ct__law_wide_rows), sl__law_wide_rows⟩)
    (c__law_wide_rows : PySem.W.codeIn K cd__law_wide_rows "_law_wide_rows" = true)
    (k__law_wide_rows : PySem.W.keepIn K (.ref f__law_wide_rows) = true)
    (a_Sheaf___init__ : PySem.W.findIn K (.ref C_Sheaf) "__init__" = some (some (.ref f_Sheaf___init__)))
    (l_Sheaf___init__ : K.lookup f_Sheaf___init__ = some ⟨oc_Sheaf___init__, od_Sheaf___init__, .func (PySem.W.fnOf "__init__" "Sheaf.__init__" (defArgs s_Sheaf___init__) (defBody s_Sheaf___init__) (defScope s_Sheaf___init__) .none kV_Sheaf___init__ dc_Sheaf___init__ pm_Sheaf___init__ an_Sheaf___init__ cd_Sheaf___init__ ct_Sheaf___init__), sl_Sheaf___init__⟩)
    (c_Sheaf___init__ : PySem.W.codeIn K cd_Sheaf___init__ "Sheaf.__init__" = true)
    (k_Sheaf___init__ : PySem.W.keepIn K (.ref f_Sheaf___init__) = true)
    (a__law_holds : PySem.W.nsIn K mainGlobals "_law_holds" = some (some (.ref f__law_holds)))
    (l__law_holds : K.lookup f__law_holds = some ⟨oc__law_holds, od__law_holds, .func (PySem.W.fnOf "_law_holds" "_law_holds" (defArgs s__law_holds) (defBody s__law_holds) (defScope s__law_holds) .none kV__law_holds dc__law_holds pm__law_holds an__law_holds cd__law_holds ct__law_holds), sl__law_holds⟩)
    (c__law_holds : PySem.W.codeIn K cd__law_holds "_law_holds" = true)
    (k__law_holds : PySem.W.keepIn K (.ref f__law_holds) = true)
    (a__law_equals : PySem.W.nsIn K mainGlobals "_law_equals" = some (some (.ref f__law_equals)))
    (l__law_equals : K.lookup f__law_equals = some ⟨oc__law_equals, od__law_equals, .func (PySem.W.fnOf "_law_equals" "_law_equals" (defArgs s__law_equals) (defBody s__law_equals) (defScope s__law_equals) .none kV__law_equals dc__law_equals pm__law_equals an__law_equals cd__law_equals ct__law_equals), sl__law_equals⟩)
    (c__law_equals : PySem.W.codeIn K cd__law_equals "_law_equals" = true)
    (k__law_equals : PySem.W.keepIn K (.ref f__law_equals) = true)
    (a_Sheaf___add__ : PySem.W.findIn K (.ref C_Sheaf) "__add__" = some (some (.ref f_Sheaf___add__)))
    (l_Sheaf___add__ : K.lookup f_Sheaf___add__ = some ⟨oc_Sheaf___add__, od_Sheaf___add__, .func (PySem.W.fnOf "__add__" "Sheaf.__add__" (defArgs s_Sheaf___add__) (defBody s_Sheaf___add__) (defScope s_Sheaf___add__) .none kV_Sheaf___add__ dc_Sheaf___add__ pm_Sheaf___add__ an_Sheaf___add__ cd_Sheaf___add__ ct_Sheaf___add__), sl_Sheaf___add__⟩)
    (c_Sheaf___add__ : PySem.W.codeIn K cd_Sheaf___add__ "Sheaf.__add__" = true)
    (k_Sheaf___add__ : PySem.W.keepIn K (.ref f_Sheaf___add__) = true)
    (a__law_sums : PySem.W.nsIn K mainGlobals "_law_sums" = some (some (.ref f__law_sums)))
    (l__law_sums : K.lookup f__law_sums = some ⟨oc__law_sums, od__law_sums, .func (PySem.W.fnOf "_law_sums" "_law_sums" (defArgs s__law_sums) (defBody s__law_sums) (defScope s__law_sums) .none kV__law_sums dc__law_sums pm__law_sums an__law_sums cd__law_sums ct__law_sums), sl__law_sums⟩)
    (c__law_sums : PySem.W.codeIn K cd__law_sums "_law_sums" = true)
    (k__law_sums : PySem.W.keepIn K (.ref f__law_sums) = true)
    (a_law : PySem.W.nsIn K mainGlobals "law" = some (some (.ref f_law)))
    (l_law : K.lookup f_law = some ⟨oc_law, od_law, .func (PySem.W.fnOf "law" "law" (defArgs s_law) (defBody s_law) (defScope s_law) .none kV_law dc_law pm_law an_law cd_law ct_law), sl_law⟩)
    (c_law : PySem.W.codeIn K cd_law "law" = true)
    (k_law : PySem.W.keepIn K (.ref f_law) = true)
    (a__RECORD_SIGNS : PySem.W.nsIn K mainGlobals "_RECORD_SIGNS" = some (some (.str "abcdefghijklmnopqrstuvwxyz0123456789" t__RECORD_SIGNS)))
    (a__LONGEST_RECORD : PySem.W.nsIn K mainGlobals "_LONGEST_RECORD" = some (some (.int 8 t__LONGEST_RECORD)))
    (z_len : PySem.W.nsIn K mainGlobals "len" = some none)
    (z_int : PySem.W.nsIn K mainGlobals "int" = some none)
    (z_range : PySem.W.nsIn K mainGlobals "range" = some none)
    (z_list : PySem.W.nsIn K mainGlobals "list" = some none)
    (z_isinstance : PySem.W.nsIn K mainGlobals "isinstance" = some none)
    (z_tuple : PySem.W.nsIn K mainGlobals "tuple" = some none)
    (z_str : PySem.W.nsIn K mainGlobals "str" = some none)
    (z_bool : PySem.W.nsIn K mainGlobals "bool" = some none)
    (z_iter : PySem.W.nsIn K mainGlobals "iter" = some none)
    (z_enumerate : PySem.W.nsIn K mainGlobals "enumerate" = some none)
    (z_max : PySem.W.nsIn K mainGlobals "max" = some none)
    (z_min : PySem.W.nsIn K mainGlobals "min" = some none)
    (xL_InvalidSheaf : K.lookup C_InvalidSheaf = some (excClassObj nm_InvalidSheaf q_InvalidSheaf C_InvalidSheaf N_InvalidSheaf bs_InvalidSheaf [.ref C_WornError, .type "ValueError", .type "Exception", .type "BaseException", .type "object"] true sn_InvalidSheaf sub_InvalidSheaf ab_InvalidSheaf col_InvalidSheaf dd_InvalidSheaf m0_InvalidSheaf m1_InvalidSheaf m2_InvalidSheaf m3_InvalidSheaf m5_InvalidSheaf "ValueError.__new__"))
    (sa_InvalidSheaf : PySem.W.findIn K (.ref C_InvalidSheaf) "__setattr__" = some (some (.builtin "object.__setattr__")))
    (eC_InvalidSheaf : PySem.W.subIn K (.ref C_InvalidSheaf) (.type "BaseException") = some true)
    (tC_InvalidSheaf : PySem.W.typeIn K (.ref C_InvalidSheaf) = some (.type "type"))
    (kC_InvalidSheaf : PySem.W.keepIn K (.ref C_InvalidSheaf) = true)
    (ga_InvalidSheaf : PySem.W.findIn K (.ref C_InvalidSheaf) "__getattribute__" = some (some (.builtin "BaseException.__getattribute__")))
    (gg_InvalidSheaf : PySem.W.findIn K (.ref C_InvalidSheaf) "__getattr__" = some none)
    (hC_InvalidSheaf : PySem.W.hasDictIn K C_InvalidSheaf = true)
    (ia_Sheaf : PySem.W.findIn K (.ref C_Sheaf) "__class__" = some (some (.builtin "object.__class__")))
    (in_Sheaf : PySem.W.specialIn K (.builtin "object.__class__") "__get__" = some (some (.builtin "getset_descriptor.__get__")))
    (it_Sheaf : PySem.W.takesIn K (.builtin "object.__class__") = some true)
    (im_Sheaf : PySem.W.mroIn K C_Sheaf (.type "object") = some true)
    (h_pg_Sheaf : PySem.W.plainGet K C_Sheaf Str.empty = true)
    (h_hd_Sheaf : PySem.W.hasDictIn K C_Sheaf = true)
    (h_po_Sheaf : PySem.W.plainOver K C_Sheaf = true)
    (h_sa_Sheaf : PySem.W.findIn K (.ref C_Sheaf) "__setattr__" = some (some (.builtin "object.__setattr__")))
    (h_na_Sheaf__rows : PySem.W.findIn K (.ref C_Sheaf) "_rows" = some none)
    (h_na_Sheaf__top : PySem.W.findIn K (.ref C_Sheaf) "_top" = some none)
    (h_na_Sheaf__bottom : PySem.W.findIn K (.ref C_Sheaf) "_bottom" = some none)
    (h_na_InvalidSheaf_index : PySem.W.findIn K (.ref C_InvalidSheaf) "index" = some none)
    (h_iC_InvalidSheaf : PySem.W.findIn K (.ref C_InvalidSheaf) "__init__" = some (some (.ref f_InvalidSheaf___init__)))
    (h_tI_InvalidSheaf : PySem.W.typeIn K (.ref f_InvalidSheaf___init__) = some (.type "function"))
    (h_at_Sheaf___iter__ : PySem.W.findIn K (.ref C_Sheaf) "__iter__" = some (some (.ref f_Sheaf___iter__)))
    (h_fn_Sheaf___iter__ : PySem.W.isFn K (.ref f_Sheaf___iter__) = true)
    (h_at_Sheaf___len__ : PySem.W.findIn K (.ref C_Sheaf) "__len__" = some (some (.ref f_Sheaf___len__)))
    (h_fn_Sheaf___len__ : PySem.W.isFn K (.ref f_Sheaf___len__) = true)
    (mf_Sheaf_rows : PySem.W.isFn K (.ref f_Sheaf_rows) = true)
    (mk1_Sheaf : PySem.W.makesIn K C_Sheaf = true)
    (mk3_Sheaf : PySem.W.isFn K (.ref f_Sheaf___init__) = true)
    (mk4_Sheaf : PySem.W.keepIn K (.ref C_Sheaf) = true)
    (h_at_Sheaf___eq__ : PySem.W.findIn K (.ref C_Sheaf) "__eq__" = some (some (.ref f_Sheaf___eq__)))
    (h_fn_Sheaf___eq__ : PySem.W.isFn K (.ref f_Sheaf___eq__) = true)
    (h_at_Sheaf___add__ : PySem.W.findIn K (.ref C_Sheaf) "__add__" = some (some (.ref f_Sheaf___add__)))
    (h_fn_Sheaf___add__ : PySem.W.isFn K (.ref f_Sheaf___add__) = true)
    (h_sf_Sheaf : PySem.W.selfFirst K C_Sheaf = true) :
    ∃ fd : FuncData, (∀ (s : Shared) (v : Value), BindsTo s fd ⟨[v], []⟩ [("script", v)]) ∧ ∀ base : Heap, K.In base → base.Ns mainGlobals mg → FnOk l.prog w K mg base CX0 7 fa fd ["script"] (spLaw K) := by
  have e : fa = f_law := by
    have e := hfa.symm.trans (PySem.W.mg_of X G a_law)
    cases e
    rfl
  have T : ∃ T : Env K mg, T.f_law = f_law ∧ T.d_law = PySem.W.fnOf "law" "law" (defArgs s_law) (defBody s_law) (defScope s_law) .none kV_law dc_law pm_law an_law cd_law ct_law := ⟨{ C_InvalidSheaf := C_InvalidSheaf, C_Sheaf := C_Sheaf, C_WornError := C_WornError, f_valid_record := f_valid_record, d_valid_record := _, F_valid_record := fun_mk (st := s_valid_record) l_valid_record c_valid_record k_valid_record, b_valid_record := ((fun_mk (st := s_valid_record) l_valid_record c_valid_record k_valid_record).binds (ps := ["text"]) fun _ _ _ _ _ _ us hl => match us, hl with | [_], _ => rfl), g_valid_record := PySem.W.mg_of X G a_valid_record, f__law_cell := f__law_cell, d__law_cell := _, F__law_cell := fun_mk (st := s__law_cell) l__law_cell c__law_cell k__law_cell, b__law_cell := ((fun_mk (st := s__law_cell) l__law_cell c__law_cell k__law_cell).binds (ps := ["script", "k"]) fun _ _ _ _ _ _ us hl => match us, hl with | [_, _], _ => rfl), g__law_cell := PySem.W.mg_of X G a__law_cell, f__law_draws := f__law_draws, d__law_draws := _, F__law_draws := fun_mk (st := s__law_draws) l__law_draws c__law_draws k__law_draws, b__law_draws := ((fun_mk (st := s__law_draws) l__law_draws c__law_draws k__law_draws).binds (ps := ["cell", "sizes"]) fun _ _ _ _ _ _ us hl => match us, hl with | [_, _], _ => rfl), g__law_draws := PySem.W.mg_of X G a__law_draws, f__law_shaped := f__law_shaped, d__law_shaped := _, F__law_shaped := fun_mk (st := s__law_shaped) l__law_shaped c__law_shaped k__law_shaped, b__law_shaped := ((fun_mk (st := s__law_shaped) l__law_shaped c__law_shaped k__law_shaped).binds (ps := ["rows", "shape", "base", "gap"]) fun _ _ _ _ _ _ us hl => match us, hl with | [_, _, _, _], _ => rfl), g__law_shaped := PySem.W.mg_of X G a__law_shaped, f__law_same_rows := f__law_same_rows, d__law_same_rows := _, F__law_same_rows := fun_mk (st := s__law_same_rows) l__law_same_rows c__law_same_rows k__law_same_rows, b__law_same_rows := ((fun_mk (st := s__law_same_rows) l__law_same_rows c__law_same_rows k__law_same_rows).binds (ps := ["told", "rows"]) fun _ _ _ _ _ _ us hl => match us, hl with | [_, _], _ => rfl), g__law_same_rows := PySem.W.mg_of X G a__law_same_rows, f_InvalidSheaf___init__ := f_InvalidSheaf___init__, d_InvalidSheaf___init__ := _, F_InvalidSheaf___init__ := fun_mk (st := s_InvalidSheaf___init__) l_InvalidSheaf___init__ c_InvalidSheaf___init__ k_InvalidSheaf___init__, b_InvalidSheaf___init__ := ((fun_mk (st := s_InvalidSheaf___init__) l_InvalidSheaf___init__ c_InvalidSheaf___init__ k_InvalidSheaf___init__).binds (ps := ["self", "index"]) fun _ _ _ _ _ _ us hl => match us, hl with | [_, _], _ => rfl), f_Sheaf___len__ := f_Sheaf___len__, d_Sheaf___len__ := _, F_Sheaf___len__ := fun_mk (st := s_Sheaf___len__) l_Sheaf___len__ c_Sheaf___len__ k_Sheaf___len__, b_Sheaf___len__ := ((fun_mk (st := s_Sheaf___len__) l_Sheaf___len__ c_Sheaf___len__ k_Sheaf___len__).binds (ps := ["self"]) fun _ _ _ _ _ _ us hl => match us, hl with | [_], _ => rfl), f_Sheaf___iter__ := f_Sheaf___iter__, d_Sheaf___iter__ := _, F_Sheaf___iter__ := fun_mk (st := s_Sheaf___iter__) l_Sheaf___iter__ c_Sheaf___iter__ k_Sheaf___iter__, b_Sheaf___iter__ := ((fun_mk (st := s_Sheaf___iter__) l_Sheaf___iter__ c_Sheaf___iter__ k_Sheaf___iter__).binds (ps := ["self"]) fun _ _ _ _ _ _ us hl => match us, hl with | [_], _ => rfl), f_Sheaf___eq__ := f_Sheaf___eq__, d_Sheaf___eq__ := _, F_Sheaf___eq__ := fun_mk (st := s_Sheaf___eq__) l_Sheaf___eq__ c_Sheaf___eq__ k_Sheaf___eq__, b_Sheaf___eq__ := ((fun_mk (st := s_Sheaf___eq__) l_Sheaf___eq__ c_Sheaf___eq__ k_Sheaf___eq__).binds (ps := ["self", "other"]) fun _ _ _ _ _ _ us hl => match us, hl with | [_, _], _ => rfl), f_Sheaf_rows := f_Sheaf_rows, d_Sheaf_rows := _, F_Sheaf_rows := fun_mk (st := s_Sheaf_rows) l_Sheaf_rows c_Sheaf_rows k_Sheaf_rows, b_Sheaf_rows := ((fun_mk (st := s_Sheaf_rows) l_Sheaf_rows c_Sheaf_rows k_Sheaf_rows).binds (ps := ["self"]) fun _ _ _ _ _ _ us hl => match us, hl with | [_], _ => rfl), f__law_names := f__law_names, d__law_names := _, F__law_names := fun_mk (st := s__law_names) l__law_names c__law_names k__law_names, b__law_names := ((fun_mk (st := s__law_names) l__law_names c__law_names k__law_names).binds (ps := ["cell", "count"]) fun _ _ _ _ _ _ us hl => match us, hl with | [_, _], _ => rfl), g__law_names := PySem.W.mg_of X G a__law_names, f__law_rows := f__law_rows, d__law_rows := _, F__law_rows := fun_mk (st := s__law_rows) l__law_rows c__law_rows k__law_rows, b__law_rows := ((fun_mk (st := s__law_rows) l__law_rows c__law_rows k__law_rows).binds (ps := ["cell", "names", "count", "spread", "base"]) fun _ _ _ _ _ _ us hl => match us, hl with | [_, _, _, _, _], _ => rfl), g__law_rows := PySem.W.mg_of X G a__law_rows, f__law_unlike_rows := f__law_unlike_rows, d__law_unlike_rows := _, F__law_unlike_rows := fun_mk (st := s__law_unlike_rows) l__law_unlike_rows c__law_unlike_rows k__law_unlike_rows, b__law_unlike_rows := ((fun_mk (st := s__law_unlike_rows) l__law_unlike_rows c__law_unlike_rows k__law_unlike_rows).binds (ps := ["cell", "names", "count", "spread", "base"]) fun _ _ _ _ _ _ us hl => match us, hl with | [_, _, _, _, _], _ => rfl), g__law_unlike_rows := PySem.W.mg_of X G a__law_unlike_rows, f__law_variant := f__law_variant, d__law_variant := _, F__law_variant := fun_mk (st := s__law_variant) l__law_variant c__law_variant k__law_variant, b__law_variant := ((fun_mk (st := s__law_variant) l__law_variant c__law_variant k__law_variant).binds (ps := ["rows", "cell", "kind"]) fun _ _ _ _ _ _ us hl => match us, hl with | [_, _, _], _ => rfl), g__law_variant := PySem.W.mg_of X G a__law_variant, f__law_wide_rows := f__law_wide_rows, d__law_wide_rows := _, F__law_wide_rows := fun_mk (st := s__law_wide_rows) l__law_wide_rows c__law_wide_rows k__law_wide_rows, b__law_wide_rows := ((fun_mk (st := s__law_wide_rows) l__law_wide_rows c__law_wide_rows k__law_wide_rows).binds (ps := ["script", "at"]) fun _ _ _ _ _ _ us hl => match us, hl with | [_, _], _ => rfl), g__law_wide_rows := PySem.W.mg_of X G a__law_wide_rows, f_Sheaf___init__ := f_Sheaf___init__, d_Sheaf___init__ := _, F_Sheaf___init__ := fun_mk (st := s_Sheaf___init__) l_Sheaf___init__ c_Sheaf___init__ k_Sheaf___init__, b_Sheaf___init__ := ((fun_mk (st := s_Sheaf___init__) l_Sheaf___init__ c_Sheaf___init__ k_Sheaf___init__).binds (ps := ["self", "rows"]) fun _ _ _ _ _ _ us hl => match us, hl with | [_, _], _ => rfl), f__law_holds := f__law_holds, d__law_holds := _, F__law_holds := fun_mk (st := s__law_holds) l__law_holds c__law_holds k__law_holds, b__law_holds := ((fun_mk (st := s__law_holds) l__law_holds c__law_holds k__law_holds).binds (ps := ["sheaf", "rows"]) fun _ _ _ _ _ _ us hl => match us, hl with | [_, _], _ => rfl), g__law_holds := PySem.W.mg_of X G a__law_holds, f__law_equals := f__law_equals, d__law_equals := _, F__law_equals := fun_mk (st := s__law_equals) l__law_equals c__law_equals k__law_equals, b__law_equals := ((fun_mk (st := s__law_equals) l__law_equals c__law_equals k__law_equals).binds (ps := ["sheaf", "rows", "cell"]) fun _ _ _ _ _ _ us hl => match us, hl with | [_, _, _], _ => rfl), g__law_equals := PySem.W.mg_of X G a__law_equals, f_Sheaf___add__ := f_Sheaf___add__, d_Sheaf___add__ := _, F_Sheaf___add__ := fun_mk (st := s_Sheaf___add__) l_Sheaf___add__ c_Sheaf___add__ k_Sheaf___add__, b_Sheaf___add__ := ((fun_mk (st := s_Sheaf___add__) l_Sheaf___add__ c_Sheaf___add__ k_Sheaf___add__).binds (ps := ["self", "other"]) fun _ _ _ _ _ _ us hl => match us, hl with | [_, _], _ => rfl), f__law_sums := f__law_sums, d__law_sums := _, F__law_sums := fun_mk (st := s__law_sums) l__law_sums c__law_sums k__law_sums, b__law_sums := ((fun_mk (st := s__law_sums) l__law_sums c__law_sums k__law_sums).binds (ps := ["one", "two", "three"]) fun _ _ _ _ _ _ us hl => match us, hl with | [_, _, _], _ => rfl), g__law_sums := PySem.W.mg_of X G a__law_sums, f_law := f_law, d_law := _, F_law := fun_mk (st := s_law) l_law c_law k_law, b_law := ((fun_mk (st := s_law) l_law c_law k_law).binds (ps := ["script"]) fun _ _ _ _ _ _ us hl => match us, hl with | [_], _ => rfl), g_law := PySem.W.mg_of X G a_law, t__RECORD_SIGNS := t__RECORD_SIGNS, g__RECORD_SIGNS := PySem.W.mg_of X G a__RECORD_SIGNS, t__LONGEST_RECORD := t__LONGEST_RECORD, g__LONGEST_RECORD := PySem.W.mg_of X G a__LONGEST_RECORD, n_len := PySem.W.mg_none_of X G z_len, n_int := PySem.W.mg_none_of X G z_int, n_range := PySem.W.mg_none_of X G z_range, n_list := PySem.W.mg_none_of X G z_list, n_isinstance := PySem.W.mg_none_of X G z_isinstance, n_tuple := PySem.W.mg_none_of X G z_tuple, n_str := PySem.W.mg_none_of X G z_str, n_bool := PySem.W.mg_none_of X G z_bool, n_iter := PySem.W.mg_none_of X G z_iter, n_enumerate := PySem.W.mg_none_of X G z_enumerate, n_max := PySem.W.mg_none_of X G z_max, n_min := PySem.W.mg_none_of X G z_min, ox_InvalidSheaf := ⟨⟨nm_InvalidSheaf, q_InvalidSheaf, N_InvalidSheaf, bs_InvalidSheaf, _, sn_InvalidSheaf, sub_InvalidSheaf, ab_InvalidSheaf, col_InvalidSheaf, dd_InvalidSheaf, m0_InvalidSheaf, m1_InvalidSheaf, m2_InvalidSheaf, m3_InvalidSheaf, m5_InvalidSheaf, xL_InvalidSheaf, rfl⟩, sa_InvalidSheaf, eC_InvalidSheaf, tC_InvalidSheaf, kC_InvalidSheaf⟩, xf_InvalidSheaf := ⟨ga_InvalidSheaf, gg_InvalidSheaf, eC_InvalidSheaf, hC_InvalidSheaf⟩, ins_Sheaf := ⟨⟨h_pg_Sheaf, h_hd_Sheaf, h_po_Sheaf, h_sa_Sheaf⟩, ia_Sheaf, in_Sheaf, it_Sheaf, im_Sheaf, kit_self⟩, g_Sheaf := PySem.W.mg_of X G a_Sheaf, pg_Sheaf := h_pg_Sheaf, hd_Sheaf := h_hd_Sheaf, po_Sheaf := h_po_Sheaf, sa_Sheaf := h_sa_Sheaf, na_Sheaf__rows := h_na_Sheaf__rows, na_Sheaf__top := h_na_Sheaf__top, na_Sheaf__bottom := h_na_Sheaf__bottom, g_InvalidSheaf := PySem.W.mg_of X G a_InvalidSheaf, na_InvalidSheaf_index := h_na_InvalidSheaf_index, iC_InvalidSheaf := h_iC_InvalidSheaf, tI_InvalidSheaf := h_tI_InvalidSheaf, at_Sheaf___iter__ := h_at_Sheaf___iter__, fn_Sheaf___iter__ := h_fn_Sheaf___iter__, at_Sheaf___len__ := h_at_Sheaf___len__, fn_Sheaf___len__ := h_fn_Sheaf___len__, me_Sheaf_rows := ⟨a_Sheaf_rows, mf_Sheaf_rows, k_Sheaf_rows⟩, mk_Sheaf := ⟨mk1_Sheaf, a_Sheaf___init__, mk3_Sheaf, mk4_Sheaf⟩, at_Sheaf___eq__ := h_at_Sheaf___eq__, fn_Sheaf___eq__ := h_fn_Sheaf___eq__, at_Sheaf___add__ := h_at_Sheaf___add__, fn_Sheaf___add__ := h_fn_Sheaf___add__, sf_Sheaf := h_sf_Sheaf, g_WornError := PySem.W.mg_of X G a_WornError }, rfl, rfl⟩
  obtain ⟨T, e1, e2⟩ := T
  refine ⟨PySem.W.fnOf "law" "law" (defArgs s_law) (defBody s_law) (defScope s_law) .none kV_law dc_law pm_law an_law cd_law ct_law, fun s v => .of_eq rfl, fun base _ _ => ?_⟩
  rw [e, ← e1, ← e2]
  exact law_ok (ok_law T)
end Pf
open PySem PySem.W PyProof.Rows
set_option maxHeartbeats 0 in
theorem PySem.Challenge.cw_wornsheaf_k02_sheaf_keeps_rows_holds : PySem.Challenge.rw_wornsheaf_k02_sheaf_keeps_rows.Holds := by
  w_on; o_law; k_head; (case hw => w_witness2)
  k_fill
  refine L2.walk_of (l := PySem.Challenge.rw_wornsheaf_k02_sheaf_keeps_rows) (n := 63) (k := 7) (x := "script") (CX := fun _ => L2.CX0) (sp := fun w => Pf.spLaw _) rfl (by decide) rfl ⟨rfl, by decide, by decide⟩ (fun w h Y => PySem.W.kIn_of Y) ?F (fun _ _ a ns hl _ hS => ⟨a, ns, rfl, hS, hl, fun _ => rfl⟩) (fun _ _ _ _ _ h => h)
  case F =>
    intro w mg fa h KX G hmg
    refine' Pf.all_mk KX G hmg ?a_InvalidSheaf ?a_Sheaf ?a_WornError ?a_valid_record ?l_valid_record ?c_valid_record ?k_valid_record ?a__law_cell ?l__law_cell ?c__law_cell ?k__law_cell ?a__law_draws ?l__law_draws ?c__law_draws ?k__law_draws ?a__law_shaped ?l__law_shaped ?c__law_shaped ?k__law_shaped ?a__law_same_rows ?l__law_same_rows ?c__law_same_rows ?k__law_same_rows ?a_InvalidSheaf___init__ ?l_InvalidSheaf___init__ ?c_InvalidSheaf___init__ ?k_InvalidSheaf___init__ ?a_Sheaf___len__ ?l_Sheaf___len__ ?c_Sheaf___len__ ?k_Sheaf___len__ ?a_Sheaf___iter__ ?l_Sheaf___iter__ ?c_Sheaf___iter__ ?k_Sheaf___iter__ ?a_Sheaf___eq__ ?l_Sheaf___eq__ ?c_Sheaf___eq__ ?k_Sheaf___eq__ ?a_Sheaf_rows ?l_Sheaf_rows ?c_Sheaf_rows ?k_Sheaf_rows ?a__law_names ?l__law_names ?c__law_names ?k__law_names ?a__law_rows ?l__law_rows ?c__law_rows ?k__law_rows ?a__law_unlike_rows ?l__law_unlike_rows ?c__law_unlike_rows ?k__law_unlike_rows ?a__law_variant ?l__law_variant ?c__law_variant ?k__law_variant ?a__law_wide_rows ?l__law_wide_rows ?c__law_wide_rows ?k__law_wide_rows ?a_Sheaf___init__ ?l_Sheaf___init__ ?c_Sheaf___init__ ?k_Sheaf___init__ ?a__law_holds ?l__law_holds ?c__law_holds ?k__law_holds ?a__law_equals ?l__law_equals ?c__law_equals ?k__law_equals ?a_Sheaf___add__ ?l_Sheaf___add__ ?c_Sheaf___add__ ?k_Sheaf___add__ ?a__law_sums ?l__law_sums ?c__law_sums ?k__law_sums ?a_law ?l_law ?c_law ?k_law ?a__RECORD_SIGNS ?a__LONGEST_RECORD ?z_len ?z_int ?z_range ?z_list ?z_isinstance ?z_tuple ?z_str ?z_bool ?z_iter ?z_enumerate ?z_max ?z_min ?xL_InvalidSheaf ?sa_InvalidSheaf ?eC_InvalidSheaf ?tC_InvalidSheaf ?kC_InvalidSheaf ?ga_InvalidSheaf ?gg_InvalidSheaf ?hC_InvalidSheaf ?ia_Sheaf ?in_Sheaf ?it_Sheaf ?im_Sheaf ?h_pg_Sheaf ?h_hd_Sheaf ?h_po_Sheaf ?h_sa_Sheaf ?h_na_Sheaf__rows ?h_na_Sheaf__top ?h_na_Sheaf__bottom ?h_na_InvalidSheaf_index ?h_iC_InvalidSheaf ?h_tI_InvalidSheaf ?h_at_Sheaf___iter__ ?h_fn_Sheaf___iter__ ?h_at_Sheaf___len__ ?h_fn_Sheaf___len__ ?mf_Sheaf_rows ?mk1_Sheaf ?mk3_Sheaf ?mk4_Sheaf ?h_at_Sheaf___eq__ ?h_fn_Sheaf___eq__ ?h_at_Sheaf___add__ ?h_fn_Sheaf___add__ ?h_sf_Sheaf
    (case a_InvalidSheaf => k_is)
    (case a_Sheaf => k_is)
    (case a_WornError => k_is)
    (case a_valid_record => k_is)
    (case l_valid_record => k_is)
    (case c_valid_record => k_is)
    (case k_valid_record => k_is)
    (case a__law_cell => k_is)
    (case l__law_cell => k_is)
    (case c__law_cell => k_is)
    (case k__law_cell => k_is)
    (case a__law_draws => k_is)
    (case l__law_draws => k_is)
    (case c__law_draws => k_is)
    (case k__law_draws => k_is)
    (case a__law_shaped => k_is)
    (case l__law_shaped => k_is)
    (case c__law_shaped => k_is)
    (case k__law_shaped => k_is)
    (case a__law_same_rows => k_is)
    (case l__law_same_rows => k_is)
    (case c__law_same_rows => k_is)
    (case k__law_same_rows => k_is)
    (case a_InvalidSheaf___init__ => k_is)
    (case l_InvalidSheaf___init__ => k_is)
    (case c_InvalidSheaf___init__ => k_is)
    (case k_InvalidSheaf___init__ => k_is)
    (case a_Sheaf___len__ => k_is)
    (case l_Sheaf___len__ => k_is)
    (case c_Sheaf___len__ => k_is)
    (case k_Sheaf___len__ => k_is)
    (case a_Sheaf___iter__ => k_is)
    (case l_Sheaf___iter__ => k_is)
    (case c_Sheaf___iter__ => k_is)
    (case k_Sheaf___iter__ => k_is)
    (case a_Sheaf___eq__ => k_is)
    (case l_Sheaf___eq__ => k_is)
    (case c_Sheaf___eq__ => k_is)
    (case k_Sheaf___eq__ => k_is)
    (case a_Sheaf_rows => k_is)
    (case l_Sheaf_rows => k_is)
    (case c_Sheaf_rows => k_is)
    (case k_Sheaf_rows => k_is)
    (case a__law_names => k_is)
    (case l__law_names => k_is)
    (case c__law_names => k_is)
    (case k__law_names => k_is)
    (case a__law_rows => k_is)
    (case l__law_rows => k_is)
    (case c__law_rows => k_is)
    (case k__law_rows => k_is)
    (case a__law_unlike_rows => k_is)
    (case l__law_unlike_rows => k_is)
    (case c__law_unlike_rows => k_is)
    (case k__law_unlike_rows => k_is)
    (case a__law_variant => k_is)
    (case l__law_variant => k_is)
    (case c__law_variant => k_is)
    (case k__law_variant => k_is)
    (case a__law_wide_rows => k_is)
    (case l__law_wide_rows => k_is)
    (case c__law_wide_rows => k_is)
    (case k__law_wide_rows => k_is)
    (case a_Sheaf___init__ => k_is)
    (case l_Sheaf___init__ => k_is)
    (case c_Sheaf___init__ => k_is)
    (case k_Sheaf___init__ => k_is)
    (case a__law_holds => k_is)
    (case l__law_holds => k_is)
    (case c__law_holds => k_is)
    (case k__law_holds => k_is)
    (case a__law_equals => k_is)
    (case l__law_equals => k_is)
    (case c__law_equals => k_is)
    (case k__law_equals => k_is)
    (case a_Sheaf___add__ => k_is)
    (case l_Sheaf___add__ => k_is)
    (case c_Sheaf___add__ => k_is)
    (case k_Sheaf___add__ => k_is)
    (case a__law_sums => k_is)
    (case l__law_sums => k_is)
    (case c__law_sums => k_is)
    (case k__law_sums => k_is)
    (case a_law => k_is)
    (case l_law => k_is)
    (case c_law => k_is)
    (case k_law => k_is)
    (case a__RECORD_SIGNS => k_is)
    (case a__LONGEST_RECORD => k_is)
    (case z_len => k_is)
    (case z_int => k_is)
    (case z_range => k_is)
    (case z_list => k_is)
    (case z_isinstance => k_is)
    (case z_tuple => k_is)
    (case z_str => k_is)
    (case z_bool => k_is)
    (case z_iter => k_is)
    (case z_enumerate => k_is)
    (case z_max => k_is)
    (case z_min => k_is)
    (case xL_InvalidSheaf => k_is)
    (case sa_InvalidSheaf => k_is)
    (case eC_InvalidSheaf => k_is)
    (case tC_InvalidSheaf => k_is)
    (case kC_InvalidSheaf => k_is)
    (case ga_InvalidSheaf => k_is)
    (case gg_InvalidSheaf => k_is)
    (case hC_InvalidSheaf => k_is)
    (case ia_Sheaf => k_is)
    (case in_Sheaf => k_is)
    (case it_Sheaf => k_is)
    (case im_Sheaf => k_is)
    (case h_pg_Sheaf => k_is)
    (case h_hd_Sheaf => k_is)
    (case h_po_Sheaf => k_is)
    (case h_sa_Sheaf => k_is)
    (case h_na_Sheaf__rows => k_is)
    (case h_na_Sheaf__top => k_is)
    (case h_na_Sheaf__bottom => k_is)
    (case h_na_InvalidSheaf_index => k_is)
    (case h_iC_InvalidSheaf => k_is)
    (case h_tI_InvalidSheaf => k_is)
    (case h_at_Sheaf___iter__ => k_is)
    (case h_fn_Sheaf___iter__ => k_is)
    (case h_at_Sheaf___len__ => k_is)
    (case h_fn_Sheaf___len__ => k_is)
    (case mf_Sheaf_rows => k_is)
    (case mk1_Sheaf => k_is)
    (case mk3_Sheaf => k_is)
    (case mk4_Sheaf => k_is)
    (case h_at_Sheaf___eq__ => k_is)
    (case h_fn_Sheaf___eq__ => k_is)
    (case h_at_Sheaf___add__ => k_is)
    (case h_fn_Sheaf___add__ => k_is)
    (case h_sf_Sheaf => k_is)

import PyProof.Rows.All
import Wide.All
import OpenK.AllK
import Wide.FinOn
import HandS.ForMost
import HandS.IsInst
import HandS.StrMore
import HandS.Wide
import HandS.Defaults
import HandS.Flow
import HandS.Walk
import HandS.Evl
import PySem.Challenge.RW_wornsheaf_k01_valid_records
set_option Elab.async false
set_option linter.all false
set_option maxRecDepth 100000
set_option maxHeartbeats 400000
set_option pp.deepTerms false
set_option pp.deepTerms.threshold 20
set_option pp.maxSteps 800
namespace Pf
open PySem PySem.Spec PyProof.Rows L2
def topS (i : Nat) : Stmt := PySem.Challenge.pw_wornsheaf_k01_valid_records.main.body.getD i (.Pass ⟨0, 0, 0, 0⟩)
abbrev s_valid_record : Stmt := topS 3
theorem sc_valid_record : FnScope ["text"] ["text"] (defScope s_valid_record) := ⟨rfl, rfl, rfl, by decide +kernel, rfl, by decide +kernel, by decide +kernel⟩
abbrev s__law_cell : Stmt := topS 5
theorem sc__law_cell : FnScope ["script", "k"] ["script", "k"] (defScope s__law_cell) := ⟨rfl, rfl, rfl, by decide +kernel, rfl, by decide +kernel, by decide +kernel⟩
abbrev s__law_draws : Stmt := topS 6
theorem sc__law_draws : FnScope ["cell", "sizes", "drawn", "left", "packed", "k", "mixed"] ["cell", "sizes"] (defScope s__law_draws) := ⟨rfl, rfl, rfl, by decide +kernel, rfl, by decide +kernel, by decide +kernel⟩
abbrev s__law_is_record : Stmt := topS 8
theorem sc__law_is_record : FnScope ["text", "letters", "character"] ["text"] (defScope s__law_is_record) := ⟨rfl, rfl, rfl, by decide +kernel, rfl, by decide +kernel, by decide +kernel⟩
abbrev s__law_text : Stmt := topS 7
theorem sc__law_text : FnScope ["script", "letters", "others", "drawn", "size", "codes", "text", "place", "code"] ["script"] (defScope s__law_text) := ⟨rfl, rfl, rfl, by decide +kernel, rfl, by decide +kernel, by decide +kernel⟩
abbrev s_law : Stmt := topS 9
theorem sc_law : FnScope ["script", "text", "k", "told"] ["script"] (defScope s_law) := ⟨rfl, rfl, rfl, by decide +kernel, rfl, by decide +kernel, by decide +kernel⟩
--@@PRE
/-! ### steps through a reading -/
theorem same_upd {H : Hp} {p : Addr} {o : HO} (h : H p = none) : Same H (upd H p o) := fun b x e => by
  rw [upd_ne (ne_of_none e h)]
  exact e
theorem szl {n : Nat} (h : n ≤ 1000000) : n < sizeLine := Nat.lt_of_le_of_lt h (by decide)
theorem szle {n : Nat} (h : n ≤ 1000000) : n ≤ sizeLine := Nat.le_of_lt (szl h)
theorem same_updn {H H' : Hp} {o : Addr} {x : HO} (s : Same H H') (n : H o = none) : Same H (upd H' o x) := fun b y e => by
  rw [upd_ne (ne_of_none e n)]
  exact s b y e
theorem iteD {p A B : Prop} [Decidable p] (h1 : p → A) (h2 : ¬ p → B) : if decide p = true then A else B := by
  by_cases h : p
  · rw [if_pos (decide_eq_true h)]; exact h1 h
  · rw [if_neg (by rw [decide_eq_false h]; exact Bool.false_ne_true)]; exact h2 h
theorem iteB {b : Bool} {A B : Prop} (h1 : b = true → A) (h2 : b = false → B) : if b = true then A else B := by
  cases b with
  | true => exact iteT (h1 rfl)
  | false => exact iteF (h2 rfl)
theorem iteN {p A B : Prop} [Decidable p] (h1 : ¬ p → A) (h2 : p → B) : if (!decide p) = true then A else B := by
  by_cases h : p
  · rw [decide_eq_true h]; exact iteF (h2 h)
  · rw [decide_eq_false h]; exact iteT (h1 h)
/-! ### lists of ints -/
theorem at_map {ns : List Int} {k : Int} (h0 : 0 ≤ k) (h1 : k < (ns.length : Int)) : ∃ n ∈ ns, ns[k.toNat]? = some n ∧ atI (ns.map V.int) k = some (.int n) := by
  have hk : k.toNat < ns.length := by omega
  refine ⟨ns[k.toNat], List.getElem_mem hk, List.getElem?_eq_getElem hk, ?_⟩
  have e : ((k.toNat : Nat) : Int) = k := by omega
  have h := atI_nat (xs := ns.map V.int) (j := k.toNat) (v := .int ns[k.toNat]) (by rw [List.getElem?_map, List.getElem?_eq_getElem hk]; rfl)
  rw [e] at h
  exact h
/-- drawn numbers: as many as sizes, each from 0 to below its size -/
def InB : List Int → List Int → Prop
  | [], [] => True
  | d :: ds, s :: ss => (0 ≤ d ∧ d < s) ∧ InB ds ss
  | _, _ => False
theorem InB.snoc : ∀ {ds ss : List Int} {d s : Int}, InB ds ss → 0 ≤ d → d < s → InB (ds ++ [d]) (ss ++ [s])
  | [], [], _, _, _, h0, h1 => ⟨⟨h0, h1⟩, trivial⟩
  | _ :: _, _ :: _, _, _, h, h0, h1 => ⟨h.1, InB.snoc h.2 h0 h1⟩
  | [], _ :: _, _, _, h, _, _ => h.elim
  | _ :: _, [], _, _, h, _, _ => h.elim
theorem InB.len : ∀ {ds ss : List Int}, InB ds ss → ds.length = ss.length
  | [], [], _ => rfl
  | _ :: _, _ :: _, h => by simp [InB.len h.2]
  | [], _ :: _, h => h.elim
  | _ :: _, [], h => h.elim
theorem InB.rep {n : Nat} {s : Int} : ∀ {ds : List Int}, InB ds (List.replicate n s) → ds.length = n ∧ ∀ d ∈ ds, 0 ≤ d ∧ d < s := by
  induction n with
  | zero => intro ds h; cases ds with
    | nil => exact ⟨rfl, by simp⟩
    | cons d r => exact h.elim
  | succ n ih => intro ds h; cases ds with
    | nil => exact h.elim
    | cons d r =>
      have h2 : (0 ≤ d ∧ d < s) ∧ InB r (List.replicate n s) := h
      obtain ⟨h3, h4⟩ := ih h2.2
      refine ⟨by simp [h3], ?_⟩
      intro x hx
      rcases List.mem_cons.mp hx with rfl | hx
      · exact h2.1
      · exact h4 x hx
theorem take_snoc {ss : List Int} {i : Nat} {s : Int} (h : ss[i]? = some s) : ss.take (i + 1) = ss.take i ++ [s] := by
  rw [List.take_add_one, h]
  rfl
theorem InB.cons {ds ss : List Int} {s : Int} (h : InB ds (s :: ss)) : ∃ d r, ds = d :: r ∧ 0 ≤ d ∧ d < s ∧ InB r ss := by
  cases ds with
  | nil => exact h.elim
  | cons d r => exact ⟨d, r, rfl, h.1.1, h.1.2, h.2⟩
theorem InB.nil {ds : List Int} (h : InB ds []) : ds = [] := by
  cases ds with
  | nil => rfl
  | cons d r => exact h.elim
theorem rep_flat (v : V) : ∀ n : Nat, (List.replicate n [v]).flatten = List.replicate n v
  | 0 => rfl
  | n + 1 => by rw [List.replicate_succ, List.flatten_cons, rep_flat v n]; rfl
theorem rep_ints (s : Int) (n : Nat) : (List.replicate n [V.int s]).flatten = (List.replicate n s).map V.int := by rw [rep_flat, List.map_replicate]
theorem rep_ok {s : Int} {n : Nat} (h0 : 0 < s) (h1 : s < 1073741824) : ∀ x ∈ List.replicate n s, 0 < x ∧ x < 1073741824 := fun x hx => by
  rw [(List.mem_replicate.mp hx).2]
  exact ⟨h0, h1⟩
/-- a list that a comprehension has built so far: i items, each the value of some b with P -/
def Built {α : Type} (f : α → V) (Pb : Nat → α → Prop) (H1 : Hp) (D : Addr) (i : Nat) (H : Hp) : Prop :=
  Same H1 H ∧ ∃ ys : List α, H D = some (.lst (ys.map f)) ∧ ys.length = i ∧ ∀ j b, ys[j]? = some b → Pb j b
theorem Built.start {α : Type} {f : α → V} {Pb : Nat → α → Prop} {H1 : Hp} {D : Addr} (n : H1 D = none) : Built f Pb H1 D 0 (upd H1 D (.lst [])) :=
  ⟨same_upd n, [], upd_same, rfl, fun j b h => by simp at h⟩
theorem Built.more {α : Type} {f : α → V} {Pb : Nat → α → Prop} {H1 H : Hp} {D : Addr} {i : Nat} {ys : List α} {b : α} (n : H1 D = none) (s : Same H1 H) (e : ys.length = i) (h : ∀ j b, ys[j]? = some b → Pb j b) (hb : Pb i b) :
    Built f Pb H1 D (i + 1) (upd H D (.lst (ys.map f ++ [f b]))) := by
  refine ⟨same_updn s n, ys ++ [b], by rw [upd_same, List.map_append]; rfl, by rw [List.length_append, e]; rfl, fun j c hc => ?_⟩
  by_cases hj : j < ys.length
  · rw [List.getElem?_append_left hj] at hc
    exact h j c hc
  · rw [List.getElem?_append_right (by omega)] at hc
    by_cases hz : j - ys.length = 0
    · rw [hz] at hc
      have e2 : b = c := Option.some.inj hc
      have e3 : j = i := by omega
      rw [← e2, e3]
      exact hb
    · have e2 : j - ys.length = (j - ys.length - 1) + 1 := by omega
      rw [e2] at hc
      cases hc
theorem joinL_len : ∀ ps : List (List Nat), (TL.joinL [] ps).length = (ps.map (·.length)).sum
  | [] => rfl
  | [p] => by show p.length = ([p.length] : List Nat).sum; simp
  | p :: q :: r => by
    show (p ++ ([] ++ TL.joinL [] (q :: r))).length = _
    rw [List.nil_append, List.length_append, joinL_len (q :: r), List.map_cons (l := q :: r), List.sum_cons]
theorem join_len (ys : List Str) : (Txt.join ("" : Str) ys).length = (ys.map (·.length)).sum := by
  have e0 : TL.tl ("" : Str) = [] := by decide +kernel
  have h : ∀ z : Str, z.length = (TL.tl z).length := fun z => by simp [Str.length, TL.tl]
  rw [h, TL.join_eq, TL.tl_join, e0, joinL_len, List.map_map]
  congr 1
theorem ones_sum : ∀ {ys : List Str}, (∀ (j : Nat) (y : Str), ys[j]? = some y → y.length = 1) → (ys.map (·.length)).sum = ys.length
  | [], _ => rfl
  | y :: r, h => by
    rw [List.map_cons, List.sum_cons, ones_sum fun j x hx => h (j + 1) x hx, h 0 y rfl, List.length_cons]
    omega
theorem empty_len : ("" : Str).length = 0 := by decide +kernel

--@@MAC
local macro_rules | `(tactic| walk_at "ne") => `(tactic| first
  | assumption | exact Ne.symm (by assumption) | exact ne_of_none (by assumption) (by assumption) | exact Ne.symm (ne_of_none (by assumption) (by assumption)))
local macro_rules | `(tactic| walk_at "hp") => `(tactic| first
  | assumption | exact upd_same
  | ((with_reducible show upd _ _ _ _ = _); refine Eq.trans (upd_ne (by walk_at "ne")) ?_; walk_at "hp"))
local macro_rules | `(tactic| walk_at "sq") => `(tactic| first
  | assumption | exact SqL.of (by walk_at "hp") | exact SqT.of (by walk_at "hp")
  | exact Same.seq (by assumption) (by assumption)
  | exact Same.seq (same_updn (by assumption) (by assumption)) (by assumption))
local macro_rules | `(tactic| walk_at "leaf") => `(tactic| first
  | exact rfl | assumption | exact Exists.intro _ rfl | walk_at "hp" | walk_at "sq" | (refine Or.inl ?_; walk_at "sq") | (refine Or.inr ?_; walk_at "sq") | decide | omega | (simp only [List.length_map]; omega) | (refine szl ?_; (try simp only [List.length_map]); omega)
  | exact Or.inl ⟨rfl, _, SqL.of (by walk_at "hp")⟩
  | exact Exists.intro _ (by walk_at "sq")
  | exact Or.inl ⟨rfl, _, by walk_at "sq"⟩
  | (show (0 : Int) < _; first | assumption | decide | omega)
  | exact Or.inl (And.intro (by omega) (by omega))
  | exact And.intro (by omega) (by omega)
  | exact szle (by (try simp only [List.length_cons, List.length_nil, List.length_map, List.length_replicate]); omega)
  | exact szle (by decide +kernel))
local macro_rules | `(tactic| walk_at "noloop") => `(tactic| (
  (fail_if_success (refine (show Exists (α := L2.St → Hp → Prop) _ from ?_)));
  (fail_if_success (refine (show Exists (α := Nat → Nat → L2.St → Hp → Prop) _ from ?_)));
  (fail_if_success (refine (show Exists (α := Nat → Nat → Hp → Prop) _ from ?_)));
  (fail_if_success (refine (show Exists (α := Nat → L2.St → Hp → Prop) _ from ?_)))))
local macro_rules | `(tactic| walk_at "isi") => `(tactic| first
  | refine And.intro (ClsV.ty _) (And.intro (TyX.base (TyOf.bl _)) (And.intro (kit_ty (r := true) (by decide +kernel)) ?_))
  | refine And.intro (ClsV.ty _) (And.intro (TyX.base (TyOf.bl _)) (And.intro (kit_ty (r := false) (by decide +kernel)) ?_))
  | refine And.intro (ClsV.ty _) (And.intro (TyX.base (TyOf.int _)) (And.intro (kit_ty (r := true) (by decide +kernel)) ?_))
  | refine And.intro (ClsV.ty _) (And.intro (TyX.base (TyOf.int _)) (And.intro (kit_ty (r := false) (by decide +kernel)) ?_))
  | refine And.intro (ClsV.ty _) (And.intro (TyX.base (TyOf.str _)) (And.intro (kit_ty (r := true) (by decide +kernel)) ?_))
  | refine And.intro (ClsV.ty _) (And.intro (TyX.base (TyOf.str _)) (And.intro (kit_ty (r := false) (by decide +kernel)) ?_))
  | refine And.intro (ClsV.ty _) (And.intro (TyX.base TyOf.non) (And.intro (kit_ty (r := true) (by decide +kernel)) ?_))
  | refine And.intro (ClsV.ty _) (And.intro (TyX.base TyOf.non) (And.intro (kit_ty (r := false) (by decide +kernel)) ?_)))
local macro_rules | `(tactic| walk_at "g1") => `(tactic| first
  | (refine And.intro (by walk_at "leaf") ?_) | with_reducible refine iteT ?_ | with_reducible refine iteF ?_ | (walk_at "noloop"; apply Exists.intro) | walk_at "isi" | (refine Or.inl (Exists.intro _ (And.intro rfl ?_))))
local macro_rules | `(tactic| walk_at "go") => `(tactic| repeat' (walk_at "g1"))

--@@ENV
structure Env (K : PySem.W.Frag) (mg : Str → Option Value) where
  f_valid_record : Addr
  d_valid_record : FuncData
  F_valid_record : Fun K "valid_record" "valid_record" s_valid_record f_valid_record d_valid_record
  b_valid_record : Binds K d_valid_record ["text"] []
  g_valid_record : mg "valid_record" = some (.ref f_valid_record)
  f__law_cell : Addr
  d__law_cell : FuncData
  F__law_cell : Fun K "_law_cell" "_law_cell" s__law_cell f__law_cell d__law_cell
  b__law_cell : Binds K d__law_cell ["script", "k"] []
  g__law_cell : mg "_law_cell" = some (.ref f__law_cell)
  f__law_draws : Addr
  d__law_draws : FuncData
  F__law_draws : Fun K "_law_draws" "_law_draws" s__law_draws f__law_draws d__law_draws
  b__law_draws : Binds K d__law_draws ["cell", "sizes"] []
  g__law_draws : mg "_law_draws" = some (.ref f__law_draws)
  f__law_is_record : Addr
  d__law_is_record : FuncData
  F__law_is_record : Fun K "_law_is_record" "_law_is_record" s__law_is_record f__law_is_record d__law_is_record
  b__law_is_record : Binds K d__law_is_record ["text"] []
  g__law_is_record : mg "_law_is_record" = some (.ref f__law_is_record)
  f__law_text : Addr
  d__law_text : FuncData
  F__law_text : Fun K "_law_text" "_law_text" s__law_text f__law_text d__law_text
  b__law_text : Binds K d__law_text ["script"] []
  g__law_text : mg "_law_text" = some (.ref f__law_text)
  f_law : Addr
  d_law : FuncData
  F_law : Fun K "law" "law" s_law f_law d_law
  b_law : Binds K d_law ["script"] []
  g_law : mg "law" = some (.ref f_law)
  t__RECORD_SIGNS : Tok
  g__RECORD_SIGNS : mg "_RECORD_SIGNS" = some (.str "abcdefghijklmnopqrstuvwxyz0123456789" t__RECORD_SIGNS)
  t__LONGEST_RECORD : Tok
  g__LONGEST_RECORD : mg "_LONGEST_RECORD" = some (.int 8 t__LONGEST_RECORD)
  n_len : mg "len" = none
  n_int : mg "int" = none
  n_range : mg "range" = none
  n_isinstance : mg "isinstance" = none
  n_bool : mg "bool" = none
section
variable {P : Program} {w : World} {K : PySem.W.Frag} {mg : Str → Option Value} {base : Heap}
--@@DEF valid_record
theorem tw_all {p : Nat → Bool} : ∀ {l : List Nat}, l.all p = true → l.takeWhile p = l
  | [], _ => rfl
  | c :: r, h => by
    rw [List.all_cons, Bool.and_eq_true] at h
    rw [List.takeWhile_cons, if_pos h.1, tw_all h.2]
theorem tw_split {p : Nat → Bool} : ∀ {l : List Nat}, l.all p = false → ∃ pre c post, l = pre ++ c :: post ∧ l.takeWhile p = pre ∧ p c = false
  | [], h => by simp at h
  | c :: r, h => by
    cases hc : p c with
    | false => exact ⟨[], c, r, rfl, by rw [List.takeWhile_cons, if_neg (by simp [hc])], hc⟩
    | true =>
      rw [List.all_cons, hc, Bool.true_and] at h
      obtain ⟨pre, d, post, e1, e2, e3⟩ := tw_split h
      exact ⟨c :: pre, d, post, by rw [e1]; rfl, by rw [List.takeWhile_cons, if_pos hc, e2], e3⟩
theorem tw_last {p : Nat → Bool} {c : Nat} (h : p c = false) : ∀ m : List Nat, ((m ++ [c]).takeWhile p).length ≤ m.length
  | [] => by simp [List.takeWhile_cons, h]
  | d :: m => by
    rw [List.cons_append, List.takeWhile_cons]
    split
    · simpa using tw_last h m
    · simp
theorem strip_none {p : Nat → Bool} (z : Str) : (Txt.stripBy p true true z = ⟨#[]⟩) ↔ z.cps.toList.all p = true := by
  obtain ⟨⟨l⟩⟩ := z
  unfold Txt.stripBy stripSame stripped stripLo stripHi Str.length
  simp only [if_true, List.size_toArray]
  show _ ↔ l.all p = true
  cases h : l.all p with
  | true =>
    rw [tw_all h]
    simp only [List.drop_length, List.reverse_nil, List.takeWhile_nil, List.length_nil, Nat.sub_zero, beq_self_eq_true, Bool.and_true, iff_true]
    split
    · rename_i e
      have e := eq_of_beq e
      have e2 : l = [] := List.length_eq_zero_iff.mp e
      rw [e2]
    · unfold Builtin.Str.strSub
      simp
  | false =>
    obtain ⟨pre, c, post, e1, e2, e3⟩ := tw_split h
    rw [e2]
    have e4 : l.drop pre.length = c :: post := by rw [e1]; simp
    rw [e4, List.reverse_cons]
    have e5 := tw_last e3 post.reverse
    rw [List.length_reverse] at e5
    have e6 : l.length = pre.length + 1 + post.length := by rw [e1]; simp; omega
    simp only [Bool.false_eq_true, iff_false]
    split
    · intro z
      have z := congrArg (fun s : Str => s.cps.size) z
      simp at z
      have z2 : l.length = 0 := by rw [z]; rfl
      omega
    · intro z
      have z := congrArg (fun s : Str => s.cps.size) z
      unfold Builtin.Str.strSub at z
      simp at z
      rcases z with z | z
      · rw [e6] at z
        omega
      · omega
def signs : List Nat := ("abcdefghijklmnopqrstuvwxyz0123456789" : Str).cps.toList
/-- a valid record -/
def isRec (z : Str) : Bool := decide (1 ≤ z.length) && (decide (z.length ≤ 8) && z.cps.toList.all fun c => decide (c ∈ signs))
theorem strip_rec (z : Str) : decide (V.str (Txt.stripChars z ("abcdefghijklmnopqrstuvwxyz0123456789" : Str)) = V.str ("" : Str)) = z.cps.toList.all fun c => decide (c ∈ signs) := by
  have e := strip_none (p := ("abcdefghijklmnopqrstuvwxyz0123456789" : Str).cps.contains) z
  have e0 : ("" : Str) = ⟨#[]⟩ := by decide +kernel
  have e1 : (fun c => decide (c ∈ signs)) = ("abcdefghijklmnopqrstuvwxyz0123456789" : Str).cps.contains := by
    funext c
    unfold signs
    rw [Bool.eq_iff_iff]
    simp
  rw [e1, e0]
  unfold Txt.stripChars
  cases h : z.cps.toList.all ("abcdefghijklmnopqrstuvwxyz0123456789" : Str).cps.contains with
  | true =>
    rw [e.mpr h]
    exact decide_eq_true rfl
  | false =>
    refine decide_eq_false fun q => ?_
    have q := e.mp (V.str.inj q)
    rw [h] at q
    cases q
def sp_valid_record (K : PySem.W.Frag) : Sp := fun vs H Q _ => ∃ z : Str, vs = [.str z] ∧ z.length ≤ sizeLine ∧ Q (.bl (isRec z)) H
theorem ok_valid_record (T : Env K mg) : FnOk P w K mg base CX0 1 T.f_valid_record T.d_valid_record ["text"] (sp_valid_record K) := by
  refine T.F_valid_record.ok sc_valid_record (fun vs H Q E h => ?_) (fun cdv A outer s H vs Q E hr h => ?_)
  · obtain ⟨z, rfl, hl, q⟩ := h
    rfl
  · obtain ⟨z, rfl, hl, q⟩ := h
    refine ⟨_, (pss_one (ps_ret (pe_and (pe_chain op_le op_le pe_int (pe_callB call_len_str (by rfl) T.n_len (by decide +kernel) (pa_cons (pv 0) pa_nil)) (pe_glob (v := .int 8) (by rfl) T.g__LONGEST_RECORD ⟨_, rfl⟩)) (pe_one (pe_cmpR op_eq (pe_bm PySem.F.plainAttrs_str PySem.F.slot_str_strip PySem.F.type_str_strip mt_stripChars (pv 0) (pa_cons (pe_glob (v := .str "abcdefghijklmnopqrstuvwxyz0123456789") (by rfl) T.g__RECORD_SIGNS ⟨_, rfl⟩) pa_nil)) pe_str (nomark _)))))), ?_⟩
    unfold isRec at q
    walk_at "go"
    refine iteD (fun e => ?_) (fun e => ?_)
    · rw [show decide (1 ≤ z.length) = true from decide_eq_true (by omega)] at q
      walk_at "go"
      refine iteD (fun e2 => ?_) (fun e2 => ?_)
      · rw [show decide (z.length ≤ 8) = true from decide_eq_true (by omega), ← strip_rec] at q
        walk_at "go"
        exact q
      · rw [show decide (z.length ≤ 8) = false from decide_eq_false (by omega)] at q
        exact q
    · rw [show decide (1 ≤ z.length) = false from decide_eq_false (by omega)] at q
      walk_at "go"
      exact q
--@@DEF _law_cell
def sp__law_cell (K : PySem.W.Frag) : Sp := fun vs H Q _ => ∃ (a : Addr) (ns : List Int) (k : Int), vs = [.ref a, .int k] ∧ SqL K H a (ns.map V.int) ∧ 0 ≤ k ∧ ns.length ≤ 63 ∧ ∀ n, Q (.int n) H
theorem ok__law_cell (T : Env K mg) : FnOk P w K mg base CX0 1 T.f__law_cell T.d__law_cell ["script", "k"] (sp__law_cell K) := by
  refine T.F__law_cell.ok sc__law_cell (fun vs H Q E h => ?_) (fun cdv A outer s H vs Q E hr h => ?_)
  · obtain ⟨a, ns, k, rfl, hS, hk, hlen, q⟩ := h
    rfl
  · obtain ⟨a, ns, k, rfl, hS, hk, hlen, q⟩ := h
    refine ⟨_, (pss_cons (ps_if (pt_cmpR op_lt (pv 1) (pe_callB call_len_seq (by rfl) T.n_len (by decide +kernel) (pa_cons (pv 0) pa_nil)) (nomark _))
        (pss_one (ps_ret (pe_callTy call_int1 (by rfl) T.n_int (by decide +kernel) (pa_cons (pe_ix ix_list (pv 0) (pv 1) (fun _ _ => rfl)) pa_nil))))
        pss_nil)
      (pss_one (ps_ret pe_int))), ?_⟩
    walk_at "go"
    refine ite2 (fun e => ?_) (fun e => ?_)
    · have e := of_decide_eq_true e
      rw [List.length_map] at e
      obtain ⟨n, _, _, hn⟩ := at_map hk e
      walk_at "go"
      exact q _
    · exact q _
--@@DEF _law_draws
def sp__law_draws (K : PySem.W.Frag) : Sp := fun vs H Q _ => ∃ (c : Int) (a : Addr) (ss : List Int), vs = [.int c, .ref a] ∧ SqL K H a (ss.map V.int) ∧ ss.length ≤ 1000000 ∧ (∀ s ∈ ss, 0 < s ∧ s < 1073741824) ∧
  ∀ H' p ds, Same H H' → H p = none → H' p = some (.lst (ds.map V.int)) → InB ds ss → Q (.ref p) H'
theorem turn_draws {H H' : Hp} {o : Addr} {ds ss : List Int} {i : Nat} {s d : Int} (sm : Same H H') (no : H o = none) (ho : H' o = some (.lst (ds.map V.int))) (hd : InB ds (ss.take i)) (hi : ss[i]? = some s) (h0 : 0 ≤ d) (h1 : d < s) :
    Same H (upd H' o (.lst (ds.map V.int ++ [V.int d]))) ∧ upd H' o (.lst (ds.map V.int ++ [V.int d])) o = some (.lst ((ds ++ [d]).map V.int)) ∧ InB (ds ++ [d]) (ss.take (i + 1)) :=
  ⟨same_updn sm no, by rw [upd_same, List.map_append]; rfl, by rw [take_snoc hi]; exact hd.snoc h0 h1⟩
theorem ok__law_draws (T : Env K mg) : FnOk P w K mg base CX0 1 T.f__law_draws T.d__law_draws ["cell", "sizes"] (sp__law_draws K) := by
  refine T.F__law_draws.ok sc__law_draws (fun vs H Q E h => ?_) (fun cdv A outer s H vs Q E hr h => ?_)
  · obtain ⟨c, a, ss, rfl, hS, hlen, hs, q⟩ := h
    rfl
  · obtain ⟨c, a, ss, rfl, hS, hlen, hs, q⟩ := h
    refine ⟨_, (pss_cons (ps_set (i := 2) sc__law_draws.nd rfl (Or.inl rfl) (pe_lst pa_nil))
      (pss_cons (ps_set (i := 3) sc__law_draws.nd rfl (Or.inl rfl) (pe_callTy call_int1 (by rfl) T.n_int (by decide +kernel) (pa_cons (pv 0) pa_nil)))
      (pss_cons (ps_set (i := 4) sc__law_draws.nd rfl (Or.inl rfl) (pe_cmpR op_ge (pv 3) (pe_op op_pow pe_int pe_int) (nomark _)))
      (pss_cons (ps_for PassesOwn.never rfl (pi_range1 (by rfl) T.n_range (pa_cons (pe_callB call_len_seq (by rfl) T.n_len (by decide +kernel) (pa_cons (pv 1) pa_nil)) pa_nil)) (pg_name (i := 5) sc__law_draws.nd rfl (Or.inl rfl))
        (pss_one (ps_if (PW.pt (pw_and (pt_val (pv 4)) (pw_and1 (pt_cmpR op_gt (pv 3) pe_int (nomark _)))))
          (pss_cons (ps_expr (pe_bm PySem.F.plainAttrs_list PySem.F.slot_list_append PySem.F.type_list_append mt_append (pv 2) (pa_cons (pe_op op_mod (pe_callTy call_int1 (by rfl) T.n_int (by decide +kernel) (pa_cons (pv 3) pa_nil)) (pe_ix ix_list (pv 1) (pv 5) (fun _ _ => rfl))) pa_nil)))
          (pss_one (ps_set (i := 3) sc__law_draws.nd rfl (Or.inl rfl) (pe_op op_fdiv (pe_callTy call_int1 (by rfl) T.n_int (by decide +kernel) (pa_cons (pv 3) pa_nil)) (pe_ix ix_list (pv 1) (pv 5) (fun _ _ => rfl))))))
          (pss_cons (ps_set (i := 6) sc__law_draws.nd rfl (Or.inl rfl) (pe_op op_mod (pe_callTy call_int1 (by rfl) T.n_int (by decide +kernel) (pa_cons (pe_op op_add (pe_op op_add (pv 0) (pe_op op_mul pe_int (pv 5))) pe_int) pa_nil)) pe_int))
          (pss_cons (ps_set (i := 6) sc__law_draws.nd rfl (Or.inl rfl) (pe_op op_mod (pe_callTy call_int1 (by rfl) T.n_int (by decide +kernel) (pa_cons (pe_op op_mul (pv 6) (pe_op op_add (pv 6) pe_int)) pa_nil)) pe_int))
          (pss_cons (ps_set (i := 6) sc__law_draws.nd rfl (Or.inl rfl) (pe_op op_mod (pe_callTy call_int1 (by rfl) T.n_int (by decide +kernel) (pa_cons (pe_op op_add (pe_op op_mul (pv 6) (pe_op op_add (pv 6) pe_int)) (pe_op op_mul pe_int (pv 5))) pa_nil)) pe_int))
          (pss_one (ps_expr (pe_bm PySem.F.plainAttrs_list PySem.F.slot_list_append PySem.F.type_list_append mt_append (pv 2) (pa_cons (pe_op op_mod (pe_callTy call_int1 (by rfl) T.n_int (by decide +kernel) (pa_cons (pe_op op_fdiv (pv 6) pe_int) pa_nil)) (pe_ix ix_list (pv 1) (pv 5) (fun _ _ => rfl))) pa_nil))))))))))
      (pss_one (ps_ret (pv 2))))))), ?_⟩
    walk_at "go"
    intro o no
    have s1 : Same H (upd H o (.lst [])) := same_upd no
    walk_at "go"
    refine for_range (fun i σ H' => ∃ (k x : Option V) (left : Int) (b : Bool) (ds : List Int), σ = [some (.int c), some (.ref a), some (.ref o), some (.int left), some (.bl b), k, x] ∧ Same H H' ∧ H' o = some (.lst (ds.map V.int)) ∧ InB ds (ss.take i))
      ⟨none, none, _, _, [], rfl, s1, upd_same, trivial⟩ ?_ ?_
    · rintro i σ H' hi ⟨k, x, left, b, ds, rfl, sm, ho, hd⟩
      rw [List.length_map, Int.toNat_natCast] at hi
      have hS' : SqL K H' a (ss.map V.int) := sm.seq hS
      obtain ⟨s, hm, hi2, hat⟩ := at_map (ns := ss) (k := 0 + (i : Int)) (by omega) (by omega)
      have hi3 : ss[i]? = some s := by
        have e : (0 + (i : Int)).toNat = i := by omega
        rw [e] at hi2
        exact hi2
      obtain ⟨hs0, hs1⟩ := hs s hm
      have hdl := hd.len
      have hdl2 : ds.length ≤ 1000000 := by rw [hdl, List.length_take]; omega
      have key : ∀ z : Int, 0 ≤ z % s ∧ z % s < s := fun z => ⟨Int.emod_nonneg z (by omega), Int.emod_lt_of_pos z hs0⟩
      have app : ∀ z : Int, Same H (upd H' o (.lst (ds.map V.int ++ [V.int (z % s)]))) ∧ upd H' o (.lst (ds.map V.int ++ [V.int (z % s)])) o = some (.lst ((ds ++ [z % s]).map V.int)) ∧ InB (ds ++ [z % s]) (ss.take (i + 1)) := fun z =>
        turn_draws sm no ho hd hi3 (key z).1 (key z).2
      walk_at "go"
      cases b with
      | true =>
        walk_at "go"
        refine ite2 (fun e => ?_) (fun e => ?_)
        · walk_at "go"
          exact ⟨(app _).1, (app _).2.1, (app _).2.2⟩
        · walk_at "go"
          exact ⟨(app _).1, (app _).2.1, (app _).2.2⟩
      | false =>
        walk_at "go"
        exact ⟨(app _).1, (app _).2.1, (app _).2.2⟩
    · rintro σ H' ⟨k, x, left, b, ds, rfl, sm, ho, hd⟩
      walk_at "go"
      refine q H' o ds sm no ho ?_
      rw [List.length_map, Int.toNat_natCast, List.take_length] at hd
      exact hd
--@@DEF _law_is_record
def sp__law_is_record (K : PySem.W.Frag) : Sp := fun vs H Q _ => ∃ z : Str, vs = [.str z] ∧ z.length ≤ sizeLine ∧ Q (.bl (isRec z)) H
theorem ok__law_is_record (T : Env K mg) : FnOk P w K mg base CX0 1 T.f__law_is_record T.d__law_is_record ["text"] (sp__law_is_record K) := by
  refine T.F__law_is_record.ok sc__law_is_record (fun vs H Q E h => ?_) (fun cdv A outer s H vs Q E hr h => ?_)
  · obtain ⟨z, rfl, hl, q⟩ := h
    rfl
  · obtain ⟨z, rfl, hl, q⟩ := h
    refine ⟨_, (pss_cons (ps_set (i := 1) sc__law_is_record.nd rfl (Or.inl rfl) pe_str)
      (pss_cons (ps_for PassesOwn.never rfl (pi_str (pv 0)) (pg_name (i := 2) sc__law_is_record.nd rfl (Or.inl rfl))
        (pss_one (ps_if (pt_cmpR op_notIn_sign (pv 2) (pv 1) rfl)
          (pss_one (ps_ret pe_bl))
          pss_nil)))
      (pss_one (ps_ret (pe_and (pe_cmpR op_ge (pe_callB call_len_str (by rfl) T.n_len (by decide +kernel) (pa_cons (pv 0) pa_nil)) pe_int (nomark _)) (pe_one (pe_cmpR op_le (pe_callB call_len_str (by rfl) T.n_len (by decide +kernel) (pa_cons (pv 0) pa_nil)) pe_int (nomark _)))))))), ?_⟩
    walk_at "go"
    refine for_it walk_str (fun i σ H' => H' = H ∧ (∃ x, σ = [some (.str z), some (.str ("abcdefghijklmnopqrstuvwxyz0123456789" : Str)), x]) ∧ (z.cps.toList.take i).all (fun c => decide (c ∈ signs)) = true)
      ⟨rfl, ⟨none, rfl⟩, rfl⟩ (fun _ _ _ _ _ => trivial) ?_ ?_
    · rintro i v σ H' H2 hi ⟨rfl, ⟨x, rfl⟩, ha⟩ ⟨rfl, c, hc, rfl⟩
      have hc2 : z.cps.toList[i]? = some c := by rw [Array.getElem?_toList]; exact hc
      walk_at "go"
      refine iteN (fun e => ?_) (fun e => ?_)
      · have e : ¬ c ∈ signs := e
        walk_at "go"
        have e2 : isRec z = false := by
          have e3 : (z.cps.toList.all fun c => decide (c ∈ signs)) = false := by
            rw [List.all_eq_false]
            exact ⟨c, List.mem_of_getElem? hc2, by rw [decide_eq_false e]; exact Bool.false_ne_true⟩
          unfold isRec
          rw [e3, Bool.and_false, Bool.and_false]
        rw [e2] at q
        exact q
      · have e : c ∈ signs := e
        refine ⟨rfl, ⟨_, rfl⟩, ?_⟩
        rw [List.take_add_one, List.all_append, ha, hc2]
        show (decide (c ∈ signs) && true) = true
        rw [decide_eq_true e]
        rfl
    · rintro σ H' ⟨rfl, ⟨x, rfl⟩, ha⟩
      have e3 : (z.cps.toList.all fun c => decide (c ∈ signs)) = true := by
        rw [← Array.length_toList, List.take_length] at ha
        exact ha
      unfold isRec at q
      rw [e3] at q
      walk_at "go"
      refine iteD (fun e => ?_) (fun e => ?_)
      · rw [show decide (1 ≤ z.length) = true from decide_eq_true (by omega), Bool.and_true, Bool.true_and] at q
        walk_at "go"
        rw [show decide (z.length ≤ 8) = decide ((z.length : Int) ≤ 8) from decide_eq_decide.mpr (by omega)] at q
        exact q
      · rw [show decide (1 ≤ z.length) = false from decide_eq_false (by omega)] at q
        exact q
--@@DEF _law_text
abbrev LET : Str := "abcdefghijklmnopqrstuvwxyz0123456789"
abbrev OTH : Str := " \n!\"#$&'()*+,-./:;<=>?@ABCDEFGHIJKLMNOPQRSTUVWXYZ[\\]^_`{|}~"
theorem let_len : LET.length = 36 := by decide +kernel
theorem oth_len : OTH.length = 59 := by decide +kernel
theorem both_len : (LET ++ OTH).length = 95 := by decide +kernel
/-- a sign of a text by its place -/
theorem sign_at {z : Str} {k : Int} (h0 : 0 ≤ k) (h1 : k < (z.length : Int)) : ∃ c, atI z.cps.toList k = some c := by
  have hk : k.toNat < z.cps.toList.length := by have e : z.cps.toList.length = z.length := by simp [Str.length]
                                                omega
  have e : ((k.toNat : Nat) : Int) = k := by omega
  have h := atI_nat (xs := z.cps.toList) (j := k.toNat) (List.getElem?_eq_getElem hk)
  rw [e] at h
  exact ⟨_, h⟩
def sp__law_text (K : PySem.W.Frag) : Sp := fun vs H Q _ => ∃ (a : Addr) (ns : List Int), vs = [.ref a] ∧ SqL K H a (ns.map V.int) ∧ ns.length ≤ 63 ∧ ∀ z H', z.length ≤ 1000 → Q (.str z) H'
theorem ok__law_text (T : Env K mg) : FnOk P w K mg base CX0 2 T.f__law_text T.d__law_text ["script"] (sp__law_text K) := by
  refine T.F__law_text.ok sc__law_text (fun vs H Q E h => ?_) (fun cdv A outer s H vs Q E hr h => ?_)
  · obtain ⟨a, ns, rfl, hS, hlen, q⟩ := h
    rfl
  · obtain ⟨a, ns, rfl, hS, hlen, q⟩ := h
    refine ⟨_, (pss_cons (ps_set (i := 1) sc__law_text.nd rfl (Or.inr rfl) pe_str)
      (pss_cons (ps_set (i := 2) sc__law_text.nd rfl (Or.inr rfl) pe_str)
      (pss_cons (ps_set (i := 3) sc__law_text.nd rfl (Or.inl rfl) (pe_call (ok__law_draws T) hr (by rfl) T.g__law_draws T.F__law_draws.kp T.b__law_draws .nil pass0 (pa_cons (pe_call (ok__law_cell T) hr (by rfl) T.g__law_cell T.F__law_cell.kp T.b__law_cell .nil pass0 (pa_cons (pv 0) (pa_cons pe_int pa_nil))) (pa_cons (pe_lst (pa_cons pe_int (pa_cons pe_int (pa_cons pe_int (pa_cons pe_int (pa_cons pe_int (pa_cons pe_int pa_nil))))))) pa_nil))))
      (pss_cons (ps_set (i := 4) sc__law_text.nd rfl (Or.inl rfl) (pe_ix ix_list (pv 3) pe_int (fun _ _ => rfl)))
      (Evl.pss_cut (ps_if (pt_cmpR op_eq (pe_ix ix_list (pv 3) pe_int (fun _ _ => rfl)) pe_int (nomark _))
        (pss_one (ps_set (i := 4) sc__law_text.nd rfl (Or.inl rfl) (pe_ix ix_list (pv 3) pe_int (fun _ _ => rfl))))
        pss_nil)
      (pss_cons (ps_if (pt_cmpR op_eq (pe_ix ix_list (pv 3) pe_int (fun _ _ => rfl)) pe_int (nomark _))
        (pss_cons (ps_set (i := 5) sc__law_text.nd rfl (Or.inl rfl) (pe_call (ok__law_draws T) hr (by rfl) T.g__law_draws T.F__law_draws.kp T.b__law_draws .nil pass0 (pa_cons (pe_call (ok__law_cell T) hr (by rfl) T.g__law_cell T.F__law_cell.kp T.b__law_cell .nil pass0 (pa_cons (pv 0) (pa_cons pe_int pa_nil))) (pa_cons (pe_op op_rep (pe_lst (pa_cons pe_int pa_nil)) (pv 4)) pa_nil))))
        (pss_one (ps_ret (pe_join pe_str (pe_lc (own := [("code", 8)]) (g := gName 8) (tt := tYes) rfl sc__law_text.nd (pi_list (pv 5)) (blkOk_by (N := ["script", "letters", "others", "drawn", "size", "codes", "text", "place", "code"]) (sc := defScope s__law_text) (own := [("code", 8)]) (by decide +kernel)) (fun _ _ _ _ _ => (pg_name (i := 8) sc__law_text.nd rfl (Or.inl rfl))) (fun _ _ _ _ _ => pts_nil) (fun _ _ _ _ _ => (pe_ix ix_str (pe_op op_add_str (pv 1) (pv 2)) (pv 8) (fun _ _ => rfl))))))))
        pss_nil)
      (pss_cons (ps_set (i := 5) sc__law_text.nd rfl (Or.inl rfl) (pe_call (ok__law_draws T) hr (by rfl) T.g__law_draws T.F__law_draws.kp T.b__law_draws .nil pass0 (pa_cons (pe_call (ok__law_cell T) hr (by rfl) T.g__law_cell T.F__law_cell.kp T.b__law_cell .nil pass0 (pa_cons (pv 0) (pa_cons pe_int pa_nil))) (pa_cons (pe_op op_rep (pe_lst (pa_cons pe_int pa_nil)) (pv 4)) pa_nil))))
      (pss_cons (ps_set (i := 6) sc__law_text.nd rfl (Or.inl rfl) (pe_join pe_str (pe_lc (own := [("code", 8)]) (g := gName 8) (tt := tYes) rfl sc__law_text.nd (pi_list (pv 5)) (blkOk_by (N := ["script", "letters", "others", "drawn", "size", "codes", "text", "place", "code"]) (sc := defScope s__law_text) (own := [("code", 8)]) (by decide +kernel)) (fun _ _ _ _ _ => (pg_name (i := 8) sc__law_text.nd rfl (Or.inl rfl))) (fun _ _ _ _ _ => pts_nil) (fun _ _ _ _ _ => (pe_ix ix_str (pv 1) (pv 8) (fun _ _ => rfl))))))
      (pss_cons (ps_set (i := 7) sc__law_text.nd rfl (Or.inl rfl) (pe_op op_mod (pe_callTy call_int1 (by rfl) T.n_int (by decide +kernel) (pa_cons (pe_ix ix_list (pv 3) pe_int (fun _ _ => rfl)) pa_nil)) (pe_op op_add (pv 4) pe_int)))
      (pss_cons (ps_if (pt_cmpR op_lt (pv 7) (pv 4) (nomark _))
        (pss_one (ps_ret (pe_op op_add_str (pe_op op_add_str (pe_slice sl_str (pv 6) po_none (po_some (pv 7))) (pe_ix ix_str (pv 2) (pe_ix ix_list (pv 3) pe_int (fun _ _ => rfl)) (fun _ _ => rfl))) (pe_slice sl_str (pv 6) (po_some (pe_op op_add (pv 7) pe_int)) po_none))))
        pss_nil)
      (pss_one (ps_ret (pv 6))))))))))))), ?_⟩
    walk_at "go"
    intro n
    walk_at "go"
    intro p np
    walk_at "go"
    refine ⟨SqL.of (xs := [8, 11, 61, 2, 64, 59].map V.int) upd_same, by decide, by decide, ?_⟩
    intro H1 d ds sm nd hd hin
    have s1 : Same H H1 := (same_upd np).trans sm
    obtain ⟨d0, _, rfl, _, _, hin⟩ := hin.cons
    obtain ⟨d1, _, rfl, _, _, hin⟩ := hin.cons
    obtain ⟨d2, _, rfl, _, _, hin⟩ := hin.cons
    obtain ⟨d3, _, rfl, _, _, hin⟩ := hin.cons
    obtain ⟨d4, _, rfl, _, _, hin⟩ := hin.cons
    obtain ⟨d5, _, rfl, _, _, hin⟩ := hin.cons
    obtain rfl := hin.nil
    walk_at "go"
    refine ⟨fun σ' H' => ∃ size : Int, σ' = [some (.ref a), some (.str LET), some (.str OTH), some (.ref d), some (.int size), none, none, none, none] ∧ H' = H1 ∧ 0 ≤ size ∧ size ≤ 60, ?_, ?_⟩
    · walk_at "go"
      refine iteD (fun e => ?_) (fun e => ?_)
      · walk_at "go"
        omega
      · walk_at "go"
        omega
    · rintro σ' H' ⟨size, rfl, rfl, hz0, hz1⟩
      have hS' := s1.seq hS
      walk_at "go"
      refine iteD (fun e => ?_) (fun e => ?_)
      · walk_at "go"
        intro m
        walk_at "go"
        intro p1 np1
        walk_at "go"
        intro p2 np2
        walk_at "go"
        refine ⟨SqL.of (xs := (List.replicate size.toNat 95).map V.int) (by rw [upd_same, rep_ints]), by rw [List.length_replicate]; omega, rep_ok (by decide) (by decide), ?_⟩
        intro H2 q1 ds2 sm2 nq hq hin2
        obtain ⟨hl2, hm2⟩ := hin2.rep
        walk_at "go"
        intro D nD
        refine lc_list (K := K) (a := q1) (xs := ds2.map V.int) (Built V.str (fun _ y => y.length = 1) H2 D) (.start nD) (fun _ _ _ h => h.1.seq (.of hq)) (fun i x H3 hx hB => ?_) (fun H3 hB => ?_)
        · obtain ⟨s3, ys, hD, hl, hP⟩ := hB
          rw [List.getElem?_map] at hx
          obtain ⟨c, hc, rfl⟩ := Option.map_eq_some_iff.mp hx
          obtain ⟨hc0, hc1⟩ := hm2 c (List.mem_of_getElem? hc)
          have hi := (List.getElem?_eq_some_iff.mp hc).1
          obtain ⟨t, ht⟩ := sign_at (z := LET ++ OTH) hc0 (by rw [both_len]; exact hc1)
          walk_at "go"
          exact Built.more (f := V.str) nD s3 hl hP rfl
        · obtain ⟨s3, ys, hD, hl, hP⟩ := hB
          have hsum := ones_sum hP
          rw [List.length_map] at hl
          walk_at "go"
          refine ⟨by rw [hsum, empty_len]; omega, ?_⟩
          walk_at "go"
          exact q _ _ (by rw [join_len, hsum]; omega)
      · walk_at "go"
        intro m
        walk_at "go"
        intro p1 np1
        walk_at "go"
        intro p2 np2
        walk_at "go"
        refine ⟨SqL.of (xs := (List.replicate size.toNat 36).map V.int) (by rw [upd_same, rep_ints]), by rw [List.length_replicate]; omega, rep_ok (by decide) (by decide), ?_⟩
        intro H2 q1 ds2 sm2 nq hq hin2
        obtain ⟨hl2, hm2⟩ := hin2.rep
        walk_at "go"
        intro D nD
        refine lc_list (K := K) (a := q1) (xs := ds2.map V.int) (Built V.str (fun _ y => y.length = 1) H2 D) (.start nD) (fun _ _ _ h => h.1.seq (.of hq)) (fun i x H3 hx hB => ?_) (fun H3 hB => ?_)
        · obtain ⟨s3, ys, hD, hl, hP⟩ := hB
          rw [List.getElem?_map] at hx
          obtain ⟨c, hc, rfl⟩ := Option.map_eq_some_iff.mp hx
          obtain ⟨hc0, hc1⟩ := hm2 c (List.mem_of_getElem? hc)
          have hi := (List.getElem?_eq_some_iff.mp hc).1
          obtain ⟨t, ht⟩ := sign_at (z := LET) hc0 (by rw [let_len]; exact hc1)
          walk_at "go"
          exact Built.more (f := V.str) nD s3 hl hP rfl
        · obtain ⟨s3, ys, hD, hl, hP⟩ := hB
          have hsum := ones_sum hP
          rw [List.length_map] at hl
          walk_at "go"
          refine ⟨by rw [hsum, empty_len]; omega, ?_⟩
          have hdd := s3 _ _ (sm2 _ _ (same_upd np2 _ _ (same_upd np1 _ _ hd)))
          have hdq : SqL K H3 d ([d0, d1, d2, d3, d4, d5].map V.int) := .of hdd
          obtain ⟨t, ht⟩ := sign_at (z := OTH) (k := d5) (by omega) (by rw [oth_len]; omega)
          have hjl : (Txt.join ("" : Str) ys).length ≤ 60 := by rw [join_len, hsum]; omega
          walk_at "go"
          refine iteD (fun e => ?_) (fun e => ?_)
          · walk_at "go"
            have hc1 := cutS_length (Txt.join ("" : Str) ys) none (some (d4 % (size + 3)))
            have hc2 := cutS_length (Txt.join ("" : Str) ys) (some (d4 % (size + 3) + 1)) none
            have ho : (⟨#[t]⟩ : Str).length = 1 := rfl
            refine ⟨szle (by omega), ?_⟩
            walk_at "go"
            refine ⟨szle (by rw [Str.length_append]; omega), ?_⟩
            exact q _ _ (by rw [Str.length_append, Str.length_append]; omega)
          · walk_at "go"
            exact q _ _ (by omega)
--@@DEF law
def sp_law (K : PySem.W.Frag) : Sp := fun vs H Q _ => ∃ (a : Addr) (ns : List Int), vs = [.ref a] ∧ SqL K H a (ns.map V.int) ∧ ns.length ≤ 63 ∧ ∀ H', Q (.bl true) H'
theorem ok_law (T : Env K mg) : FnOk P w K mg base CX0 3 T.f_law T.d_law ["script"] (sp_law K) := by
  refine T.F_law.ok sc_law (fun vs H Q E h => ?_) (fun cdv A outer s H vs Q E hr h => ?_)
  · obtain ⟨a, ns, rfl, hS, hlen, q⟩ := h
    rfl
  · obtain ⟨a, ns, rfl, hS, hlen, q⟩ := h
    refine ⟨_, (pss_cons (ps_set (i := 1) sc_law.nd rfl (Or.inl rfl) (pe_call (ok__law_text T) hr (by rfl) T.g__law_text T.F__law_text.kp T.b__law_text .nil pass0 (pa_cons (pv 0) pa_nil)))
      (pss_cons (ps_for PassesOwn.never rfl (pi_range1 (by rfl) T.n_range (pa_cons (pe_op op_add (pe_callB call_len_str (by rfl) T.n_len (by decide +kernel) (pa_cons (pv 1) pa_nil)) pe_int) pa_nil)) (pg_name (i := 2) sc_law.nd rfl (Or.inl rfl))
        (pss_cons (ps_set (i := 3) sc_law.nd rfl (Or.inl rfl) (pe_call (ok_valid_record T) (hr.mono (by decide)) (by rfl) T.g_valid_record T.F_valid_record.kp T.b_valid_record .nil pass0 (pa_cons (pe_slice sl_str (pv 1) po_none (po_some (pv 2))) pa_nil)))
        (pss_one (ps_if (PW.pt (pw_or (pt_not (pt_val (pe_callB call_isi (by rfl) T.n_isinstance (by decide +kernel) (pa_cons (pv 3) (pa_cons (pe_bltn (v := .ty "bool") (by rfl) T.n_bool (by decide +kernel) rfl) pa_nil))))) (pw_or1 (pt_cmpR op_ne (pv 3) (pe_call (ok__law_is_record T) (hr.mono (by decide)) (by rfl) T.g__law_is_record T.F__law_is_record.kp T.b__law_is_record .nil pass0 (pa_cons (pe_slice sl_str (pv 1) po_none (po_some (pv 2))) pa_nil)) (nomark _)))))
          (pss_one (ps_ret pe_bl))
          pss_nil))))
      (pss_one (ps_ret pe_bl)))), ?_⟩
    walk_at "go"
    intro z H' hz
    walk_at "go"
    refine for_range (fun i σ H' => ∃ k t, σ = [some (.ref a), some (.str z), k, t]) ⟨none, none, rfl⟩ ?_ ?_
    · rintro i σ H2 hi ⟨k, t, rfl⟩
      have hcl := cutS_length z none (some (0 + (i : Int)))
      walk_at "go"
      refine iteN (fun e => absurd rfl e) (fun _ => ?_)
      exact ⟨_, _, rfl⟩
    · rintro σ H2 ⟨k, t, rfl⟩
      exact q _
--@@END
end
theorem all_mk {l : PySem.W.OpenLaw} {w : World} {K : PySem.W.Frag} {h : Heap} {mg : Str → Option Value} {fa : Addr} (X : K.In h) (G : h.Ns mainGlobals mg) (hfa : mg "law" = some (.ref fa))
    {f_valid_record : Addr} {od_valid_record an_valid_record : Option Addr} {sl_valid_record : Array (Option Value)} {oc_valid_record kV_valid_record dc_valid_record pm_valid_record cd_valid_record ct_valid_record : Value}
    {f__law_cell : Addr} {od__law_cell an__law_cell : Option Addr} {sl__law_cell : Array (Option Value)} {oc__law_cell kV__law_cell dc__law_cell pm__law_cell cd__law_cell ct__law_cell : Value}
    {f__law_draws : Addr} {od__law_draws an__law_draws : Option Addr} {sl__law_draws : Array (Option Value)} {oc__law_draws kV__law_draws dc__law_draws pm__law_draws cd__law_draws ct__law_draws : Value}
    {f__law_is_record : Addr} {od__law_is_record an__law_is_record : Option Addr} {sl__law_is_record : Array (Option Value)} {oc__law_is_record kV__law_is_record dc__law_is_record pm__law_is_record cd__law_is_record ct__law_is_record : Value}
    {f__law_text : Addr} {od__law_text an__law_text : Option Addr} {sl__law_text : Array (Option Value)} {oc__law_text kV__law_text dc__law_text pm__law_text cd__law_text ct__law_text : Value}
    {f_law : Addr} {od_law an_law : Option Addr} {sl_law : Array (Option Value)} {oc_law kV_law dc_law pm_law cd_law ct_law : Value}
    {t__RECORD_SIGNS : Tok}
    {t__LONGEST_RECORD : Tok}
    (a_valid_record : PySem.W.nsIn K mainGlobals "valid_record" = some (some (.ref f_valid_record)))
    (l_valid_record : K.lookup f_valid_record = some ⟨oc_valid_record, od_valid_record, .func (PySem.W.fnOf "valid_record" "valid_record" (defArgs s_valid_record) (defBody s_valid_record) (defScope s_valid_record) .none kV_valid_record dc_valid_record pm_valid_record an_valid_record cd_valid_record ct_valid_record), sl_valid_record⟩)
    (c_valid_record : PySem.W.codeIn K cd_valid_record "valid_record" = true)
    (k_valid_record : PySem.W.keepIn K (.ref f_valid_record) = true)
    (a__law_cell : PySem.W.nsIn K mainGlobals "_law_cell" = some (some (.ref f__law_cell)))
    (l__law_cell : K.lookup f__law_cell = some ⟨oc__law_cell, od__law_cell, .func (PySem.W.fnOf "_law_cell" "_law_cell" (defArgs s__law_cell) (defBody s__law_cell) (defScope s__law_cell) .none kV__law_cell dc__law_cell pm__law_cell an__law_cell cd__law_cell ct__law_cell), sl__law_cell⟩)
    (c__law_cell : PySem.W.codeIn K cd__law_cell "_law_cell" = true)
    (k__law_cell : PySem.W.keepIn K (.ref f__law_cell) = true)
    (a__law_draws : PySem.W.nsIn K mainGlobals "_law_draws" = some (some (.ref f__law_draws)))
    (l__law_draws : K.lookup f__law_draws = some ⟨oc__law_draws, od__law_draws, .func (PySem.W.fnOf "_law_draws" "_law_draws" (defArgs s__law_draws) (defBody s__law_draws) (defScope s__law_draws) .none kV__law_draws dc__law_draws pm__law_draws an__law_draws cd__law_draws ct__law_draws), sl__law_draws⟩)
    (c__law_draws : PySem.W.codeIn K cd__law_draws "_law_draws" = true)
    (k__law_draws : PySem.W.keepIn K (.ref f__law_draws) = true)
    (a__law_is_record : PySem.W.nsIn K mainGlobals "_law_is_record" = some (some (.ref f__law_is_record)))
    (l__law_is_record : K.lookup f__law_is_record = some ⟨oc__law_is_record, od__law_is_record, .func (PySem.W.fnOf "_law_is_record" "_law_is_record" (defArgs s__law_is_record) (defBody s__law_is_record) (defScope s__law_is_record) .none kV__law_is_record dc__law_is_record pm__law_is_record an__law_is_record cd__law_is_record ct__law_is_record), sl__law_is_record⟩)
    (c__law_is_record : PySem.W.codeIn K cd__law_is_record "_law_is_record" = true)
    (k__law_is_record : PySem.W.keepIn K (.ref f__law_is_record) = true)
    (a__law_text : PySem.W.nsIn K mainGlobals "_law_text" = some (some (.ref f__law_text)))
    (l__law_text : K.lookup f__law_text = some ⟨oc__law_text, od__law_text, .func (PySem.W.fnOf "_law_text" "_law_text" (defArgs s__law_text) (defBody s__law_text) (defScope s__law_text) .none kV__law_text dc__law_text pm__law_text an__law_text cd__law_text ct__law_text), sl__law_text⟩)
    (c__law_text : PySem.W.codeIn K cd__law_text "_law_text" = true)
    (k__law_text : PySem.W.keepIn K (.ref f__law_text) = true)
    (a_law : PySem.W.nsIn K mainGlobals "law" = some (some (.ref f_law)))
    (l_law : K.lookup f_law = some ⟨oc_law, od_law, .func (PySem.W.fnOf "law" "law" (defArgs s_law) (defBody s_law) (defScope s_law) .none kV_law dc_law pm_law an_law cd_law ct_law), sl_law⟩)
    (c_law : PySem.W.codeIn K cd_law "law" = true)
    (k_law : PySem.W.keepIn K (.ref f_law) = true)
    (a__RECORD_SIGNS : PySem.W.nsIn K mainGlobals "_RECORD_SIGNS" = some (some (.str "abcdefghijklmnopqrstuvwxyz0123456789" t__RECORD_SIGNS)))
    (a__LONGEST_RECORD : PySem.W.nsIn K mainGlobals "_LONGEST_RECORD" = some (some (.int 8 t__LONGEST_RECORD)))
    (z_len : PySem.W.nsIn K mainGlobals "len" = some none)
    (z_int : PySem.W.nsIn K mainGlobals "int" = some none)
    (z_range : PySem.W.nsIn K mainGlobals "range" = some none)
    (z_isinstance : PySem.W.nsIn K mainGlobals "isinstance" = some none)
    (z_bool : PySem.W.nsIn K mainGlobals "bool" = some none) :
    ∃ fd : FuncData, (∀ (s : Shared) (v : Value), BindsTo s fd ⟨[v], []⟩ [("script", v)]) ∧ ∀ base : Heap, K.In base → base.Ns mainGlobals mg → FnOk l.prog w K mg base CX0 3 fa fd ["script"] (sp_law K) := by
  have e : fa = f_law := by
    have e := hfa.symm.trans (PySem.W.mg_of X G a_law)
    cases e
    rfl
  have T : ∃ T : Env K mg, T.f_law = f_law ∧ T.d_law = PySem.W.fnOf "law" "law" (defArgs s_law) (defBody s_law) (defScope s_law) .none kV_law dc_law pm_law an_law cd_law ct_law := ⟨{ f_valid_record := f_valid_record, d_valid_record := _, F_valid_record := fun_mk (st := s_valid_record) l_valid_record c_valid_record k_valid_record, b_valid_record := ((fun_mk (st := s_valid_record) l_valid_record c_valid_record k_valid_record).binds (ps := ["text"]) fun _ _ _ _ _ _ us hl => match us, hl with | [_], _ => rfl), g_valid_record := PySem.W.mg_of X G a_valid_record, f__law_cell := f__law_cell, d__law_cell := _, F__law_cell := fun_mk (st := s__law_cell) l__law_cell c__law_cell k__law_cell, b__law_cell := ((fun_mk (st := s__law_cell) l__law_cell c__law_cell k__law_cell).binds (ps := ["script", "k"]) fun _ _ _ _ _ _ us hl => match us, hl with | [_, _], _ => rfl), g__law_cell := PySem.W.mg_of X G a__law_cell, f__law_draws := f__law_draws, d__law_draws := _, F__law_draws := fun_mk (st := s__law_draws) l__law_draws c__law_draws k__law_draws, b__law_draws := ((fun_mk (st := s__law_draws) l__law_draws c__law_draws k__law_draws).binds (ps := ["cell", "sizes"]) fun _ _ _ _ _ _ us hl => match us, hl with | [_, _], _ => rfl), g__law_draws := PySem.W.mg_of X G a__law_draws, f__law_is_record := f__law_is_record, d__law_is_record := _, F__law_is_record := fun_mk (st := s__law_is_record) l__law_is_record c__law_is_record k__law_is_record, b__law_is_record := ((fun_mk (st := s__law_is_record) l__law_is_record c__law_is_record k__law_is_record).binds (ps := ["text"]) fun _ _ _ _ _ _ us hl => match us, hl with | [_], _ => rfl), g__law_is_record := PySem.W.mg_of X G a__law_is_record, f__law_text := f__law_text, d__law_text := _, F__law_text := fun_mk (st := s__law_text) l__law_text c__law_text k__law_text, b__law_text := ((fun_mk (st := s__law_text) l__law_text c__law_text k__law_text).binds (ps := ["script"]) fun _ _ _ _ _ _ us hl => match us, hl with | [_], _ => rfl), g__law_text := PySem.W.mg_of X G a__law_text, f_law := f_law, d_law := _, F_law := fun_mk (st := s_law) l_law c_law k_law, b_law := ((fun_mk (st := s_law) l_law c_law k_law).binds (ps := ["script"]) fun _ _ _ _ _ _ us hl => match us, hl with | [_], _ => rfl), g_law := PySem.W.mg_of X G a_law, t__RECORD_SIGNS := t__RECORD_SIGNS, g__RECORD_SIGNS := PySem.W.mg_of X G a__RECORD_SIGNS, t__LONGEST_RECORD := t__LONGEST_RECORD, g__LONGEST_RECORD := PySem.W.mg_of X G a__LONGEST_RECORD, n_len := PySem.W.mg_none_of X G z_len, n_int := PySem.W.mg_none_of X G z_int, n_range := PySem.W.mg_none_of X G z_range, n_isinstance := PySem.W.mg_none_of X G z_isinstance, n_bool := PySem.W.mg_none_of X G z_bool }, rfl, rfl⟩
  obtain ⟨T, e1, e2⟩ := T
  refine ⟨PySem.W.fnOf "law" "law" (defArgs s_law) (defBody s_law) (defScope s_law) .none kV_law dc_law pm_law an_law cd_law ct_law, fun s v => .of_eq rfl, fun base _ _ => ?_⟩
  rw [e, ← e1, ← e2]
  exact ok_law T
end Pf
open PySem PySem.W PyProof.Rows
set_option maxHeartbeats 0 in
theorem PySem.Challenge.cw_wornsheaf_k01_valid_records_holds : PySem.Challenge.rw_wornsheaf_k01_valid_records.Holds := by
  w_on; o_law; k_head; (case hw => w_witness2)
  k_fill
  refine L2.walk_of (l := PySem.Challenge.rw_wornsheaf_k01_valid_records) (n := 63) (k := 3) (x := "script") (CX := fun _ => L2.CX0) (sp := fun w => Pf.sp_law _) rfl (by decide) rfl ⟨rfl, by decide, by decide⟩ (fun w h Y => PySem.W.kIn_of Y) ?F (fun _ _ a ns hl _ hS => ⟨a, ns, rfl, hS, hl, fun _ => rfl⟩) (fun _ _ _ _ _ h => h)
  case F =>
    intro w mg fa h KX G hmg
    refine' Pf.all_mk KX G hmg ?a_valid_record ?l_valid_record ?c_valid_record ?k_valid_record ?a__law_cell ?l__law_cell ?c__law_cell ?k__law_cell ?a__law_draws ?l__law_draws ?c__law_draws ?k__law_draws ?a__law_is_record ?l__law_is_record ?c__law_is_record ?k__law_is_record ?a__law_text ?l__law_text ?c__law_text ?k__law_text ?a_law ?l_law ?c_law ?k_law ?a__RECORD_SIGNS ?a__LONGEST_RECORD ?z_len ?z_int ?z_range ?z_isinstance ?z_bool
    (case a_valid_record => k_is)
    (case l_valid_record => k_is)
    (case c_valid_record => k_is)
    (case k_valid_record => k_is)
    (case a__law_cell => k_is)
    (case l__law_cell => k_is)
    (case c__law_cell => k_is)
    (case k__law_cell => k_is)
    (case a__law_draws => k_is)
    (case l__law_draws => k_is)
    (case c__law_draws => k_is)
    (case k__law_draws => k_is)
    (case a__law_is_record => k_is)
    (case l__law_is_record => k_is)
    (case c__law_is_record => k_is)
    (case k__law_is_record => k_is)
    (case a__law_text => k_is)
    (case l__law_text => k_is)
    (case c__law_text => k_is)
    (case k__law_text => k_is)
    (case a_law => k_is)
    (case l_law => k_is)
    (case c_law => k_is)
    (case k_law => k_is)
    (case a__RECORD_SIGNS => k_is)
    (case a__LONGEST_RECORD => k_is)
    (case z_len => k_is)
    (case z_int => k_is)
    (case z_range => k_is)
    (case z_isinstance => k_is)
    (case z_bool => k_is)
